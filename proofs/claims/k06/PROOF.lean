import PyProof.Rows.All
import Wide.All
import OpenK.KLine
import KE.KIntText
import KE.KIsAll
import KE.KItemsList
import KE.KRevIter
import KE.KSortTup
import KE.LcSums
import KE.KPairComp
import Wide.FinOn
import Lean
import PyProof.EqAt
import PyProof.EqKinds
import PyProof.TupleCall
import OpenK.KOwn
import PySem.Challenge.RW_retryhall_k06_deeds_refused
set_option Elab.async false
set_option linter.all false
set_option maxRecDepth 100000
set_option maxHeartbeats 4000000
set_option compiler.extract_closed false
open PySem.W (fnOf findIn keepIn subIn codeIn nsIn isFn mg_of plainGet hasDictIn makesIn instObj typeIn emptyDict mroIn kia_one)
local macro_rules | `(tactic| rfl')=>`(tactic| decide +kernel)
open List (mem_cons_self mem_cons_of_mem getElem?_set_self getElem?_set_ne mem_append_right length_cons map_cons length_map append_nil of_mem_zip replicate length_take getElem?_append_right getElem?_replicate getElem?_append_left getElem?_map mem_of_getElem? length_append map_nil length_drop size_toArray length_set any_cons getElem_of_mem idxOf map_append lookup_cons prefix_refl getElem?_eq_none length_nil map_map mem_cons not_mem_nil append_assoc)
open Nat (lt_of_lt_of_le lt_irrefl ne_of_lt le_of_lt le_of_eq zero_le)
open Option (map_some bind_some)
open Bool (and_eq_true)
open Int (zero_add)
open PySem.F (plainAttrs_list)
noncomputable section
namespace L2
open PySem PySem.Spec PyProof.Rows
abbrev Key:=Sum Int Str
def yxX:Key->Value->Bool
 | .inl k,v=>Value.isInt k v
 | .inr x,v=>Value.isStrOf x v
def yFL (w:World):Key->Int
 | .inl k=>hashInt k
 | .inr x=>hashStr w x
theorem ycb:∀ {k:Key}{v:Value},yxX k v=true->(∃ i t,k=Sum.inl i/\v=Value.int i t)\/(∃ x t,k=Sum.inr x/\v=Value.str x t)
 | .inl i,v,h=>by
  obtain ⟨t,e⟩:=Value.isInt_shape (k:=i) (v:=v) h
  exact .inl ⟨i,t,rfl,e⟩
 | .inr x,v,h=>by
  obtain ⟨t,e⟩:=Value.isStrOf_shape (x:=x) (v:=v) h
  exact .inr ⟨x,t,rfl,e⟩
theorem yxY (a b:Int):decide ((Sum.inl a:Key)=Sum.inl b)=(a == b):=by
 by_cases e:a=b
 .subst e;simp
 .have h:¬ (Sum.inl a:Key)=Sum.inl b:=fun q=>e (Sum.inl.inj q)
  rw [decide_eq_false h]
  exact (beq_eq_false_iff_ne.mpr e).symm
theorem yxZ (a b:Str):decide ((Sum.inr a:Key)=Sum.inr b)=decide (a=b):=by
 by_cases e:a=b
 .subst e;simp
 .have h:¬ (Sum.inr a:Key)=Sum.inr b:=fun q=>e (Sum.inr.inj q)
  rw [decide_eq_false h,decide_eq_false e]
theorem yya (a:Int) (b:Str):decide ((Sum.inl a:Key)=Sum.inr b)=false:=decide_eq_false (fun q=>nomatch q)
theorem yyb (a:Str) (b:Int):decide ((Sum.inr a:Key)=Sum.inl b)=false:=decide_eq_false (fun q=>nomatch q)
noncomputable def ypa (prog:Program) (w:World):PySem.KeyKind prog w Key where
 is:=yxX
 hash:=yFL w
 inj:=fun v a b ha hb=>by
  rcases ycb ha with ⟨i,t,rfl,rfl⟩|⟨x,t,rfl,rfl⟩
  .rcases ycb hb with ⟨j,u,rfl,e⟩|⟨y,u,rfl,e⟩
   .injection e with e1 _;rw [e1]
   .exact nomatch e
  .rcases ycb hb with ⟨j,u,rfl,e⟩|⟨y,u,rfl,e⟩
   .exact nomatch e
   .injection e with e1 _;rw [e1]
 byValue:=fun k v h=>by
  rcases ycb h with ⟨i,t,rfl,rfl⟩|⟨x,t,rfl,rfl⟩<;>rfl
 pyHash:=fun hv h=>by
  rcases ycb hv with ⟨i,t,rfl,rfl⟩|⟨x,t,rfl,rfl⟩
  .exact wpAny_pyHash_int h
  .exact wpAny_pyHash_str h
 eqBool:=fun hu hv h=>by
  rcases ycb hu with ⟨i,t,rfl,rfl⟩|⟨x,t,rfl,rfl⟩
  .rcases ycb hv with ⟨j,u,rfl,rfl⟩|⟨y,u,rfl,rfl⟩
   .rw [yxY] at h;exact wpAny_eqBool_int h
   .rw [yya] at h;exact SeqAt.EqAt.int_str i t y u _ _ _ _ h
  .rcases ycb hv with ⟨j,u,rfl,rfl⟩|⟨y,u,rfl,rfl⟩
   .rw [yyb] at h;exact SeqAt.EqAt.str_int x t j u _ _ _ _ h
   .rw [yxZ] at h;exact wpAny_eqBool_str h
 «strs»:=fun k x t v h=>by
  rcases ycb h with ⟨i,u,rfl,e⟩|⟨y,u,rfl,e⟩
  .exact nomatch e
  .injection e with e1 _
   subst e1
   cases v<;>rfl
end L2
namespace L2
open PySem PySem.Spec PyProof.Rows
inductive V where
 | non|bl (b:Bool)|int (i:Int)|str (x:Str)|byt (b:Array UInt8)|flt (b:UInt64)|ref (a:Addr)|ty (n:String)
 deriving DecidableEq
noncomputable def RelV:V->Value->Prop
 | .non,u=>u=Value.none
 | .bl b,u=>u=Value.bool b
 | .int i,u=>∃ t,u=Value.int i t
 | .str x,u=>∃ t,u=Value.str x t
 | .byt b,u=>∃ t,u=Value.bytes b t
 | .flt b,u=>∃ t,u=Value.float b t
 | .ref a,u=>u=Value.ref a
 | .ty n,u=>u=Value.type n
abbrev Vals:List V->List Value->Prop:=Paired RelV
theorem Vals.length {xs:List V}{us:List Value}(r:Vals xs us):xs.length=us.length:=Paired.length r
theorem Vals.get:∀ {xs:List V}{us:List Value}{i:Nat}{x:V},Vals xs us->xs[i]?=some x->∃ u,us[i]?=some u/\RelV x u
 | _,_,_,_,.nil,e=>by simp at e
 | _,_,0,_,.cons r _,e=>by simp at e;subst e;exact ⟨_,rfl,r⟩
 | _,_,i+1,x,.cons _ t,e=>by
  obtain ⟨u,h1,h2⟩:=Vals.get (i:=i) (x:=x) t (by simpa using e)
  exact ⟨u,by simpa using h1,h2⟩
theorem Vals.set {x:V}{u:Value}(r:RelV x u):∀ {xs:List V}{us:List Value}(i:Nat),Vals xs us->Vals (xs.set i x) (us.set i u)
 | _,_,_,.nil=>.nil
 | _,_,0,.cons _ t=>.cons r t
 | _,_,i+1,.cons q t=>.cons q (Vals.set r i t)
theorem Vals.append:∀ {xs ys:List V}{us ws:List Value},Vals xs us->Vals ys ws->Vals (xs++ys) (us++ws)
 | _,_,_,_,.nil,s=>s
 | _,_,_,_,.cons r t,s=>.cons r (Vals.append t s)
theorem Vals.take:∀ {xs:List V}{us:List Value}(n:Nat),Vals xs us->Vals (xs.take n) (us.take n)
 | _,_,0,_=>.nil
 | _,_,_+1,.nil=>.nil
 | _,_,n+1,.cons r t=>.cons r (Vals.take n t)
theorem Vals.drop:∀ {xs:List V}{us:List Value}(n:Nat),Vals xs us->Vals (xs.drop n) (us.drop n)
 | _,_,0,r=>r
 | _,_,_+1,.nil=>.nil
 | _,_,n+1,.cons _ t=>Vals.drop n t
def RelO:Option V->Option Value->Prop
 | some v,some u=>RelV v u
 | none,none=>True
 | _,_=>False
def KV {κ:Type}:List (κ×V)->List (κ×Value)->Prop:=Paired fun (p:κ×V) (q:κ×Value)=>p.1=q.1/\RelV p.2 q.2
def kV:Key->V
 | .inl i=>.int i
 | .inr x=>.str x
inductive HO where
 | lst (xs:List V)
 | tup (xs:List V)
 | dK (kvs:List (Key×V))|dT (kvs:List (List Key×V))
 | set (S:Int->Bool) (n:Nat)
 | ins (C dx:Addr) (fs:List (Str×V))
 | own (x:Addr)
 | xd (fs:List (Str×V))
 | met (f x:Addr)
 | rng (lo hi:Int)
 | frz (o:Obj) (u:HO)
 | tbl (ps:Array Value)
 | ext (φ:Heap->Prop)
abbrev Hp:=Addr->Option HO
def upd (H:Hp) (a:Addr) (o:HO):Hp:=fun b=>if b=a then some o else H b
theorem yba {H:Hp}{a:Addr}{o:HO}:upd H a o a=some o:=by unfold upd;rw [if_pos rfl]
theorem yR {H:Hp}{a b:Addr}{o:HO}(h:b≠a):upd H a o b=H b:=by unfold upd;rw [if_neg h]
theorem ybU {H:Hp}{a b:Addr}{o:HO}(h:H a=some o) (h':H b=none):a≠b:=by
 intro e;subst e;rw [h] at h';cases h'
section
variable (P:Program) (w:World)
def ObjOk (H:Hp) (h:Heap) (a:Addr):HO->Prop
 | .lst xs=>xs.length<=sizeLine/\∃ (its:List Value) (n:Nat),Vals xs its/\h.get? a=some { cls:=.type "list",data:=.seq its.toArray n }
 | .tup xs=>xs.length<=sizeLine/\∃ its:List Value,Vals xs its/\IsTup h a its.toArray
 | .dK kvs=>kvs.length<=sizeLine/\(a == sysModules)=false/\∃ vs,KV kvs vs/\h.DictOf (ypa P w) a vs
 | .dT kvs=>kvs.length<=sizeLine/\(a == sysModules)=false/\∃ xs:List (List Key×Addr×Value),
   Paired (fun (p:List Key×V) (q:List Key×Addr×Value)=>p.1=q.1/\H q.2.1=some (.tup (p.1.map kV))/\RelV p.2 q.2.2) kvs xs /\
   ∃ o es ep,h.get? a=some o/\o.ExactDict/\o.data=.dict es ep/\es.toList=xs.map (entryOfKey (tupleKind (ypa P w)))/\(xs.map (·.1)).Nodup
 | .set S n=>h.SetOf (intKind P w) a S n
 | .ins C dx fs=>H dx=some (.own a)/\fs.length<=1000/\dx≠a/\h.get? a=some (instObj C dx) /\
   ∃ mA,h.Ns1 dx mA/\(∀ f,RelO (fs.lookup f) (mA f))/\PySem.Within mA (fs.map (·.1))
 | .own _=>∃ o,h.get? a=some o
 | .xd fs=>∃ mA,h.Ns1 a mA/\∀ f,RelO (fs.lookup f) (mA f)
 | .rng lo hi=>∃ t u v,h.get? a=some { cls:=.type "range",data:=.fields #[.int lo t,.int hi u,.int 1 v] }
 | .frz o u=>h.get? a=some o/\ObjOk H h a u
 | .tbl ps=>h.get? a=some { cls:=.none,data:=.fields ps }
 | .met f x=>h.get? a=some (PySem.W.methodObj (.ref f) (.ref x))
 | .ext φ=>φ h/\(∃ o,h.get? a=some o)/\∀ h1 h2:Heap,φ h1->(∀ o,h1.get? a=some o->h2.get? a=some o)->φ h2
def HOk (H:Hp) (h:Heap):Prop:=∀ a o,H a=some o->ObjOk P w H h a o
end
section
variable {P:Program}{w:World}{H H':Hp}{h h':Heap}{a:Addr}{o:HO}
theorem ObjOk.lt (x:ObjOk P w H h a o):a<h.objs.size:=by
 cases o with
 | lst xs=>obtain ⟨_,_,_,_,e⟩:=x;exact Heap.lt_size e
 | tup xs=>obtain ⟨_,_,_,p⟩:=x;exact p.lt
 | dK kvs=>obtain ⟨_,_,_,_,o,_,_,e,_⟩:=x;exact Heap.lt_size e
 | dT kvs=>obtain ⟨_,_,_,_,o,_,_,e,_⟩:=x;exact Heap.lt_size e
 | set S n=>obtain ⟨o,_,_,_,e,_⟩:=x;exact Heap.lt_size e
 | ins C dx fs=>obtain ⟨_,_,_,e,_⟩:=x;exact Heap.lt_size e
 | own y=>obtain ⟨_,e⟩:=x;exact Heap.lt_size e
 | xd fs=>obtain ⟨_,⟨_,_,_,e,_⟩,_⟩:=x;exact Heap.lt_size e
 | rng lo hi=>obtain ⟨_,_,_,e⟩:=x;exact Heap.lt_size e
 | frz ob u=>obtain ⟨e,_⟩:=x;exact Heap.lt_size e
 | tbl ps=>exact Heap.lt_size (show h.get? a=some _ from x)
 | met f y=>exact Heap.lt_size (show h.get? a=some _ from x)
 | ext φ=>obtain ⟨_,⟨_,e⟩,_⟩:=x;exact Heap.lt_size e
theorem Paired.mapP {α β:Type}{F G:α->β->Prop}:∀ {l₁:List α}{l₂:List β},Paired F l₁ l₂->(∀ a b,F a b->G a b)->Paired G l₁ l₂
 | _,_,.nil,_=>.nil
 | _,_,.cons r t,f=>.cons (f _ _ r) (Paired.mapP t f)
theorem ObjOk.stay (x:ObjOk P w H h a o) (k:∀ b u,(b=a\/H b=some (.own a))->h.get? b=some u->h'.get? b=some u)
  (ho:∀ b,H b=some (.own a)->H' b=some (.own a)) (ht:∀ b xs,H b=some (.tup xs)->H' b=some (.tup xs)):ObjOk P w H' h' a o:=by
 induction o with
 | lst xs=>obtain ⟨z,its,n,r,e⟩:=x;exact ⟨z,its,n,r,k _ _ (.inl rfl) e⟩
 | tup xs=>obtain ⟨z,its,r,ob,e,c⟩:=x;exact ⟨z,its,r,ob,k _ _ (.inl rfl) e,c⟩
 | dK kvs=>obtain ⟨z,y,vs,r,ob,es,ep,e,c⟩:=x;exact ⟨z,y,vs,r,ob,es,ep,k _ _ (.inl rfl) e,c⟩
 | dT kvs =>
  obtain ⟨z,y,xs,r,ob,es,ep,e,c⟩:=x
  exact ⟨z,y,xs,Paired.mapP r fun p q z=>⟨z.1,ht _ _ z.2.1,z.2.2⟩,ob,es,ep,k _ _ (.inl rfl) e,c⟩
 | set S n=>obtain ⟨ob,es,ep,t,e,c⟩:=x;exact ⟨ob,es,ep,t,k _ _ (.inl rfl) e,c⟩
 | ins C dx fs =>
  obtain ⟨d,z,ne,e,mA,⟨od,es,ep,e2,c⟩,r⟩:=x
  exact ⟨ho _ d,z,ne,k _ _ (.inl rfl) e,mA,⟨od,es,ep,k _ _ (.inr d) e2,c⟩,r⟩
 | own y=>obtain ⟨ob,e⟩:=x;exact ⟨ob,k _ _ (.inl rfl) e⟩
 | xd fs=>obtain ⟨mA,⟨od,es,ep,e,c⟩,r⟩:=x;exact ⟨mA,⟨od,es,ep,k _ _ (.inl rfl) e,c⟩,r⟩
 | rng lo hi=>obtain ⟨t,u,v,e⟩:=x;exact ⟨t,u,v,k _ _ (.inl rfl) e⟩
 | frz ob u ih=>obtain ⟨e,q⟩:=x;exact ⟨k _ _ (.inl rfl) e,ih q⟩
 | tbl ps =>
  have e:h.get? a=some { cls:=.none,data:=.fields ps }:=x
  show h'.get? a=some { cls:=.none,data:=.fields ps }
  exact k a _ (.inl rfl) e
 | met f y =>
  have e:h.get? a=some (PySem.W.methodObj (.ref f) (.ref y)):=x
  show h'.get? a=some (PySem.W.methodObj (.ref f) (.ref y))
  exact k a _ (.inl rfl) e
 | ext φ=>obtain ⟨p,⟨o,e⟩,st⟩:=x;exact ⟨st _ _ p fun o q=>k _ _ (.inl rfl) q,⟨o,k _ _ (.inl rfl) e⟩,st⟩
theorem HOk.lt (x:HOk P w H h) (e:H a=some o):a<h.objs.size:=(x a o e).lt
theorem HOk.fresh (x:HOk P w H h) (e:h.objs.size<=a):H a=none:=by
 cases q:H a with
 | none=>rfl
 | some u=>exact absurd (lt_of_lt_of_le (x.lt q) e) (lt_irrefl _)
theorem HOk.kept (x:HOk P w H h) (k:∀ b u,h.get? b=some u->h'.get? b=some u):HOk P w H h':=fun a o e =>
 (x a o e).stay (fun b u _ q=>k b u q) (fun _ q=>q) fun _ _ q=>q
theorem HOk.laid (x:HOk P w H h) (k:∀ b u,h.get? b=some u->h'.get? b=some u) (hp:h.objs.size<=a) (new:ObjOk P w (upd H a o) h' a o):HOk P w (upd H a o) h':=fun b u e=>by
 have hn:=x.fresh hp
 by_cases hb:b=a
 .subst hb;rw [yba] at e;cases e;exact new
 .rw [yR hb] at e
  exact (x b u e).stay (fun c v _ q=>k c v q) (fun c q=>by rw [yR (ybU q hn)];exact q) fun c xs q=>by rw [yR (ybU q hn)];exact q
end
def Rd (H:Hp) (a:Addr) (u:HO):Prop:=H a=some u\/∃ o,H a=some (.frz o u)
theorem Rd.ok {P:Program}{w:World}{H:Hp}{h:Heap}{a:Addr}{u:HO}(r:Rd H a u) (x:HOk P w H h):ObjOk P w H h a u:=by
 rcases r with r|⟨o,r⟩
 .exact x a u r
 .obtain ⟨_,q⟩:=x a _ r
  exact q
noncomputable def Mut:Option HO->Prop
 | some (.lst _)=>True
 | some (.dK _)=>True
 | some (.dT _)=>True
 | some (.set _ _)=>True
 | some (.ins _ _ _)=>True
 | some (.ext _)=>True
 | _=>False
section
variable {P:Program}{w:World}{H:Hp}{h h':Heap}{x e:Addr}{o':HO}
theorem HOk.write (ok:HOk P w H h) (mu:Mut (H x)) (he:e=x\/H e=some (.own x)) (k:∀ b u,b≠e->h.get? b=some u->h'.get? b=some u) (heo:∃ u,h'.get? e=some u)
  (new:ObjOk P w (upd H x o') h' x o'):HOk P w (upd H x o') h':=fun b u q=>by
 have nown:∀ c y,H c=some (.own y)->c≠x:=fun c y r z=>by subst z;rw [r] at mu;exact mu
 have ntup:∀ c xs,H c=some (.tup xs)->c≠x:=fun c xs r z=>by subst z;rw [r] at mu;exact mu
 by_cases hb:b=x
 .subst hb;rw [yba] at q;cases q;exact new
 .rw [yR hb] at q
  by_cases hbe:b=e
  .have q':H b=some (.own x):=by
    rcases he with z|z
    .exact absurd (hbe.trans z) hb
    .rw [hbe];exact z
   rw [q] at q';cases q'
   obtain ⟨v,hv⟩:=heo
   exact ⟨v,by rw [hbe];exact hv⟩
  .refine (ok b u q).stay (fun c v hc r=>k c v ?_ r) (fun c r=>by rw [yR (nown c b r)];exact r) fun c xs r=>by rw [yR (ntup c xs r)];exact r
   rcases hc with rfl|hc
   .exact hbe
   .rintro rfl
    rcases he with z|z
    .exact nown c b hc z
    .rw [hc] at z;cases z;exact hb rfl
end
structure Un (fs ex:List Addr) (H H':Hp) (h h':Heap):Prop where
 keep:∀ b o,h.get? b=some o->H b=none->b∉fs->b∉ex->h'.get? b=some o
 slot:∀ b o,h.get? b=some o->H b=none->b∈fs->b∉ex->∃ sl,h'.get? b=some { o with slots:=sl }
 free:∀ b o,h.get? b=some o->H b=none->b∉ex->H' b=none
 there:∀ b o,h.get? b=some o->b∉ex->∃ o',h'.get? b=some o'
 tups:∀ b xs,H b=some (.tup xs)->H' b=some (.tup xs)
 frzs:∀ b o u,H b=some (.frz o u)->H' b=some (.frz o u)
 tbls:∀ b ps,H b=some (.tbl ps)->∃ more,H' b=some (.tbl (ps++more))
section
variable {fs fs' ex ex':List Addr}{H H1 H2:Hp}{h h1 h2 h':Heap}{a x e:Addr}{o:HO}
theorem Un.any (u:Un fs ex H H1 h h1) {b:Addr}{ob:Obj}(q:h.get? b=some ob) (n:H b=none) (hx:b∉ex):∃ sl,h1.get? b=some { ob with slots:=sl }:=by
 by_cases hb:b∈fs
 .exact u.slot b ob q n hb hx
 .exact ⟨ob.slots,u.keep b ob q n hb hx⟩
theorem Un.kept (k:∀ b u,h.get? b=some u->h'.get? b=some u):Un fs ex H H h h' :=
 ⟨fun b ob q _ _ _=>k b ob q,fun b ob q _ _ _=>⟨ob.slots,k b ob q⟩,fun _ _ _ n _=>n,fun b ob q _=>⟨ob,k b ob q⟩,fun _ _ q=>q,fun _ _ _ q=>q,fun _ ps q=>⟨#[],by rw [q];simp⟩⟩
theorem Un.refl:Un fs ex H H h h:=Un.kept fun _ _ q=>q
theorem Un.laid (k:∀ b u,h.get? b=some u->h'.get? b=some u) (hp:h.objs.size<=a) (hn:H a=none):Un fs ex H (upd H a o) h h' where
 keep:=fun b u q _ _ _=>k b u q
 slot:=fun b u q _ _ _=>⟨u.slots,k b u q⟩
 free:=fun b u q n _=>by rw [yR (ne_of_lt (lt_of_lt_of_le (Heap.lt_size q) hp))];exact n
 there:=fun b u q _=>⟨u,k b u q⟩
 tups:=fun b xs q=>by rw [yR (ybU q hn)];exact q
 frzs:=fun b u xs q=>by rw [yR (ybU q hn)];exact q
 tbls:=fun b ps q=>⟨#[],by rw [yR (ybU q hn),q];simp⟩
theorem Un.write (mu:Mut (H x)) (he:e=x\/H e=some (.own x)) (k:∀ b u,b≠e->h.get? b=some u->h'.get? b=some u) (heo:∃ u,h'.get? e=some u):Un fs ex H (upd H x o) h h':=by
 have hx:∀ b,H b=none->b≠x:=fun b n z=>by subst z;rw [n] at mu;exact mu
 have hb:∀ b,H b=none->b≠e:=fun b n z=>by
  subst z
  rcases he with r|r
  .exact hx b n r
  .rw [n] at r;cases r
 have hm:∀ b u,H b=some u->¬ Mut (some u)->b≠x:=fun b u q nm z=>by subst z;rw [q] at mu;exact nm mu
 refine ⟨fun b u q n _ _=>k b u (hb b n) q,fun b u q n _ _=>⟨u.slots,k b u (hb b n) q⟩,fun b u q n _=>by rw [yR (hx b n)];exact n,fun b u q _=>?_,
  fun b xs q=>by rw [yR (hm b _ q fun z=>z)];exact q,fun b u xs q=>by rw [yR (hm b _ q fun z=>z)];exact q,fun b ps q=>⟨#[],by rw [yR (hm b _ q fun z=>z),q];simp⟩⟩
 by_cases hbe:b=e
 .subst hbe;exact heo
 .exact ⟨u,k b u hbe q⟩
end
def trk (h:Heap) (H:Hp):List Addr:=(List.range h.objs.size).filter fun a=>(H a).isSome
def yrK (h:Heap) (H:Hp):Heap:=PySem.W.hideAll h (trk h H)
theorem ypb (h:Heap) (H:Hp):(yrK h H).objs.size=h.objs.size:=PySem.W.hideAll_size _ _
theorem yrL {h:Heap}{H:Hp}{b:Addr}{o:Obj}(e:h.get? b=some o) (n:H b=none):(yrK h H).get? b=some o :=
 PySem.W.hideAll_get _ e fun hm=>by
  have q:(H b).isSome=true:=(List.mem_filter.mp hm).2
  rw [n] at q;simp at q
theorem yva {h:Heap}{H:Hp}{b:Addr}{o:Obj}(e:(yrK h H).get? b=some o):h.get? b=some o/\H b=none:=by
 have e':h.get? b=some o:=PySem.W.of_hideAll (trk h H) e
 refine ⟨e',?_⟩
 cases q:H b with
 | none=>rfl
 | some x =>
  have hm:b∈trk h H:=List.mem_filter.mpr ⟨List.mem_range.mpr (Heap.lt_size e'),by simp [q]⟩
  have z:(yrK h H).get? b=none:=PySem.W.hideAll_none (trk h H) hm
  rw [z] at e;cases e
noncomputable def yvb (g h:Heap) (L:Addr):List (Addr×Obj):=(List.range h.objs.size).filterMap fun a=>if a=L\/(g.get? a).isSome=true then none else (h.get? a).map fun o=>(a,o)
def rest (g h:Heap) (L d:Addr):List (Addr×Obj):=(yvb g h L).filter fun p=>decide (p.1≠d)
end L2
namespace L2
open PySem PySem.Spec PyProof.Rows
structure Mod (K:PySem.W.Frag) (mg:Str->Option Value) (base:Heap):Prop where
 kin:K.In base
 glob:base.Ns mainGlobals mg
 blt:∃ mb,base.Ns builtinsNs mb/\∀ x:Str,x≠"__name__"->mb x=bootBuiltins x
 nolimit:base.NoLimit
structure Cx where
 prog:Program
 w:World
 K:PySem.W.Frag
 mg:Str->Option Value
 base:Heap
 A:Around
 N:List Str
 s₀:Shared
 H₀:Hp
 env:Env
 outer:List Env
 stack:List Env
 ex:List Addr
 fn:Str->Bool
 calm:Bool
 pn:List (Addr×Obj)
 xe:Value->Shared->Prop
def frs (l:List Env):List Addr:=l.filterMap (·.frame)
abbrev Cx.fs (X:Cx):List Addr:=frs X.outer
noncomputable def Vis (sc:Scope) (x:Str):Prop:=sc.names.lookup x=some .local \/ sc.names.lookup x=some .cell\/sc.names.lookup x=some .free
def Loc (sc:Scope) (x:Str):Prop:=sc.names.lookup x=some .local \/ sc.names.lookup x=some .cell
noncomputable def Look (env:Env) (h:Heap) (m:Str->Option Value) (x:Str) (u:Value):Prop :=
 (env.kindOf x=some .local/\m x=some u)\/((env.kindOf x=some .cell\/env.kindOf x=some .free)/\∃ c,env.cells.lookup x=some c/\h.IsCell c (some u))
structure Cx.Ok (X:Cx):Prop where
 mod:Mod X.K X.mg X.base
 kind:X.env.scope.kind=.function
 glob:X.env.globals=mainGlobals
 blt:X.env.builtins=builtinsNs
 above:X.s₀.heap.objs.size<=X.env.locals
 inj:∀ x y c,X.env.cells.lookup x=some c->X.env.cells.lookup y=some c->x=y
 has:∀ x,(X.env.kindOf x=some .cell\/X.env.kindOf x=some .free)->∃ c,X.env.cells.lookup x=some c
 cab:∀ x c,X.fn x=true->X.env.cells.lookup x=some c->X.s₀.heap.objs.size<=c
 hd:X.calm=true->X.A.handled=none
 frames:X.A.frames=some X.stack
 stk:X.stack=X.outer\/(X.stack=X.env::X.outer/\X.env.frame=some X.env.locals)
 exf:∀ b∈X.ex,b≠X.env.locals/\∀ x c,X.env.cells.lookup x=some c->c≠b
 bs:∀ b o,X.base.get? b=some o->X.s₀.heap.get? b=some o/\X.H₀ b=none
 bsz:X.base.objs.size<=X.s₀.heap.objs.size
 noex:∀ b o,X.base.get? b=some o->b∉X.ex
 exfs:∀ b∈X.ex,b∉X.fs
 funs:X.s₀.heap.FunFrames X.base X.outer
 frf:∀ b∈X.fs,X.H₀ b=none
structure Inv (X:Cx) (pins:List (Addr×Obj)) (σ:List (Option V)) (H:Hp) (s:Shared):Prop where
 ok:X.Ok
 os:s.os=X.s₀.os
 bare:AllBare s.gens
 base:Un X.fs X.ex X.H₀ H X.s₀.heap s.heap
 loc:∃ m,s.heap.Ns X.env.locals m/\∀ (i:Nat) (x:Str) (v:V),X.N[i]?=some x->σ[i]?=some (some v)->Vis X.env.scope x->∃ u,RelV v u/\Look X.env s.heap m x u
 cell:∀ x c,X.env.cells.lookup x=some c->∃ v,s.heap.IsCell c v
 free:H X.env.locals=none
 freeC:∀ x c,X.env.cells.lookup x=some c->H c=none
 pin:∀ p∈X.pn++pins,s.heap.get? p.1=some p.2/\H p.1=none/\p.1≠X.env.locals/\p.1∉X.fs/\∀ v,p.2.data≠.cell v
 hok:HOk X.prog X.w H s.heap
 len:σ.length=X.N.length
section
variable {X:Cx}{pins:List (Addr×Obj)}{σ:List (Option V)}{H H':Hp}{s:Shared}{h':Heap}
theorem Cx.Ok.nofr (ok:X.Ok) {b:Addr}{o:Obj}(e:X.base.get? b=some o):b∉X.fs:=fun hb=>by
 have:=(ok.funs.mem hb).1
 rw [e] at this;cases this
theorem Inv.bs (I:Inv X pins σ H s):∀ b o,X.base.get? b=some o->s.heap.get? b=some o/\H b=none:=fun b o e =>
 ⟨I.base.keep b o (I.ok.bs b o e).1 (I.ok.bs b o e).2 (I.ok.nofr e) (I.ok.noex b o e),I.base.free b o (I.ok.bs b o e).1 (I.ok.bs b o e).2 (I.ok.noex b o e)⟩
theorem Inv.bk (I:Inv X pins σ H s):∀ b o,X.base.get? b=some o->s.heap.get? b=some o:=fun b o e=>(I.bs b o e).1
theorem Inv.mod (I:Inv X pins σ H s):Mod X.K X.mg X.base:=I.ok.mod
theorem Inv.kIn (I:Inv X pins σ H s):X.K.In s.heap:=I.ok.mod.kin.keeps I.bk
theorem Inv.lt (I:Inv X pins σ H s):X.env.locals<s.heap.objs.size:=let ⟨_,hn,_⟩:=I.loc;hn.lt
theorem Inv.sz (I:Inv X pins σ H s):X.s₀.heap.objs.size<=s.heap.objs.size:=Nat.le_trans I.ok.above (le_of_lt I.lt)
theorem Inv.nofs (I:Inv X pins σ H s) {a:Addr}(h:s.heap.objs.size<=a):a∉X.fs:=fun hb=>by
 obtain ⟨_,o,ho,_⟩:=I.ok.funs.mem hb
 exact absurd (lt_of_lt_of_le (Heap.lt_size ho) (Nat.le_trans I.sz h)) (lt_irrefl _)
theorem Inv.cne (I:Inv X pins σ H s):∀ x c,X.env.cells.lookup x=some c->c≠X.env.locals:=fun x c e z=>by
 obtain ⟨v,o,ho,hd⟩:=I.cell x c e
 obtain ⟨m,⟨o',es,ep,ho',hd',_⟩,_⟩:=I.loc
 rw [z,ho'] at ho;cases ho;rw [hd'] at hd;cases hd
theorem Inv.funs (I:Inv X pins σ H s):s.heap.FunFrames X.base X.outer:=by
 have all:∀ (l:List Env),(∀ b∈frs l,b∈X.fs)->X.s₀.heap.FunFrames X.base l->s.heap.FunFrames X.base l:=by
  intro l
  induction l with
  | nil=>intro _ _;trivial
  | cons env r ih =>
   intro hs hl
   obtain ⟨hk,⟨L,o,hf,hn,ho,hd⟩,hr⟩:=hl
   have hL:L∈X.fs:=hs L (by unfold frs;rw [List.filterMap_cons,hf];exact mem_cons_self)
   obtain ⟨sl,e⟩:=I.base.slot L o ho (I.ok.frf L hL) hL fun z=>I.ok.exfs L z hL
   exact ⟨hk,⟨L,_,hf,hn,e,hd⟩,ih (fun b hb=>hs b (by unfold frs;rw [List.filterMap_cons,hf];exact mem_cons_of_mem _ hb)) hr⟩
 exact all X.outer (fun _ hb=>hb) I.ok.funs
theorem Inv.stack (I:Inv X pins σ H s):s.heap.FunFrames X.base X.stack:=by
 rcases I.ok.stk with e|⟨e,hf⟩
 .rw [e];exact I.funs
 .rw [e]
  obtain ⟨m,hn,_⟩:=I.loc
  refine .cons (by rw [I.ok.kind];decide) hf hn ?_ I.funs
  exact Heap.get?_none_of_le (Nat.le_trans I.ok.bsz I.ok.above)
theorem Inv.stkSub (I:Inv X pins σ H s):∀ b∈frs X.stack,b∈X.env.locals::X.fs:=fun b hb=>by
 rcases I.ok.stk with e|⟨e,hf⟩
 .rw [e] at hb;exact mem_cons_of_mem _ hb
 .rw [e] at hb
  unfold frs at hb
  rw [List.filterMap_cons,hf] at hb
  exact hb
theorem Inv.stkFree (I:Inv X pins σ H s):∀ b∈frs X.stack,H b=none:=fun b hb=>by
 rcases mem_cons.mp (I.stkSub b hb) with e|hb
 .rw [e];exact I.free
 .obtain ⟨_,o,ho,_⟩:=I.ok.funs.mem hb
  exact I.base.free b o ho (I.ok.frf b hb) fun z=>I.ok.exfs b z hb
theorem Inv.step {g':Array GenState}{t':Nat}{d':Drawn}{ch:List Addr}(I:Inv X pins σ H s)
  (hch:∀ b∈ch,(b∈X.ex\/X.s₀.heap.objs.size<=b)/\b≠X.env.locals/\(∀ x c,X.env.cells.lookup x=some c->c≠b)/\∀ p∈X.pn++pins,p.1≠b)
  (keep:∀ b o,b≠X.env.locals->b∉X.fs->b∉ch->s.heap.get? b=some o->H b=none->h'.get? b=some o)
  (slot:∀ b o,b≠X.env.locals->b∈X.fs->b∉ch->s.heap.get? b=some o->H b=none->∃ sl,h'.get? b=some { o with slots:=sl }) (free:∀ b o,b∉ch->s.heap.get? b=some o->H b=none->H' b=none)
  (there:∀ b o,b∉ch->s.heap.get? b=some o->∃ o',h'.get? b=some o')
  (tups:∀ b xs,H b=some (.tup xs)->H' b=some (.tup xs)) (frzs:∀ b o u,H b=some (.frz o u)->H' b=some (.frz o u)) (tbls:∀ b ps,H b=some (.tbl ps)->∃ more,H' b=some (.tbl (ps++more)))
  (ns:∀ m,s.heap.Ns X.env.locals m->h'.Ns X.env.locals m) (hok:HOk X.prog X.w H' h') (hg:AllBare g') :
  Inv X pins σ H' { s with heap:=h',gens:=g',drawn:=d',toks:=t' }:=by
 have neL:∀ b o,X.s₀.heap.get? b=some o->b≠X.env.locals:=fun b o e=>ne_of_lt (lt_of_lt_of_le (Heap.lt_size e) I.ok.above)
 have neC:∀ b o,X.s₀.heap.get? b=some o->b∉X.ex->b∉ch:=fun b o e hx hb=>by
  rcases (hch b hb).1 with z|z
  .exact hx z
  .exact absurd (lt_of_lt_of_le (Heap.lt_size e) z) (lt_irrefl _)
 have cellK:∀ x c,X.env.cells.lookup x=some c->∀ v,s.heap.IsCell c v->h'.IsCell c v:=fun x c e v ⟨o,ho,hd⟩=>by
  have nch:c∉ch:=fun z=>(hch c z).2.2.1 x c e rfl
  by_cases hc:c∈X.fs
  .obtain ⟨sl,q⟩:=slot c o (I.cne x c e) hc nch ho (I.freeC x c e)
   exact ⟨_,q,hd⟩
  .exact ⟨o,keep c o (I.cne x c e) hc nch ho (I.freeC x c e),hd⟩
 refine ⟨I.ok,I.os,hg,⟨fun b o e n hb hx=>?_,fun b o e n hb hx=>?_,fun b o e n hx=>?_,fun b o e hx=>?_,fun b xs e=>tups b xs (I.base.tups b xs e),fun b o xs e=>frzs b o xs (I.base.frzs b o xs e),fun b ps e=>?_⟩,?_,fun x c e=>?_,?_,fun x c e=>?_,fun p hp=>?_,hok,I.len⟩
 .exact keep b o (neL b o e) hb (neC b o e hx) (I.base.keep b o e n hb hx) (I.base.free b o e n hx)
 .obtain ⟨sl,e1⟩:=I.base.slot b o e n hb hx
  obtain ⟨sl',e2⟩:=slot b _ (neL b o e) hb (neC b o e hx) e1 (I.base.free b o e n hx)
  exact ⟨sl',e2⟩
 .obtain ⟨o',e1⟩:=I.base.there b o e hx
  exact free b o' (neC b o e hx) e1 (I.base.free b o e n hx)
 .obtain ⟨o',e1⟩:=I.base.there b o e hx
  exact there b o' (neC b o e hx) e1
 .obtain ⟨m1,e1⟩:=I.base.tbls b ps e
  obtain ⟨m2,e2⟩:=tbls b _ e1
  exact ⟨m1++m2,by rw [e2,Array.append_assoc]⟩
 .obtain ⟨m,hn,hl⟩:=I.loc
  refine ⟨m,ns m hn,fun i x v e1 e2 e3=>?_⟩
  obtain ⟨u,r,l⟩:=hl i x v e1 e2 e3
  refine ⟨u,r,?_⟩
  rcases l with l|⟨k,c,e,z⟩
  .exact .inl l
  .exact .inr ⟨k,c,e,cellK x c e _ z⟩
 .obtain ⟨v,z⟩:=I.cell x c e
  exact ⟨v,cellK x c e v z⟩
 .obtain ⟨m,⟨o,_,_,ho,_⟩,_⟩:=I.loc
  exact free _ o (fun z=>(hch _ z).2.1 rfl) ho I.free
 .obtain ⟨v,o,ho,hd⟩:=I.cell x c e
  exact free c o (fun z=>(hch c z).2.2.1 x c e rfl) ho (I.freeC x c e)
 .obtain ⟨e,n,ne,nf,d⟩:=I.pin p hp
  have nch:p.1∉ch:=fun z=>(hch p.1 z).2.2.2 p hp rfl
  exact ⟨keep p.1 p.2 ne nf nch e n,free p.1 p.2 nch e n,ne,nf,d⟩
theorem Inv.un {t':Nat}(I:Inv X pins σ H s) (u:Un X.fs [] H H' s.heap h') (hok:HOk X.prog X.w H' h'):Inv X pins σ H' { s with heap:=h',toks:=t' }:=by
 obtain ⟨m,⟨o,es,ep,ho,r⟩,_⟩:=id I.loc
 obtain ⟨sl,hL⟩:=u.any ho I.free (by simp)
 exact I.step (g':=s.gens) (d':=s.drawn) (ch:=[]) (fun _ z=>nomatch z) (fun b o _ hb _ e n=>u.keep b o e n hb (by simp)) (fun b o _ hb _ e n=>u.slot b o e n hb (by simp)) (fun b o _ e n=>u.free b o e n (by simp)) (fun b o _ e=>u.there b o e (by simp)) u.tups u.frzs u.tbls (fun m' hm=>by
  obtain ⟨o',es',ep',ho',r'⟩:=hm
  rw [ho] at ho';cases ho'
  exact ⟨_,es',ep',hL,r'⟩) hok I.bare
theorem Inv.call {g':Array GenState}{t':Nat}{d':Drawn}{ch:List Addr}(I:Inv X pins σ H s) (u:Un (frs X.stack) ch H H' s.heap h') (hok:HOk X.prog X.w H' h') (hg:AllBare g')
  (hch:∀ b∈ch,(b∈X.ex\/X.s₀.heap.objs.size<=b)/\b≠X.env.locals/\(∀ x c,X.env.cells.lookup x=some c->c≠b)/\∀ p∈X.pn++pins,p.1≠b) :
  Inv X pins σ H' { s with heap:=h',gens:=g',drawn:=d',toks:=t' }:=by
 obtain ⟨m,⟨o,es,ep,ho,r⟩,_⟩:=id I.loc
 obtain ⟨sl,hL⟩:=u.any ho I.free fun z=>(hch _ z).2.1 rfl
 exact I.step (ch:=ch) hch (fun b o hL hb hc e n=>u.keep b o e n (fun z=>(mem_cons.mp (I.stkSub b z)).elim hL hb) hc) (fun b o _ _ hc e n=>u.any e n hc) (fun b o hc e n=>u.free b o e n hc) (fun b o hc e=>u.there b o e hc) u.tups u.frzs u.tbls (fun m' hm=>by
  obtain ⟨o',es',ep',ho',r'⟩:=hm
  rw [ho] at ho';cases ho'
  exact ⟨_,es',ep',hL,r'⟩) hok hg
theorem Inv.turned {t':Nat}{it:Addr}(I:Inv X pins σ H s) (k:∀ b o,b≠it->s.heap.get? b=some o->h'.get? b=some o) (hn:H it=none) (hL:it≠X.env.locals)
  (h1:it∈X.ex\/X.s₀.heap.objs.size<=it) (h2:∀ x c,X.env.cells.lookup x=some c->c≠it) (h3:∀ p∈X.pn++pins,p.1≠it):Inv X pins σ H { s with heap:=h',toks:=t' }:=by
 have nit:∀ b u,H b=some u->b≠it:=fun b u e z=>by rw [z,hn] at e;cases e
 refine I.step (g':=s.gens) (d':=s.drawn) (ch:=[it]) (fun b hb=>?_) (fun b o _ _ hc e _=>k b o (fun z=>hc (by simp [z])) e) (fun b o _ _ hc e _=>⟨o.slots,k b o (fun z=>hc (by simp [z])) e⟩) (fun _ _ _ _ n=>n)
  (fun b o hc e=>⟨o,k b o (fun z=>hc (by simp [z])) e⟩) (fun _ _ e=>e) (fun _ _ _ e=>e) (fun b ps e=>⟨#[],by rw [e];simp⟩) (fun m hm=>?_) (fun b u e=>?_) I.bare
 .have e:b=it:=by simpa using hb
  subst e
  exact ⟨h1,hL,h2,h3⟩
 .obtain ⟨o,es,ep,ho,r⟩:=hm
  exact ⟨o,es,ep,k _ o (Ne.symm hL) ho,r⟩
 .refine (I.hok b u e).stay (fun c v hc q=>k c v ?_ q) (fun _ q=>q) fun _ _ q=>q
  rcases hc with z|z
  .rw [z];exact nit b u e
  .exact nit c _ z
theorem Inv.tok (I:Inv X pins σ H s) (t:Nat):Inv X pins σ H { s with toks:=t }:=I.un (h':=s.heap) (t':=t) Un.refl I.hok
theorem Inv.kept {t':Nat}(I:Inv X pins σ H s) (k:∀ b u,s.heap.get? b=some u->h'.get? b=some u):Inv X pins σ H { s with heap:=h',toks:=t' }:=I.un (Un.kept k) (I.hok.kept k)
theorem Inv.laid {a:Addr}{o:HO}{t':Nat}(I:Inv X pins σ H s) (k:∀ b u,s.heap.get? b=some u->h'.get? b=some u) (hp:s.heap.objs.size<=a) (new:ObjOk X.prog X.w (upd H a o) h' a o) :
  Inv X pins σ (upd H a o) { s with heap:=h',toks:=t' }:=I.un (Un.laid k hp (I.hok.fresh hp)) (I.hok.laid k hp new)
theorem Inv.write {x e:Addr}{o:HO}{t':Nat}(I:Inv X pins σ H s) (mu:Mut (H x)) (he:e=x\/H e=some (.own x)) (k:∀ b u,b≠e->s.heap.get? b=some u->h'.get? b=some u) (heo:∃ u,h'.get? e=some u)
  (new:ObjOk X.prog X.w (upd H x o) h' x o):Inv X pins σ (upd H x o) { s with heap:=h',toks:=t' }:=I.un (Un.write mu he k heo) (I.hok.write mu he k heo new)
theorem Inv.pins_of {pins':List (Addr×Obj)}(I:Inv X pins σ H s) (h:∀ p∈pins',s.heap.get? p.1=some p.2/\H p.1=none/\p.1≠X.env.locals/\p.1∉X.fs/\∀ v,p.2.data≠.cell v):Inv X pins' σ H s :=
 ⟨I.ok,I.os,I.bare,I.base,I.loc,I.cell,I.free,I.freeC,fun p hp=>(List.mem_append.mp hp).elim (fun z=>I.pin p (List.mem_append_left _ z)) (h p),I.hok,I.len⟩
theorem yjp {N:List Str}(hN:N.Nodup) {i j:Nat}{x:Str}(a:N[i]?=some x) (b:N[j]?=some x):i=j:=by
 obtain ⟨h1,e1⟩:=List.getElem?_eq_some_iff.mp a
 obtain ⟨h2,e2⟩:=List.getElem?_eq_some_iff.mp b
 exact (List.getElem_inj hN).mp (e1.trans e2.symm)
theorem ypc {M:Model}{A:Around}{E:Value->Shared->Prop}{i:Nat}{x:Str}{v:V}{u:Value}{Q:Unit->Shared->Prop}(I:Inv X pins σ H s) (hN:X.N.Nodup) (hi:X.N[i]?=some x) (hx:Loc X.env.scope x) (r:RelV v u)
  (h:∀ s',Inv X pins (σ.set i (some v)) H s'->(∃ a,Heap.SameBut a s.heap s'.heap/\(a=X.env.locals\/X.env.cells.lookup x=some a))->Q () s') (hf:X.fn x=true\/X.env.scope.names.lookup x=some .local:=by first|exact .inl rfl|exact .inr rfl|assumption):wpAny M A (storeName X.env x u) Q E s:=by
 obtain ⟨m,hn,hl⟩:=id I.loc
 have hcls:(X.env.scope.kind == .class || (X.env.scope.kind == .module && X.env.locals != X.env.globals))=false:=by rw [I.ok.kind];rfl
 have hiσ:i<σ.length:=by rw [I.len];exact (List.getElem?_eq_some_iff.mp hi).1
 have cne:=I.cne
 have tracked:∀ {a:Addr}{h':Heap},(∃ o,s.heap.get? a=some o/\H a=none)->Heap.SameBut a s.heap h'->HOk X.prog X.w H h':=fun {a h'} ha hs b ob e=>by
  obtain ⟨_,_,hfree⟩:=ha
  refine (I.hok b ob e).stay (fun c w' hc q=>(hs.2 c ?_).trans q) (fun _ q=>q) fun _ _ q=>q
  rintro rfl
  rcases hc with rfl|hc
  .rw [hfree] at e;cases e
  .rw [hfree] at hc;cases hc
 rcases hx with hk|hk
 .refine wpAny_storeName_local hk hn (fun h' hn' hs=>?_) hcls
  obtain ⟨oL,_,_,hoL,_⟩:=id hn
  refine h _ ⟨I.ok,I.os,I.bare,⟨fun b o e n hb hx=>?_,fun b o e n hb hx=>?_,I.base.free,fun b o e hx=>?_,I.base.tups,I.base.frzs,I.base.tbls⟩,⟨_,hn',fun j y v' e1 e2 e3=>?_⟩,fun y c e=>?_,I.free,I.freeC,fun p hp=>?_,tracked ⟨oL,hoL,I.free⟩ hs,by simpa using I.len⟩ ⟨_,hs,.inl rfl⟩
  .exact (hs.2 b (ne_of_lt (lt_of_lt_of_le (Heap.lt_size e) I.ok.above))).trans (I.base.keep b o e n hb hx)
  .obtain ⟨sl,e1⟩:=I.base.slot b o e n hb hx
   exact ⟨sl,(hs.2 b (ne_of_lt (lt_of_lt_of_le (Heap.lt_size e) I.ok.above))).trans e1⟩
  .obtain ⟨o',e1⟩:=I.base.there b o e hx
   exact ⟨o',(hs.2 b (ne_of_lt (lt_of_lt_of_le (Heap.lt_size e) I.ok.above))).trans e1⟩
  .by_cases hj:j=i
   .subst hj
    rw [hi] at e1;cases e1
    rw [getElem?_set_self hiσ] at e2
    cases e2
    exact ⟨u,r,.inl ⟨hk,by simp⟩⟩
   .rw [getElem?_set_ne (Ne.symm hj)] at e2
    obtain ⟨u',r',q⟩:=hl j y v' e1 e2 e3
    refine ⟨u',r',?_⟩
    rcases q with ⟨k,e⟩|⟨k,c,e,z⟩
    .refine .inl ⟨k,?_⟩
     have:y≠x:=fun e=>hj (yjp hN e1 (e ▸ hi))
     simp [this,e]
    .exact .inr ⟨k,c,e,z.sameBut hs (cne y c e)⟩
  .obtain ⟨w',z⟩:=I.cell y c e
   exact ⟨w',z.sameBut hs (cne y c e)⟩
  .obtain ⟨e,n,ne,nf,d⟩:=I.pin p hp
   exact ⟨(hs.2 p.1 ne).trans e,n,ne,nf,d⟩
 .have hfn:X.fn x=true:=by
   rcases hf with z|z
   .exact z
   .rw [z] at hk;cases hk
  obtain ⟨c,hc⟩:=I.ok.has x (.inl hk)
  obtain ⟨w',z⟩:=I.cell x c hc
  refine wpAny_storeName_cell I.ok.kind hk hc z (fun h' hc' hs=>?_)
  obtain ⟨oc,hoc,hocd⟩:=id z
  refine h { s with heap:=h' } ⟨I.ok,I.os,I.bare,⟨fun b o e n hb hx=>?_,fun b o e n hb hx=>?_,I.base.free,fun b o e hx=>?_,I.base.tups,I.base.frzs,I.base.tbls⟩,⟨m,hn.sameBut hs (Ne.symm (cne x c hc)),fun j y v' e1 e2 e3=>?_⟩,fun y c' e=>?_,I.free,I.freeC,fun p hp=>?_,tracked ⟨oc,hoc,I.freeC x c hc⟩ hs,by simpa using I.len⟩ ⟨c,hs,.inr hc⟩
  .exact (hs.2 b (ne_of_lt (lt_of_lt_of_le (Heap.lt_size e) (I.ok.cab x c hfn hc)))).trans (I.base.keep b o e n hb hx)
  .obtain ⟨sl,e1⟩:=I.base.slot b o e n hb hx
   exact ⟨sl,(hs.2 b (ne_of_lt (lt_of_lt_of_le (Heap.lt_size e) (I.ok.cab x c hfn hc)))).trans e1⟩
  .obtain ⟨o',e1⟩:=I.base.there b o e hx
   exact ⟨o',(hs.2 b (ne_of_lt (lt_of_lt_of_le (Heap.lt_size e) (I.ok.cab x c hfn hc)))).trans e1⟩
  .by_cases hj:j=i
   .subst hj
    rw [hi] at e1;cases e1
    rw [getElem?_set_self hiσ] at e2
    cases e2
    exact ⟨u,r,.inr ⟨.inl hk,c,hc,hc'⟩⟩
   .rw [getElem?_set_ne (Ne.symm hj)] at e2
    obtain ⟨u',r',q⟩:=hl j y v' e1 e2 e3
    refine ⟨u',r',?_⟩
    rcases q with q|⟨k,c',e,z'⟩
    .exact .inl q
    .refine .inr ⟨k,c',e,z'.sameBut hs ?_⟩
     rintro rfl
     exact hj (yjp hN e1 (I.ok.inj _ _ _ e hc ▸ hi))
  .by_cases hcc:c'=c
   .subst hcc;exact ⟨_,hc'⟩
   .obtain ⟨w2,z2⟩:=I.cell y c' e
    exact ⟨w2,z2.sameBut hs hcc⟩
  .obtain ⟨e,n,ne,nf,d⟩:=I.pin p hp
   refine ⟨(hs.2 p.1 ?_).trans e,n,ne,nf,d⟩
   intro q
   rw [q,hoc] at e
   have q':oc=p.2:=Option.some.inj e
   exact d w' (by rw [<- q'];exact hocd)
theorem yfZ {M:Model}{A:Around}{E:Value->Shared->Prop}{i:Nat}{x:Str}{v:V}{u:Value}{Q:Unit->Shared->Prop}(I:Inv X pins σ H s) (hN:X.N.Nodup) (hi:X.N[i]?=some x) (hx:Loc X.env.scope x) (r:RelV v u)
  (h:∀ s',Inv X pins (σ.set i (some v)) H s'->Q () s') (hf:X.fn x=true\/X.env.scope.names.lookup x=some .local:=by first|exact .inl rfl|exact .inr rfl|assumption):wpAny M A (storeName X.env x u) Q E s :=
 ypc I hN hi hx r (fun s' I' _=>h s' I') hf
theorem Inv.call' {s':Shared}{ch:List Addr}(I:Inv X pins σ H s) (ho:s'.os=s.os) (u:Un (frs X.stack) ch H H' s.heap s'.heap) (hok:HOk X.prog X.w H' s'.heap) (hg:AllBare s'.gens)
  (hch:∀ b∈ch,(b∈X.ex\/X.s₀.heap.objs.size<=b)/\b≠X.env.locals/\(∀ x c,X.env.cells.lookup x=some c->c≠b)/\∀ p∈X.pn++pins,p.1≠b):Inv X pins σ H' s':=by
 obtain ⟨h',g',d',t',o'⟩:=s'
 have e:o'=s.os:=ho
 subst e
 exact I.call (g':=g') (t':=t') (d':=d') u hok hg hch
end
abbrev XK:=Value->Option Addr->Hp->Prop
abbrev St:=List (Option V)
abbrev VK:=V->Hp->Prop
abbrev TE:=St->Hp->VK->Prop
abbrev TT:=St->Hp->(Bool->Hp->Prop)->Prop
abbrev TA:=St->Hp->(List V->Hp->Prop)->Prop
structure Ends where
 nx:St->Hp->Prop
 rt:VK
 bk:St->Hp->Prop:=fun _ _=>False
 ct:St->Hp->Prop:=fun _ _=>False
abbrev TS:=Ends->St->Hp->Prop
def EP (X:Cx) (pins:List (Addr×Obj)) (σ:St) (Q:VK) (u:Value) (s':Shared):Prop:=∃ v H',Inv X pins σ H' s'/\RelV v u/\Q v H'
noncomputable def TP (X:Cx) (pins:List (Addr×Obj)) (σ:St) (Q:Bool->Hp->Prop) (b:Bool) (s':Shared):Prop:=∃ H',Inv X pins σ H' s'/\Q b H'
def AP (X:Cx) (pins:List (Addr×Obj)) (σ:St) (Q:List V->Hp->Prop) (us:List Value) (s':Shared):Prop:=∃ vs H',Inv X pins σ H' s'/\Vals vs us/\Q vs H'
def SP (X:Cx) (pins:List (Addr×Obj)) (D:Ends) (f:Flow) (s':Shared):Prop :=
 match f with
 | .next=>∃ σ' H',Inv X pins σ' H' s'/\D.nx σ' H'
 | .brk=>∃ σ' H',Inv X pins σ' H' s'/\D.bk σ' H'
 | .cont=>∃ σ' H',Inv X pins σ' H' s'/\D.ct σ' H'
 | .ret u=>∃ v σ' H',Inv X pins σ' H' s'/\RelV v u/\D.rt v H'
def PE (X:Cx) (e:Expr) (t:TE):Prop :=
 ∀ (pins:List (Addr×Obj)) (s:Shared) (σ:St) (H:Hp) (Q:VK),Inv X pins σ H s->t σ H Q->wpAny (model X.prog X.w) X.A (eval e X.env) (EP X pins σ Q) X.xe s
def PT (X:Cx) (e:Expr) (t:TT):Prop :=
 ∀ (pins:List (Addr×Obj)) (s:Shared) (σ:St) (H:Hp) (Q:Bool->Hp->Prop),Inv X pins σ H s->t σ H Q->wpAny (model X.prog X.w) X.A (isTrue e X.env (eval e X.env)) (TP X pins σ Q) X.xe s
def PW (X:Cx) (e:Expr) (t:TT):Prop :=
 ∀ (whole:Sem Value) (pins:List (Addr×Obj)) (s:Shared) (σ:St) (H:Hp) (Q:Bool->Hp->Prop),Inv X pins σ H s->t σ H Q->wpAny (model X.prog X.w) X.A (isTrue e X.env whole) (TP X pins σ Q) X.xe s
theorem PW.pt {X:Cx}{e:Expr}{t:TT}(h:PW X e t):PT X e t:=h _
def PA (X:Cx) (es:List Expr) (t:TA):Prop :=
 ∀ (pos:Pos) (pins:List (Addr×Obj)) (s:Shared) (σ:St) (H:Hp) (Q:List V->Hp->Prop),Inv X pins σ H s->t σ H Q->wpAny (model X.prog X.w) X.A (spliced (backTo pos (starEach es X.env))) (AP X pins σ Q) X.xe s
def PS (X:Cx) (st:Stmt) (t:TS):Prop :=
 ∀ (pins:List (Addr×Obj)) (s:Shared) (σ:St) (H:Hp) (D:Ends),Inv X pins σ H s->t D σ H->wpAny (model X.prog X.w) X.A (exec st X.env) (SP X pins D) X.xe s
def PSs (X:Cx) (st:List Stmt) (t:TS):Prop :=
 ∀ (pins:List (Addr×Obj)) (s:Shared) (σ:St) (H:Hp) (D:Ends),Inv X pins σ H s->t D σ H->wpAny (model X.prog X.w) X.A (execs st X.env) (SP X pins D) X.xe s
theorem thn {α:Type}{t:Sem α}{Q Q':α->Shared->Prop}{M:Model}{A:Around}{E:Value->Shared->Prop}{s:Shared}(h:wpAny M A t Q E s) (hQ:∀ a s,Q a s->Q' a s):wpAny M A t Q' E s:=wpAny_mono h hQ fun _ _ x=>x
end L2
namespace L2
open PySem PySem.Spec PyProof.Rows
section
variable {X:Cx}
def yvc (i:Nat):TE:=fun σ H Q=>∃ v,σ[i]?=some (some v)/\Q v H
def tC (v:V):TE:=fun _ H Q=>Q v H
theorem ymM {i:Nat}{x:Str}{pos:Pos}(hN:X.N[i]?=some x) (hv:Vis X.env.scope x) (hd:(x == ("__debug__":Str))=false:=by decide) (hcd:(x == ("__classdict__":Str))=false:=by decide):PE X (.Name x pos) (yvc i):=by
 intro pins s σ H Q I h
 obtain ⟨v,e,h⟩:=h
 obtain ⟨m,hn,hl⟩:=I.loc
 obtain ⟨u,r,l⟩:=hl i x v hN e hv
 have fin:EP X pins σ Q u s:=⟨v,H,I,r,h⟩
 rcases l with ⟨hk,hm⟩|⟨hk,c,hc,hcell⟩
 .exact wpAny_Name (wpAny_loadName_local I.ok.kind hk hn hm fin) hd
 .rcases hk with hk|hk
  .exact wpAny_Name (wpAny_loadName_cell I.ok.kind hk hc hcell fin) hd
  .exact wpAny_Name (wpAny_loadName_free I.ok.kind hk hc hcell fin hcd) hd
theorem yyc {i j pos}:PE X (.Constant (.int i) j pos) (tC (.int i)):=fun _ _ _ H _ I h=>wpAny_Constant_int ⟨.int i,H,I.tok _,⟨_,rfl⟩,h⟩
theorem yBW {b j pos}:PE X (.Constant (.bool b) j pos) (tC (.bl b)):=fun _ _ _ H _ I h=>Constant_bool ⟨.bl b,H,I,rfl,h⟩
theorem yyd {j pos}:PE X (.Constant .none j pos) (tC .non):=fun _ _ _ H _ I h=>Constant_none ⟨.non,H,I,rfl,h⟩
theorem yye {x j pos}:PE X (.Constant (.str x) j pos) (tC (.str x)):=fun _ _ _ H _ I h=>Calls.Constant_str ⟨.str x,H,I.tok _,⟨_,rfl⟩,h⟩
def Gl (X:Cx) (x:Str):Prop:=X.env.kindOf x=some .globalImplicit
theorem yfQ {E:Value->Shared->Prop}{pins:List (Addr×Obj)}{s:Shared}{σ:St}{H:Hp}{x:Str}{u:Value}{pos:Pos}{Q:Value->Shared->Prop}(I:Inv X pins σ H s) (hg:Gl X x) (hm:X.mg x=some u) (h:Q u s)
  (hd:(x == ("__debug__":Str))=false:=by decide):wpAny (model X.prog X.w) X.A (eval (.Name x pos) X.env) Q E s :=
 Calls.Name_function_global I.ok.kind hg (Calls.loadGlobal_global (by rw [I.ok.glob];exact I.mod.glob.keeps I.bk) hm h) hd
theorem ymN {E:Value->Shared->Prop}{pins:List (Addr×Obj)}{s:Shared}{σ:St}{H:Hp}{x:Str}{u:Value}{pos:Pos}{Q:Value->Shared->Prop}(I:Inv X pins σ H s) (hg:Gl X x) (hm:X.mg x=none) (hv:bootBuiltins x=some u) (h:Q u s)
  (hn:x≠"__name__":=by decide) (hd:(x == ("__debug__":Str))=false:=by decide):wpAny (model X.prog X.w) X.A (eval (.Name x pos) X.env) Q E s:=by
 obtain ⟨mb,h1,h2⟩:=I.mod.blt
 exact Calls.Name_function_global I.ok.kind hg (Calls.loadGlobal_builtin (by rw [I.ok.glob];exact I.mod.glob.keeps I.bk) hm (by rw [I.ok.blt];exact h1.keeps I.bk) ((h2 x hn).trans hv) h) hd
theorem yjq {x:Str}{v:V}{u:Value}{pos:Pos}(hg:Gl X x) (hm:X.mg x=some u) (r:RelV v u) (hd:(x == ("__debug__":Str))=false:=by decide):PE X (.Name x pos) (tC v) :=
 fun _ _ _ H _ I h=>yfQ I hg hm ⟨v,H,I,r,h⟩ hd
theorem yvd {x:Str}{v:V}{u:Value}{pos:Pos}(hg:Gl X x) (hm:X.mg x=none) (hv:bootBuiltins x=some u) (r:RelV v u) (hn:x≠"__name__":=by decide) (hd:(x == ("__debug__":Str))=false:=by decide):PE X (.Name x pos) (tC v) :=
 fun _ _ _ H _ I h=>ymN I hg hm hv ⟨v,H,I,r,h⟩ hn hd
variable {a b:Expr}{ta tb:TE}{pos:Pos}
def tB (t:TE):TT:=fun σ H Q=>t σ H fun x H1=>∃ c,x=.bl c/\Q c H1
theorem yyf {e:Expr}{t:TE}(h:PE X e t) (he:∀ whole,isTrue e X.env whole=(do let v <- whole;standAt e.pos;holding [v] (truthy v)):=by intro _;rfl):PT X e (tB t):=by
 intro pins s σ H Q I hw
 refine isTrue_plain (thn (h pins s σ H _ I hw) fun v s1 ⟨x,H1,I1,r1,q1⟩=>?_) (he _)
 obtain ⟨d,rfl,q⟩:=q1
 cases r1
 exact wpAny_truthy_bool ⟨H1,I1,q⟩
variable {tA tB':TT}{rest:List Expr}
def yEO (t u:TT):TT:=fun σ H Q=>t σ H fun c H1=>if c=true then u σ H1 Q else Q false H1
def tOr (t u:TT):TT:=fun σ H Q=>t σ H fun c H1=>if c=true then Q true H1 else u σ H1 Q
def yBX (t:TT):TT:=fun σ H Q=>t σ H fun c H1=>Q (!c) H1
theorem yve (ha:PT X a tA):PW X (.BoolOp .And [a] pos) tA:=by
 intro wh pins s σ H Q I h
 refine isTrue_and (thn (ha pins s σ H Q I h) fun c s1 e=>?_)
 cases c with
 | true=>exact isTrue_and_nil e
 | false=>exact e
theorem yyg (ha:PT X a tA):PW X (.BoolOp .Or [a] pos) tA:=by
 intro wh pins s σ H Q I h
 refine isTrue_or (thn (ha pins s σ H Q I h) fun c s1 e=>?_)
 cases c with
 | false=>exact isTrue_or_nil e
 | true=>exact e
theorem yyh (ha:PT X a tA) (hb:PW X (.BoolOp .And (b::rest) pos) tB'):PW X (.BoolOp .And (a::b::rest) pos) (yEO tA tB'):=by
 intro wh pins s σ H Q I h
 refine isTrue_and (thn (ha pins s σ H _ I h) fun c s1 ⟨H1,I1,q1⟩=>?_)
 cases c with
 | true=>exact hb wh pins s1 σ H1 Q I1 q1
 | false=>exact ⟨H1,I1,q1⟩
theorem yBY (ha:PT X a tA) (hb:PW X (.BoolOp .Or (b::rest) pos) tB'):PW X (.BoolOp .Or (a::b::rest) pos) (tOr tA tB'):=by
 intro wh pins s σ H Q I h
 refine isTrue_or (thn (ha pins s σ H _ I h) fun c s1 ⟨H1,I1,q1⟩=>?_)
 cases c with
 | true=>exact ⟨H1,I1,q1⟩
 | false=>exact hb wh pins s1 σ H1 Q I1 q1
theorem yyi (ha:PT X a tA):PT X (.UnaryOp .Not a pos) (yBX tA):=by
 intro pins s σ H Q I h
 exact isTrue_not (ha pins s σ H (fun c H1=>Q (!c) H1) I h)
def yyj (ta tb:TE):TE:=fun σ H Q=>ta σ H fun x H1=>∃ c,x=.bl c/\if c=true then tb σ H1 Q else Q (.bl false) H1
theorem yyk {op} {t:TE}(h:PE X a t):PE X (.BoolOp op [a] pos) t:=fun pins s σ H Q I hw=>BoolOp_one (h pins s σ H Q I hw)
theorem yyl (ha:PE X a ta) (hb:PE X (.BoolOp .And (b::rest) pos) tb):PE X (.BoolOp .And (a::b::rest) pos) (yyj ta tb):=by
 intro pins s σ H Q I h
 refine BoolOp_and (thn (ha pins s σ H _ I h) fun v s1 ⟨x,H1,I1,r1,q1⟩=>?_)
 obtain ⟨c,rfl,q1⟩:=q1
 cases r1
 refine wpAny_truthy_bool ?_
 cases c with
 | true=>exact hb pins s1 σ H1 Q I1 q1
 | false=>exact ⟨.bl false,H1,I1,rfl,q1⟩
def tIf (t:TT) (ta tb:TE):TE:=fun σ H Q=>t σ H fun c H1=>if c=true then ta σ H1 Q else tb σ H1 Q
theorem yrM {c:Expr}(hc:PT X c tA) (ha:PE X a ta) (hb:PE X b tb):PE X (.IfExp c a b pos) (tIf tA ta tb):=by
 intro pins s σ H Q I h
 refine wpAny_IfExp (thn (hc pins s σ H _ I h) fun d s1 ⟨H1,I1,q1⟩=>?_)
 cases d with
 | true=>exact ha pins s1 σ H1 Q I1 q1
 | false=>exact hb pins s1 σ H1 Q I1 q1
end
end L2
namespace L2
open PySem PySem.Spec PyProof.Rows
def SqL (K:PySem.W.Frag) (H:Hp) (a:Addr) (xs:List V):Prop :=
 Rd H a (.lst xs) \/
  ∃ (o:Obj) (its:Array Value) (n:Nat),K.lookup a=some o/\o.cls=.type "list"/\o.dict=none/\o.data=.seq its n/\its.size<=sizeLine/\Vals xs its.toList
def SqT (K:PySem.W.Frag) (H:Hp) (a:Addr) (xs:List V):Prop :=
 Rd H a (.tup xs) \/
  ∃ (o:Obj) (its:Array Value) (n:Nat),K.lookup a=some o/\o.cls=.type "tuple"/\o.data=.seq its n/\its.size<=sizeLine/\Vals xs its.toList
noncomputable def yFM:Value->Option V
 | .none=>some .non
 | .bool b=>some (.bl b)
 | .int i _=>some (.int i)
 | .str x _=>some (.str x)
 | .bytes b _=>some (.byt b)
 | .float b _=>some (.flt b)
 | .ref a=>some (.ref a)
 | .type n=>some (.ty n)
 | _=>none
theorem RelV.abs {x:V}{u:Value}(r:RelV x u):yFM u=some x:=by
 cases x with
 | non=>cases r;rfl
 | bl _=>cases r;rfl
 | int _=>obtain ⟨t,rfl⟩:=r;rfl
 | str _=>obtain ⟨t,rfl⟩:=r;rfl
 | byt _=>obtain ⟨t,rfl⟩:=r;rfl
 | flt _=>obtain ⟨t,rfl⟩:=r;rfl
 | ref _=>cases r;rfl
 | ty _=>cases r;rfl
theorem RelV.inj {x y:V}{u:Value}(r:RelV x u) (q:RelV y u):x=y:=Option.some.inj (r.abs.symm.trans q.abs)
theorem Vals.inj:∀ {xs ys:List V}{us:List Value},Vals xs us->Vals ys us->xs=ys
 | _,_,_,.nil,.nil=>rfl
 | _,_,_,.cons r t,.cons r' t'=>by rw [r.inj r',Vals.inj t t']
section
variable {X:Cx}{pins:List (Addr×Obj)}{σ:St}{H:Hp}{s:Shared}{a:Addr}{xs ys:List V}
theorem SqL.of {K:PySem.W.Frag}(h:H a=some (.lst xs)):SqL K H a xs:=.inl (.inl h)
theorem SqT.of {K:PySem.W.Frag}(h:H a=some (.tup xs)):SqT K H a xs:=.inl (.inl h)
theorem Inv.list (I:Inv X pins σ H s) (h:SqL X.K H a xs):∃ its:List Value,Vals xs its/\PlainL s.heap a its.toArray/\xs.length<=sizeLine:=by
 rcases h with h|⟨o,its,n,hk,hc,hd,hs,hz,r⟩
 .obtain ⟨z,its,n,r,e⟩:=h.ok I.hok
  exact ⟨its,r,⟨_,n,e,rfl,rfl,rfl⟩,z⟩
 .refine ⟨its.toList,r,⟨o,n,I.kIn a o hk,hc,hd,by simpa using hs⟩,?_⟩
  have e:=r.length
  simp only [Array.length_toList] at e
  omega
theorem Inv.tuple (I:Inv X pins σ H s) (h:SqT X.K H a xs):∃ its:List Value,Vals xs its/\IsTup s.heap a its.toArray/\xs.length<=sizeLine:=by
 rcases h with h|⟨o,its,n,hk,hc,hs,hz,r⟩
 .obtain ⟨z,its,r,p⟩:=h.ok I.hok
  exact ⟨its,r,p,z⟩
 .refine ⟨its.toList,r,⟨o,I.kIn a o hk,hc,n,by simpa using hs⟩,?_⟩
  have e:=r.length
  simp only [Array.length_toList] at e
  omega
theorem Inv.list_inj (I:Inv X pins σ H s) (h:SqL X.K H a xs) (h':SqL X.K H a ys):xs=ys:=by
 obtain ⟨its,r,⟨o,n,e,_,_,d⟩,_⟩:=I.list h
 obtain ⟨its',r',⟨o',n',e',_,_,d'⟩,_⟩:=I.list h'
 rw [e] at e';cases e'
 rw [d] at d'
 injection d' with d1 _
 have:its=its':=by simpa using congrArg Array.toList d1
 subst this
 exact r.inj r'
theorem Inv.tuple_inj (I:Inv X pins σ H s) (h:SqT X.K H a xs) (h':SqT X.K H a ys):xs=ys:=by
 obtain ⟨its,r,⟨o,e,_,n,d⟩,_⟩:=I.tuple h
 obtain ⟨its',r',⟨o',e',_,n',d'⟩,_⟩:=I.tuple h'
 rw [e] at e';cases e'
 rw [d] at d'
 injection d' with d1 _
 have:its=its':=by simpa using congrArg Array.toList d1
 subst this
 exact r.inj r'
end
abbrev Cx.wish (X:Cx) (E:Value->Shared->Prop):Cx:={ X with xe:=E }
abbrev Cx.nox (X:Cx):Cx:=X.wish fun _ _=>False
theorem Cx.Ok.wish {X:Cx}(ok:X.Ok) (E:Value->Shared->Prop):(X.wish E).Ok :=
 ⟨ok.mod,ok.kind,ok.glob,ok.blt,ok.above,ok.inj,ok.has,ok.cab,ok.hd,ok.frames,ok.stk,ok.exf,ok.bs,ok.bsz,ok.noex,ok.exfs,ok.funs,ok.frf⟩
theorem Cx.Ok.unwish {X:Cx}{E:Value->Shared->Prop}(ok:(X.wish E).Ok):X.Ok :=
 ⟨ok.mod,ok.kind,ok.glob,ok.blt,ok.above,ok.inj,ok.has,ok.cab,ok.hd,ok.frames,ok.stk,ok.exf,ok.bs,ok.bsz,ok.noex,ok.exfs,ok.funs,ok.frf⟩
section
variable {X:Cx}{pins:List (Addr×Obj)}{σ:St}{H:Hp}{s:Shared}{E:Value->Shared->Prop}
theorem Inv.wish (I:Inv X pins σ H s) (E:Value->Shared->Prop):Inv (X.wish E) pins σ H s:=⟨I.ok.wish E,I.os,I.bare,I.base,I.loc,I.cell,I.free,I.freeC,I.pin,I.hok,I.len⟩
theorem Inv.unwish (I:Inv (X.wish E) pins σ H s):Inv X pins σ H s:=⟨I.ok.unwish,I.os,I.bare,I.base,I.loc,I.cell,I.free,I.freeC,I.pin,I.hok,I.len⟩
theorem SP.unwish {D:Ends}{f:Flow}{s':Shared}(h:SP (X.wish E) pins D f s'):SP X pins D f s':=by
 cases f with
 | next=>obtain ⟨σ',H',I,q⟩:=h;exact ⟨σ',H',I.unwish,q⟩
 | brk=>obtain ⟨σ',H',I,q⟩:=h;exact ⟨σ',H',I.unwish,q⟩
 | cont=>obtain ⟨σ',H',I,q⟩:=h;exact ⟨σ',H',I.unwish,q⟩
 | ret u=>obtain ⟨v,σ',H',I,r,q⟩:=h;exact ⟨v,σ',H',I.unwish,r,q⟩
theorem PSs.nox {st:List Stmt}{t:TS}(h:PSs X.nox st t):PSs X st t:=fun pins s σ H D I hw =>
 wpAny_mono (h pins s σ H D (I.wish _) hw) (fun _ _ q=>q.unwish) fun _ _ z=>False.elim z
end
section
variable {X:Cx}{st:Stmt}{rest:List Stmt}{t u:TS}{e:Expr}{te:TE}{pos:Pos}
def yym:TS:=fun D σ H=>D.nx σ H
def yBZ (t u:TS):TS:=fun D σ H=>t { D with nx:=u D } σ H
theorem ypd:PSs X [] yym:=fun _ _ σ H _ I h=>wpAny_execs_nil ⟨σ,H,I,h⟩
theorem yga (h1:PS X st t) (h2:PSs X rest u):PSs X (st::rest) (yBZ t u):=by
 intro pins s σ H D I h
 refine wpAny_execs_cons (thn (h1 pins s σ H { D with nx:=u D } I h) fun f s1 q=>?_)
 cases f with
 | next =>
  obtain ⟨σ',H',I',q⟩:=q
  exact h2 pins s1 σ' H' D I' q
 | ret v=>exact q
 | brk=>exact q
 | cont=>exact q
theorem ype (h1:PS X st t):PSs X [st] t:=by
 intro pins s σ H D I h
 refine wpAny_execs_cons (thn (h1 pins s σ H D I h) fun f s1 q=>?_)
 cases f with
 | next=>exact wpAny_execs_nil q
 | ret v=>exact q
 | brk=>exact q
 | cont=>exact q
theorem Inv.quiet {pins:List (Addr×Obj)}{σ:St}{H:Hp}{s:Shared}(I:Inv X pins σ H s):interactive X.env=false:=by simp [interactive,I.ok.kind]
def yvf (te:TE):TS:=fun D σ H=>te σ H fun _ H1=>D.nx σ H1
theorem yjr (he:PE X e te) (hs:swapsWith e none pos.line X.env=pure false:=by rfl):PS X (.Expr e pos) (yvf te):=by
 intro pins s σ H D I h
 exact wpAny_Expr_any (thn (he pins s σ H _ I h) fun v s1 ⟨x,H1,I1,r1,q1⟩=>⟨σ,H1,I1,q1⟩) I.quiet hs
def yEP (te:TE):TS:=fun D σ H=>te σ H D.rt
theorem ytQ (he:PE X e te):PS X (.Return (some e) pos) (yEP te):=by
 intro pins s σ H D I h
 exact wpAny_Return_some (thn (he pins s σ H _ I h) fun v s1 ⟨x,H1,I1,r1,q1⟩=>⟨x,σ,H1,I1,r1,q1⟩)
def yEQ (c:TT) (t u:TS):TS:=fun D σ H=>c σ H fun b H1=>if b=true then t D σ H1 else u D σ H1
theorem yyn {c:Expr}{a b:List Stmt}{tc:TT}(hc:PT X c tc) (ha:PSs X a t) (hb:PSs X b u):PS X (.If c a b pos) (yEQ tc t u):=by
 intro pins s σ H D I h
 refine wpAny_If (thn (hc pins s σ H _ I h) fun d s1 ⟨H1,I1,q1⟩=>?_)
 cases d with
 | true=>exact ha pins s1 σ H1 D I1 q1
 | false=>exact hb pins s1 σ H1 D I1 q1
def ypf:TS:=fun _ _ _=>False
theorem yrN:PS X st ypf:=fun _ _ _ _ _ _ h=>h.elim
theorem ypg {sts:List Stmt}:PSs X sts ypf:=fun _ _ _ _ _ _ h=>h.elim
end
abbrev TG:=V->St->Hp->(St->Hp->Prop)->Prop
abbrev TGs:=List V->St->Hp->(St->Hp->Prop)->Prop
def PG (X:Cx) (target:Expr) (t:TG):Prop :=
 ∀ (pins:List (Addr×Obj)) (s:Shared) (σ:St) (H:Hp) (v:V) (u:Value) (Q:St->Hp->Prop),Inv X pins σ H s->RelV v u->t v σ H Q ->
  wpAny (model X.prog X.w) X.A (assign target X.env u) (fun _ s'=>∃ σ' H',Inv X pins σ' H' s'/\Q σ' H') X.xe s
def PGs (X:Cx) (ts:List Expr) (t:TGs):Prop :=
 ∀ (pins:List (Addr×Obj)) (s:Shared) (σ:St) (H:Hp) (vs:List V) (us:List Value) (Q:St->Hp->Prop),Inv X pins σ H s->Vals vs us->t vs σ H Q ->
  wpAny (model X.prog X.w) X.A (assignInOrder ((assignEach ts X.env).map (·.2)) us) (fun _ s'=>∃ σ' H',Inv X pins σ' H' s'/\Q σ' H') X.xe s
abbrev yCa:=V->V->V->Hp->(Hp->Prop)->Prop
def yER (X:Cx) (t:yCa):Prop :=
 ∀ (pins:List (Addr×Obj)) (s:Shared) (σ:St) (H:Hp) (o i v:V) (ov iv u:Value) (Q:Hp->Prop),Inv X pins σ H s->RelV o ov->RelV i iv->RelV v u->t o i v H Q ->
  wpAny (model X.prog X.w) X.A (setItem ov iv u) (fun _ s'=>∃ H',Inv X pins σ H' s'/\Q H') X.xe s
section
variable {X:Cx}{pos:Pos}
def ynP (i:Nat):TG:=fun v σ H Q=>Q (σ.set i (some v)) H
theorem yjs {i:Nat}{x:Str}(hN:X.N.Nodup) (hi:X.N[i]?=some x) (hx:Loc X.env.scope x) (hf:X.fn x=true\/X.env.scope.names.lookup x=some .local:=by first|exact .inl rfl|exact .inr rfl|assumption):PG X (.Name x pos) (ynP i):=by
 intro pins s σ H v u Q I r h
 exact wpAny_assign_Name (yfZ I hN hi hx r (fun s' I'=>⟨_,H,I',h⟩) hf)
def yES:TGs:=fun vs σ H Q=>vs=[]/\Q σ H
def yyo (t:TG) (u:TGs):TGs:=fun vs σ H Q=>∃ v r,vs=v::r/\t v σ H fun σ' H'=>u r σ' H' Q
theorem yvg:PGs X [] yES:=by
 intro pins s σ H vs us Q I r h
 obtain ⟨e,h⟩:=h
 subst e
 cases r
 exact assignInOrder_nil ⟨σ,H,I,h⟩
theorem yrO {e:Expr}{es:List Expr}{t:TG}{u:TGs}(h1:PG X e t) (h2:PGs X es u)
  (hs:(assignEach (e::es) X.env).map (·.2)=assign e X.env::(assignEach es X.env).map (·.2):=by rfl):PGs X (e::es) (yyo t u):=by
 intro pins s σ H vs us Q I r h
 obtain ⟨v,vr,e1,h⟩:=h
 subst e1
 cases r with
 | cons r rr =>
  rw [hs]
  refine assignInOrder_cons (thn (h1 pins s σ H _ _ _ I r h) fun _ s1 ⟨σ1,H1,I1,q1⟩=>?_)
  exact h2 pins s1 σ1 H1 _ _ Q I1 rr q1
def yET (K:PySem.W.Frag) (n:Nat) (t:TGs):TG:=fun v σ H Q=>∃ a xs,v=.ref a/\SqT K H a xs/\xs.length=n/\t xs σ H Q
theorem yyp {es:List Expr}{k:Nat}{t:TGs}{n:Nat}(hc:X.calm=true) (h:PGs X es t)
  (hn:(assignEach es X.env).length=n:=by rfl) (hst:(assignEach es X.env).findIdx? (·.1)=none:=by rfl):PG X (.Tuple es k pos) (yET X.K n t):=by
 intro pins s σ H v u Q I r hw
 obtain ⟨a,xs,e1,hq,hl,hw⟩:=hw
 subst e1
 cases r
 obtain ⟨its,rv,ht,hz⟩:=I.tuple hq
 refine assign_Tuple_tuple (I.ok.hd hc) ht (by simp [hn,<- hl,rv.length]) hst fun h' hx=>?_
 have I1:Inv X pins σ H { s with heap:=h' }:=I.kept (t':=s.toks) fun b o e=>hx b o (ne_of_lt (Heap.lt_size e)) e
 exact h pins _ σ H xs _ Q I1 (by simpa using rv) hw
def yEU (to ti:TE) (t:yCa):TG:=fun v σ H Q=>to σ H fun o H1=>ti σ H1 fun i H2=>t o i v H2 fun H3=>Q σ H3
theorem yyq {o i:Expr}{to ti:TE}{t:yCa}(ho:PE X o to) (hi:PE X i ti) (hs:yER X t)
  (ha:∀ v,assign (.Subscript o i pos) X.env v=(do
   let ov <- holding [v] (eval o X.env)
   let iv <- holding [v,ov] (eval i X.env)
   standAt pos
   holding [v,ov,iv] (setItem ov iv v)
   release [v,ov,iv] []):=by intro _;rfl):PG X (.Subscript o i pos) (yEU to ti t):=by
 intro pins s σ H v u Q I r h
 rw [ha]
 refine wpAny_bind (wpAny_holding (thn (ho pins s σ H _ I h) fun ov s1 ⟨x,H1,I1,r1,q1⟩=>?_))
 refine wpAny_bind (wpAny_holding (thn (hi pins s1 σ H1 _ I1 q1) fun iv s2 ⟨y,H2,I2,r2,q2⟩=>?_))
 refine wpAny_bind (wpAny_standAt (wpAny_bind (wpAny_holding (thn (hs pins s2 σ H2 x y v ov iv u _ I2 r1 r2 r q2) fun _ s3 ⟨H3,I3,q3⟩=>?_))))
 exact wpAny_release ⟨σ,H3,I3,q3⟩
def ytR (te:TE) (g:TG):TS:=fun D σ H=>te σ H fun x H1=>g x σ H1 D.nx
theorem ytS {tg e:Expr}{te:TE}{g:TG}(he:PE X e te) (hg:PG X tg g) (hs:swapsWithSole [tg] e pos.line X.env=pure false:=by rfl) (hw:swappedStores [tg] e X.env=pure none:=by rfl)
  (h1:(assignEach [tg] X.env).map (·.2)=[assign tg X.env]:=by rfl):PS X (.Assign [tg] e pos) (ytR te g):=by
 intro pins s σ H D I h
 refine wpAny_Assign_stores (thn (he pins s σ H _ I h) fun v s1 ⟨x,H1,I1,r1,q1⟩=>?_) hs hw
 rw [h1]
 exact thn (hg pins s1 σ H1 x v _ I1 r1 q1) fun _ s2 q=>q
theorem yph {i:Nat}{x:Str}{e:Expr}{te:TE}{pos':Pos}(hN:X.N.Nodup) (hi:X.N[i]?=some x) (hx:Loc X.env.scope x) (he:PE X e te) (hs:swapsWith e (some (.Name x pos')) pos.line X.env=pure false:=by rfl) (hf:X.fn x=true\/X.env.scope.names.lookup x=some .local:=by first|exact .inl rfl|exact .inr rfl|assumption) :
  PS X (.Assign [.Name x pos'] e pos) (ytR te (ynP i)):=by
 intro pins s σ H D I h
 refine wpAny_Assign_Name (thn (he pins s σ H _ I h) fun v s1 ⟨y,H1,I1,r1,q1⟩=>?_) hs
 exact yfZ I1 hN hi hx r1 (fun s2 I2=>⟨_,H1,I2,q1⟩) hf
def yEV (i j:Nat) (ta:TA):TS:=fun D σ H=>ta σ H fun vs H1=>∃ v w,vs=[v,w]/\D.nx ((σ.set i (some v)).set j (some w)) H1
theorem yyr {i j:Nat}{x y:Str}{a b:Expr}{ta:TA}{px py pt:Pos}{kt k2 pt2} (hc:X.calm=true) (hN:X.N.Nodup) (hi:X.N[i]?=some x) (hj:X.N[j]?=some y) (hij:i≠j)
  (hx:X.env.scope.names.lookup x=some .local) (hy:X.env.scope.names.lookup y=some .local) (ha:PA X [a,b] ta)
  (hw:swappedStores [.Tuple [.Name x px,.Name y py] kt pt] (.Tuple [a,b] k2 pt2) X.env=pure (some [x,y]))
  (hs:swapsWithSole [.Tuple [.Name x px,.Name y py] kt pt] (.Tuple [a,b] k2 pt2) pos.line X.env=pure false:=by rfl) :
  PS X (.Assign [.Tuple [.Name x px,.Name y py] kt pt] (.Tuple [a,b] k2 pt2) pos) (yEV i j ta):=by
 intro pins s σ H D I h
 rw [exec_Assign_arm]
 refine wpAny_bind (wpAny_standAt ?_)
 rw [hs]
 refine wpAny_bind (wpAny_pure ?_)
 rw [if_neg (by decide)]
 refine wpAny_bind (Tuple_ (thn (ha _ pins s σ H _ I h) fun us s1 ⟨vs,H1,I1,r1,q1⟩=>?_))
 obtain ⟨v,w,e1,q1⟩:=q1
 subst e1
 obtain ⟨u1,u2,rfl,rv,rw'⟩:∃ u1 u2,us=[u1,u2]/\RelV v u1/\RelV w u2:=by
  cases r1 with
  | cons p q =>
   cases q with
   | cons p' q' =>
    cases q'
    exact ⟨_,_,rfl,p,p'⟩
 refine wpAny_newObj_type ?_ (by show 2<=sizeLine;decide)
 have I2:Inv X pins σ H1 { s1 with heap:=s1.heap.push { cls:=.type "tuple",data:=.seq [u1,u2].toArray } }:=I1.kept (t':=s1.toks) fun b o e=>Heap.get?_push_of_some _ e
 rw [hw]
 refine wpAny_bind (wpAny_pure ?_)
 show wpAny (model X.prog X.w) X.A (do rule "assign.swapped-stores";let items <- unpackItems (.ref s1.heap.objs.size) 2 none;assignInOrder [fun v=>bindName X.env y v,fun v=>bindName X.env x v] items.reverse;pure Flow.next) _ _ _
 refine wpAny_bind (wpAny_rule (wpAny_bind (unpackItems_tuple (items:=#[u1,u2]) (I.ok.hd hc) (IsTup.new s1.heap _) fun h' hx'=>?_)))
 have I3:=I2.kept (h':=h') (t':=s1.toks) fun b o e=>hx' b o (ne_of_lt (Heap.lt_size e)) e
 show wpAny _ _ (assignInOrder [fun v=>bindName X.env y v,fun v=>bindName X.env x v] [u2,u1] >>= fun _=>pure Flow.next) _ _ _
 refine wpAny_bind (assignInOrder_cons (wpAny_bindName (yfZ I3 hN hj (.inl hy) rw' (fun s2 I4=>?_) (.inr hy))))
 refine assignInOrder_cons (wpAny_bindName (yfZ I4 hN hi (.inl hx) rv (fun s3 I5=>assignInOrder_nil (wpAny_pure ?_)) (.inr hx)))
 rw [List.set_comm _ _ (Ne.symm hij)] at I5
 exact ⟨_,H1,I5,q1⟩
end
section
variable {X:Cx}{pos:Pos}
noncomputable def ytT (c:TT) (tb:TS):TS:=fun D σ H=>∃ W:Nat->St->Hp->Prop,(∃ m,W m σ H)/\∀ m σ H,W m σ H ->
 c σ H fun b H1=>if b=true then ∃ N:St->Hp->Prop,(∀ σ' H',N σ' H'->∃ m',m'<m/\W m' σ' H')/\tb { D with nx:=N,ct:=N,bk:=D.nx } σ H1 else D.nx σ H1
theorem ymO {c:Expr}{body:List Stmt}{tc:TT}{tb:TS}(hp:PassesOwn (model X.prog X.w) X.A X.env X.xe) (hc:PT X c tc) (hb:PSs X body tb):PS X (.While c body [] pos) (ytT tc tb):=by
 intro pins s σ H D I h
 obtain ⟨W,⟨m0,w0⟩,turn⟩:=h
 refine wpAny_While (codeAny_whileLoop (fun n s'=>∃ σ' H',Inv X pins σ' H' s'/\W n σ' H') ?_ m0 ⟨σ,H,I,w0⟩)
 rintro n s1 ⟨σ1,H1,I1,w1⟩
 refine wpAny_passesOwn hp (thn (hc pins s1 σ1 H1 _ I1 (turn n σ1 H1 w1)) fun b s2 ⟨H2,I2,q2⟩=>?_)
 cases b with
 | true =>
  obtain ⟨N,hN,q2⟩:=q2
  rw [if_pos rfl]
  refine wpAny_passesOwn hp (thn (hb pins s2 σ1 H2 _ I2 q2) fun f s3 q3=>?_)
  cases f with
  | next =>
   obtain ⟨σ3,H3,I3,n3⟩:=q3
   obtain ⟨m',hm,w3⟩:=hN σ3 H3 n3
   exact ⟨m',hm,σ3,H3,I3,w3⟩
  | cont =>
   obtain ⟨σ3,H3,I3,n3⟩:=q3
   obtain ⟨m',hm,w3⟩:=hN σ3 H3 n3
   exact ⟨m',hm,σ3,H3,I3,w3⟩
  | brk=>exact q3
  | ret v=>exact q3
 | false =>
  rw [if_neg Bool.false_ne_true]
  exact wpAny_execs_nil ⟨σ1,H2,I2,q2⟩
end
structure It where
 go:Nat->Hp->Prop
 yld:Nat->Hp->V->Hp->Prop
 stop:Nat->Hp->Prop
noncomputable def ypi (X:Cx) (pins:List (Addr×Obj)) (H:Hp) (b:Addr):Prop :=
 H b=none/\b≠X.env.locals/\b∉X.fs/\(b∈X.ex\/X.s₀.heap.objs.size<=b)/\(∀ x c,X.env.cells.lookup x=some c->c≠b)/\∀ p∈X.pn++pins,p.1≠b
theorem Inv.fpOk {X:Cx}{pins:List (Addr×Obj)}{σ:St}{H H':Hp}{s:Shared}{b:Addr}(I:Inv X pins σ H s) (hb:s.heap.objs.size<=b) (hn:H' b=none):ypi X pins H' b:=by
 refine ⟨hn,Nat.ne_of_gt (lt_of_lt_of_le I.lt hb),I.nofs hb,.inr (Nat.le_trans I.sz hb),fun x c e z=>?_,fun p hp z=>?_⟩
 .obtain ⟨v,q⟩:=I.cell x c e
  exact absurd (lt_of_lt_of_le q.lt (by rw [z];exact hb)) (lt_irrefl _)
 .exact absurd (lt_of_lt_of_le (Heap.lt_size (I.pin p hp).1) (by rw [z];exact hb)) (lt_irrefl _)
structure Turn (P:Program) (w:World) (K:PySem.W.Frag) (tg:Expr) (J:It) (fp:List Addr) (it:Addr) (tn:Nat->Heap->Prop):Prop where
 mem:it∈fp
 obj:∀ i h,tn i h->∀ b∈fp,∃ o,h.get? b=some o/\∀ v,o.data≠.cell v
 keep:∀ i h h',tn i h->(∀ b∈fp,∀ o,h.get? b=some o->h'.get? b=some o)->tn i h'
 item:∀ (X:Cx),X.prog=P->X.w=w->X.K=K->X.calm=true->∀ (i:Nat) (pins:List (Addr×Obj)) (s:Shared) (σ:St) (H:Hp) (E:Value->Shared->Prop),Inv X pins σ H s->(∀ b∈fp,ypi X pins H b)->tn i s.heap->J.go i H ->
  wpAny (model P w) X.A (pyNext (.ref it)) (fun r s1=>∃ u,r=some u /\
   wpAny (model P w) X.A (letOwnedTupleGo tg (.ref it) u) (fun _ s2=>∃ x H',Inv X pins σ H' s2/\RelV x u/\J.yld i H x H'/\tn (i+1) s2.heap/\∀ b∈fp,H' b=none) E s1) E s
 done:∀ (X:Cx),X.prog=P->X.w=w->X.K=K->X.calm=true->∀ (i:Nat) (pins:List (Addr×Obj)) (s:Shared) (σ:St) (H:Hp) (E:Value->Shared->Prop),Inv X pins σ H s->(∀ b∈fp,ypi X pins H b)->tn i s.heap->J.stop i H ->
  wpAny (model P w) X.A (pyNext (.ref it)) (fun r s1=>r=none/\Inv X pins σ H s1) E s
 self:∀ (A:Around) (i:Nat) (s:Shared) (Q:Value->Shared->Prop) (E:Value->Shared->Prop),tn i s.heap->Q (.ref it) s->wpAny (model P w) A (pyIter (.ref it)) Q E s
abbrev TI:=St->Hp->(It->Hp->Prop)->Prop
def PIE (X:Cx) (pins:List (Addr×Obj)) (σ:St) (tg:Expr) (R:It->Hp->Prop) (itv:Value) (s2:Shared):Prop :=
 ∃ (it:Addr) (fp:List Addr) (tn:Nat->Heap->Prop) (J:It) (H':Hp),itv=.ref it/\Inv X pins σ H' s2/\Turn X.prog X.w X.K tg J fp it tn/\tn 0 s2.heap/\(∀ b∈fp,ypi X pins H' b)/\R J H'
def PI (X:Cx) (tg iter:Expr) (wi:TI):Prop :=
 ∀ (pins:List (Addr×Obj)) (s:Shared) (σ:St) (H:Hp) (R:It->Hp->Prop),Inv X pins σ H s->wi σ H R ->
  wpAny (model X.prog X.w) X.A (eval iter X.env) (fun v s1=>wpAny (model X.prog X.w) X.A (pyIter v) (PIE X pins σ tg R) X.xe s1) X.xe s
theorem yrP {M:Model}{A:Around}{E:Value->Shared->Prop}{s:Shared}{tg:Expr}{it:Addr}{u:Value}{o:Obj}{n:String}{vs:Array Value}{Q:Unit->Shared->Prop}(ho:s.heap.get? it=some o) (hc:o.cls=.type n) (hd:o.data=.fields vs)
    (hn:["enumerate","zip","dict_itemiterator","dict_reverseitemiterator","odict_iterator","itertools.zip_longest","itertools.pairwise"].contains n=false) (hQ:Q () s):wpAny M A (letOwnedTupleGo tg (.ref it) u) Q E s:=by
  unfold letOwnedTupleGo
  cases tg<;>first
    | exact wpAny_pure hQ
    | (cases u<;>first
        | exact wpAny_pure hQ
        | (refine wpAny_bind (wpAny_load ho ?_)
           rw [hc,hd]
           show wpAny M A (if (["enumerate","zip","dict_itemiterator","dict_reverseitemiterator","odict_iterator","itertools.zip_longest","itertools.pairwise"].contains n && vs[0]? == some (rawInt _))=true then _ else _) Q E s
           rw [if_neg (by intro h;rw [hn,Bool.false_and] at h;cases h)]
           exact wpAny_pure hQ))
def Itl (K:PySem.W.Frag) (a:Addr):It :=
 ⟨fun i H=>∃ xs x,SqL K H a xs/\xs[i]?=some x,fun i H x H'=>H'=H/\∀ xs,SqL K H a xs->xs[i]?=some x,fun i H=>∃ xs,SqL K H a xs/\xs.length<=i⟩
def Itt (K:PySem.W.Frag) (a:Addr):It :=
 ⟨fun i H=>∃ xs x,SqT K H a xs/\xs[i]?=some x,fun i H x H'=>H'=H/\∀ xs,SqT K H a xs->xs[i]?=some x,fun i H=>∃ xs,SqT K H a xs/\xs.length<=i⟩
def Itr (lo:Int) (n:Nat):It:=⟨fun i _=>i<n,fun i H x H'=>H'=H/\x=.int (lo+i),fun i _=>n<=i⟩
theorem ypj {P:Program}{w:World}{K:PySem.W.Frag}{tg:Expr}(a it:Addr):Turn P w K tg (Itl K a) [it] it (fun i h=>h.IsListIter it a i) where
 mem:=by simp
 obj:=fun i h st b hb=>by
  have e:b=it:=by simpa using hb
  subst e
  obtain ⟨o,e,c,d⟩:=st
  exact ⟨o,e,fun v z=>by rw [d] at z;cases z⟩
 keep:=fun i h h' st k=>st.at fun o e=>k it (by simp) o e
 item:=by
  intro X hP hw hK hc i pins s σ H E I hf st hg
  subst hP hw hK
  obtain ⟨xs,x,hq,hx⟩:=hg
  obtain ⟨its,rv,p,hz⟩:=I.list hq
  obtain ⟨u,hu,ru⟩:=rv.get hx
  obtain ⟨f0,f1,f2,f3,f4,f5⟩:=hf it (by simp)
  refine wpAny_pyNext_list_item st p.isList (x:=u) (by simpa using hu) fun h' st' sb=>?_
  have I1:Inv X pins σ H { s with heap:=h' }:=I.turned (t':=s.toks) (fun b o hb e=>(sb.2 b hb).trans e) f0 f1 f3 f4 f5
  obtain ⟨o,e,c,d⟩:=id st'
  exact ⟨u,rfl,yrP (s:={ s with heap:=h' }) e c d (by decide) ⟨x,H,I1,ru,⟨rfl,fun ys hy=>by rw [I.list_inj hy hq];exact hx⟩,st',fun b hb=>(hf b hb).1⟩⟩
 done:=by
  intro X hP hw hK hc i pins s σ H E I hf st hg
  subst hP hw hK
  obtain ⟨xs,hq,hx⟩:=hg
  obtain ⟨its,rv,p,hz⟩:=I.list hq
  obtain ⟨f0,f1,f2,f3,f4,f5⟩:=hf it (by simp)
  have hl:=rv.length
  exact wpAny_pyNext_list_end (I.ok.hd hc) st p.isList (by simp;omega) fun h' eb=>⟨rfl,I.turned (t':=s.toks) (fun b o hb e=>eb b o hb e) f0 f1 f3 f4 f5⟩
 self:=fun _ _ _ _ _ st h=>wpAny_pyIter_listiter st h
theorem ynQ {P:Program}{w:World}{K:PySem.W.Frag}{tg:Expr}(a it:Addr):Turn P w K tg (Itt K a) [it] it (fun i h=>h.IsTupleIter it a i) where
 mem:=by simp
 obj:=fun i h st b hb=>by
  have e:b=it:=by simpa using hb
  subst e
  obtain ⟨o,e,c,d⟩:=st
  exact ⟨o,e,fun v z=>by rw [d] at z;cases z⟩
 keep:=fun i h h' st k=>st.at fun o e=>k it (by simp) o e
 item:=by
  intro X hP hw hK hc i pins s σ H E I hf st hg
  subst hP hw hK
  obtain ⟨xs,x,hq,hx⟩:=hg
  obtain ⟨its,rv,p,hz⟩:=I.tuple hq
  obtain ⟨u,hu,ru⟩:=rv.get hx
  obtain ⟨f0,f1,f2,f3,f4,f5⟩:=hf it (by simp)
  refine wpAny_pyNext_tuple_item st (show s.heap.IsTuple a its.toArray from p) (x:=u) (by simpa using hu) fun h' st' sb=>?_
  have I1:Inv X pins σ H { s with heap:=h' }:=I.turned (t':=s.toks) (fun b o hb e=>(sb.2 b hb).trans e) f0 f1 f3 f4 f5
  obtain ⟨o,e,c,d⟩:=id st'
  exact ⟨u,rfl,yrP (s:={ s with heap:=h' }) e c d (by decide) ⟨x,H,I1,ru,⟨rfl,fun ys hy=>by rw [I.tuple_inj hy hq];exact hx⟩,st',fun b hb=>(hf b hb).1⟩⟩
 done:=by
  intro X hP hw hK hc i pins s σ H E I hf st hg
  subst hP hw hK
  obtain ⟨xs,hq,hx⟩:=hg
  obtain ⟨its,rv,p,hz⟩:=I.tuple hq
  obtain ⟨f0,f1,f2,f3,f4,f5⟩:=hf it (by simp)
  have hl:=rv.length
  exact wpAny_pyNext_tuple_end (I.ok.hd hc) st (show s.heap.IsTuple a its.toArray from p) (by simp;omega) fun h' eb=>⟨rfl,I.turned (t':=s.toks) (fun b o hb e=>eb b o hb e) f0 f1 f3 f4 f5⟩
 self:=fun _ _ _ _ _ st h=>wpAny_pyIter_tupleiter st h
theorem ynR {P:Program}{w:World}{K:PySem.W.Frag}{tg:Expr}(it:Addr) (lo:Int) (n:Nat):Turn P w K tg (Itr lo n) [it] it (fun i h=>IsRangeIter h it (lo+(i:Nat)*1) ((n:Int)-(i:Nat)) 1) where
 mem:=by simp
 obj:=fun i h st b hb=>by
  have e:b=it:=by simpa using hb
  subst e
  exact ⟨_,st,fun v z=>by
   have z':Data.fields _=Data.cell v:=z
   cases z'⟩
 keep:=fun i h h' st k=>k it (by simp) _ st
 item:=by
  intro X hP hw hK hc i pins s σ H E I hf st hg
  subst hP hw hK
  obtain ⟨f0,f1,f2,f3,f4,f5⟩:=hf it (by simp)
  have W:=Walks.range (prog:=X.prog) (w:=X.w) (I.ok.hd hc) it lo 1 n
  refine W.item i s _ _ hg st fun v h' tk hv st' kk=>?_
  obtain ⟨t,rfl⟩:=hv
  have I1:Inv X pins σ H { s with heap:=h',toks:=tk }:=I.turned (fun b o hb e=>kk b o (by simpa using hb) e) f0 f1 f3 f4 f5
  refine ⟨_,rfl,yrP (s:={ s with heap:=h',toks:=tk }) (n:="range_iterator") st' rfl rfl (by decide) ⟨.int (lo+i),H,I1,⟨t,?_⟩,⟨rfl,rfl⟩,st',fun b hb=>(hf b hb).1⟩⟩
  rw [Int.mul_one]
 done:=by
  intro X hP hw hK hc i pins s σ H E I hf st hg
  subst hP hw hK
  obtain ⟨f0,f1,f2,f3,f4,f5⟩:=hf it (by simp)
  exact wpAny_pyNext_range_end (I.ok.hd hc) st (by have:n<=i:=hg;omega) fun h' eb=>⟨rfl,I.turned (t':=s.toks) (fun b o hb e=>eb b o hb e) f0 f1 f3 f4 f5⟩
 self:=fun _ _ _ _ _ st h=>wpAny_pyIter_rangeiter st h
end L2
namespace L2
open PySem PySem.Spec PyProof.Rows
section
variable {X:Cx}{tg:Expr}
def yys (K:PySem.W.Frag) (tl:TE):TI:=fun σ H R=>tl σ H fun x H1=>∃ a,x=.ref a/\(∃ xs,SqL K H1 a xs)/\R (Itl K a) H1
def yEW (K:PySem.W.Frag) (tl:TE):TI:=fun σ H R=>tl σ H fun x H1=>∃ a,x=.ref a/\(∃ xs,SqT K H1 a xs)/\R (Itt K a) H1
theorem yvh {l:Expr}{tl:TE}(hl:PE X l tl):PI X tg l (yys X.K tl):=by
 intro pins s σ H R I h
 refine thn (hl pins s σ H _ I h) fun v s1 ⟨x,H1,I1,r1,q1⟩=>?_
 obtain ⟨a,e,⟨xs,hq⟩,q⟩:=q1
 subst e
 cases r1
 obtain ⟨its,rv,p,hz⟩:=I1.list hq
 refine wpAny_pyIter_list p.isList ?_
 refine ⟨s1.heap.objs.size,[s1.heap.objs.size],_,_,H1,rfl,I1.kept (t':=s1.toks) fun b o e=>Heap.get?_push_of_some _ e,ypj a _,⟨_,Heap.get?_push_size _ rfl,rfl,rfl⟩,fun b hb=>?_,q⟩
 have e:b=s1.heap.objs.size:=by simpa using hb
 subst e
 exact I1.fpOk (Nat.le_refl _) (I1.hok.fresh (Nat.le_refl _))
theorem yyt {l:Expr}{tl:TE}(hl:PE X l tl):PI X tg l (yEW X.K tl):=by
 intro pins s σ H R I h
 refine thn (hl pins s σ H _ I h) fun v s1 ⟨x,H1,I1,r1,q1⟩=>?_
 obtain ⟨a,e,⟨xs,hq⟩,q⟩:=q1
 subst e
 cases r1
 obtain ⟨its,rv,p,hz⟩:=I1.tuple hq
 refine wpAny_pyIter_tuple (show s1.heap.IsTuple a its.toArray from p) ?_
 refine ⟨s1.heap.objs.size,[s1.heap.objs.size],_,_,H1,rfl,I1.kept (t':=s1.toks) fun b o e=>Heap.get?_push_of_some _ e,ynQ a _,⟨_,Heap.get?_push_size _ rfl,rfl,rfl⟩,fun b hb=>?_,q⟩
 have e:b=s1.heap.objs.size:=by simpa using hb
 subst e
 exact I1.fpOk (Nat.le_refl _) (I1.hok.fresh (Nat.le_refl _))
theorem yrQ {pins:List (Addr×Obj)}{σ:St}{H:Hp}{s:Shared}{R:It->Hp->Prop}{E:Value->Shared->Prop}{lo hi:Int}{t u v:Tok}{tk:Nat}(I:Inv X pins σ H s) (h1:-(2 ^ 62)<=lo) (h2:lo<2 ^ 62) (h3:-(2 ^ 62)<=hi) (h4:hi<2 ^ 62)
  (q:R (Itr lo (hi-lo).toNat) H):wpAny (model X.prog X.w) X.A (pyIter (.ref s.heap.objs.size)) (PIE X pins σ tg R) E { s with heap:=s.heap.push { cls:=.type "range",data:=.fields #[.int lo t,.int hi u,.int 1 v] },toks:=tk }:=by
 refine wpAny_pyIter_range (IsRange.new ..) (small_one h1 h2 h3 h4) ?_
 have I1:Inv X pins σ H { s with heap:=s.heap.push { cls:=.type "range",data:=.fields #[.int lo t,.int hi u,.int 1 v] },toks:=tk }:=I.kept fun b o e=>Heap.get?_push_of_some _ e
 refine ⟨(s.heap.push { cls:=.type "range",data:=.fields #[.int lo t,.int hi u,.int 1 v] }).objs.size,[(s.heap.push { cls:=.type "range",data:=.fields #[.int lo t,.int hi u,.int 1 v] }).objs.size],_,_,H,rfl,
  I1.kept (t':=tk) fun b o e=>Heap.get?_push_of_some _ e,ynR _ lo (hi-lo).toNat,?_,fun b hb=>?_,q⟩
 .have e1:lo+((0:Nat):Int)*1=lo:=by simp
  have e2:(((hi-lo).toNat:Nat):Int)-((0:Nat):Int)=Builtin.Range.rangeSize lo hi 1:=by rw [rangeSize_one];split<;>omega
  show IsRangeIter _ _ (lo+((0:Nat):Int)*1) ((((hi-lo).toNat:Nat):Int)-((0:Nat):Int)) 1
  rw [e1,e2]
  exact Heap.get?_push_size _ rfl
 .have e:b=(s.heap.push { cls:=.type "range",data:=.fields #[.int lo t,.int hi u,.int 1 v] }).objs.size:=by simpa using hb
  subst e
  exact I1.fpOk (Nat.le_refl _) (I1.hok.fresh (Nat.le_refl _))
def yyu (ta:TA):TI:=fun σ H R=>ta σ H fun vs H1=>∃ j:Int,vs=[.int j]/\-(2 ^ 62)<=j/\j<2 ^ 62/\R (Itr 0 j.toNat) H1
theorem ypk {a:Expr}{ta:TA}{p pos:Pos}(hg:Gl X "range") (hm:X.mg "range" = none) (ha:PA X [a] ta) (hs:starEach [a] X.env=[(false,eval a X.env)]:=by rfl):PI X tg (.Call (.Name "range" p) [a] [] pos) (yyu ta):=by
 intro pins s σ H R I h
 refine Call_ (ymN I hg hm boot_range (PyProof.Rows.callWith_type1 (thn (ha pos pins s σ H _ I h) fun us s1 ⟨vs,H1,I1,r1,q1⟩=>?_) hs rfl))
 obtain ⟨j,e,q1,q2,q⟩:=q1
 subst e
 cases r1 with
 | cons r rr =>
  cases rr
  obtain ⟨t,rfl⟩:=r
  exact call_range_1 (yrQ I1 (by omega) (by omega) q1 q2 (by simpa using q))
noncomputable def yEX (wi:TI) (g:TG) (tb:TS):TS:=fun D σ H=>wi σ H fun J H1=>∃ W:Nat->Nat->St->Hp->Prop,(∃ m,W 0 m σ H1)/\∀ i m σ H,W i m σ H ->
 (J.stop i H/\D.nx σ H)\/(J.go i H/\∃ N:St->Hp->Prop,(∀ σ' H',N σ' H'->∃ m',m'<m/\W (i+1) m' σ' H')/\∀ x H',J.yld i H x H'->g x σ H' fun σ2 H2=>tb { D with nx:=N,ct:=N,bk:=D.nx } σ2 H2)
def ymP (fp:List Addr) (h:Heap):List (Addr×Obj):=fp.filterMap fun b=>(h.get? b).map fun o=>(b,o)
theorem ybV {fp:List Addr}{h:Heap}{b:Addr}{o:Obj}(hb:b∈fp) (e:h.get? b=some o):(b,o)∈ymP fp h:=List.mem_filterMap.mpr ⟨b,hb,by rw [e];rfl⟩
theorem ypl {fp:List Addr}{h:Heap}{p:Addr×Obj}(hp:p∈ymP fp h):p.1∈fp/\h.get? p.1=some p.2:=by
 obtain ⟨b,hb,e⟩:=List.mem_filterMap.mp hp
 cases q:h.get? b with
 | none=>rw [q] at e;cases e
 | some o =>
  rw [q] at e
  have e':(b,o)=p:=Option.some.inj e
  subst e'
  exact ⟨hb,q⟩
theorem Inv.pinned {pins:List (Addr×Obj)}{σ:St}{H:Hp}{s:Shared}{fp:List Addr}(I:Inv X pins σ H s) (hf:∀ b∈fp,ypi X pins H b) (ho:∀ b∈fp,∃ o,s.heap.get? b=some o/\∀ v,o.data≠.cell v):Inv X (pins++ymP fp s.heap) σ H s :=
 I.pins_of fun p hp=>(List.mem_append.mp hp).elim (fun z=>I.pin p (mem_append_right _ z)) fun z=>by
  obtain ⟨hb,e⟩:=ypl z
  obtain ⟨f0,f1,f2,_⟩:=hf p.1 hb
  obtain ⟨o,e',d⟩:=ho p.1 hb
  rw [e] at e';cases e'
  exact ⟨e,f0,f1,f2,d⟩
theorem Inv.unpinned {pins pl:List (Addr×Obj)}{σ:St}{H:Hp}{s:Shared}(I:Inv X (pins++pl) σ H s):Inv X pins σ H s:=I.pins_of fun p hp=>I.pin p (mem_append_right _ (List.mem_append_left _ hp))
theorem yyv {iter:Expr}{body:List Stmt}{wi:TI}{g:TG}{tb:TS}{pos:Pos}(hp:PassesOwn (model X.prog X.w) X.A X.env X.xe) (hc:X.calm=true) (hi:PI X tg iter wi) (hg:PG X tg g) (hb:PSs X body tb)
  (hs:∀ x,foldedSetIterable iter X.env x=pure x:=by intro _;rfl):PS X (.For tg iter body [] pos) (yEX wi g tb):=by
 intro pins s σ H D I h
 refine wpAny_For (thn (hi pins s σ H _ I h) fun v s1 h1=>thn h1 fun itv s2 h2=>?_) hs
 obtain ⟨it,fp,tn,J,H2,e,I2,T,st2,f2,W,⟨m0,w0⟩,turn⟩:=h2
 subst e
 have stat:∀ {H':Hp},(∀ b∈fp,H' b=none)->∀ b∈fp,ypi X pins H' b:=fun hn b hb=>⟨hn b hb,(f2 b hb).2⟩
 refine codeAny_forLoop_any (fun n s'=>∃ i σ' H',Inv X pins σ' H' s'/\tn i s'.heap/\(∀ b∈fp,H' b=none)/\W i n σ' H') ?_ m0 ⟨0,σ,H2,I2,st2,fun b hb=>(f2 b hb).1,w0⟩
 rintro n s3 ⟨i,σ3,H3,I3,st3,fr3,w3⟩
 rcases turn i n σ3 H3 w3 with ⟨stop,qn⟩|⟨go,N,hN,step⟩
 .refine wpAny_passesOwn hp (thn (T.done X rfl rfl rfl hc i pins s3 σ3 H3 X.xe I3 (stat fr3) st3 stop) fun r s4 ⟨hr,I4⟩=>?_)
  subst hr
  exact wpAny_execs_nil ⟨σ3,H3,I4,qn⟩
 .refine wpAny_passesOwn hp (thn (T.item X rfl rfl rfl hc i pins s3 σ3 H3 X.xe I3 (stat fr3) st3 go) fun r s4 ⟨u,hr,h4⟩=>?_)
  subst hr
  refine wpAny_passesOwn hp (thn h4 fun _ s5 ⟨x,H5,I5,r5,y5,st5,fr5⟩=>?_)
  have I5':=I5.pinned (stat fr5) (T.obj _ _ st5)
  refine wpAny_passesOwn hp (thn (hg _ s5 σ3 H5 x u _ I5' r5 (step x H5 y5)) fun _ s6 ⟨σ6,H6,I6,q6⟩=>?_)
  refine wpAny_passesOwn hp (thn (hb _ s6 σ6 H6 _ I6 q6) fun f s7 q7=>?_)
  have again:∀ {σ7:St}{H7:Hp},Inv X (pins++ymP fp s5.heap) σ7 H7 s7->N σ7 H7->∃ m,m<n/\∃ i σ' H',Inv X pins σ' H' s7/\tn i s7.heap/\(∀ b∈fp,H' b=none)/\W i m σ' H':=fun {σ7 H7} I7 n7=>by
   obtain ⟨m',hm,w7⟩:=hN σ7 H7 n7
   refine ⟨m',hm,i+1,σ7,H7,I7.unpinned,T.keep _ _ _ st5 fun b hb o e=>(I7.pin (b,o) (mem_append_right _ (mem_append_right _ (ybV hb e)))).1,fun b hb=>?_,w7⟩
   obtain ⟨o,e,d⟩:=T.obj _ _ st5 b hb
   exact (I7.pin (b,o) (mem_append_right _ (mem_append_right _ (ybV hb e)))).2.1
  cases f with
  | next=>obtain ⟨σ7,H7,I7,n7⟩:=q7;exact again I7 n7
  | cont=>obtain ⟨σ7,H7,I7,n7⟩:=q7;exact again I7 n7
  | brk=>obtain ⟨σ7,H7,I7,q7⟩:=q7;exact ⟨σ7,H7,I7.unpinned,q7⟩
  | ret v=>obtain ⟨x7,σ7,H7,I7,r7,q7⟩:=q7;exact ⟨x7,σ7,H7,I7.unpinned,r7,q7⟩
end
end L2
namespace L2
open PySem PySem.Spec PyProof.Rows
abbrev R2:=V->V->Hp->VK->Prop
def OpR (X:Cx) (f:Value->Value->Sem Value) (r:R2):Prop :=
 ∀ (pins:List (Addr×Obj)) (s:Shared) (σ:St) (H:Hp) (x y:V) (v u:Value) (Q:VK),Inv X pins σ H s->RelV x v->RelV y u->r x y H Q ->
  wpAny (model X.prog X.w) X.A (f v u) (EP X pins σ Q) X.xe s
def UnR (X:Cx) (f:Value->Sem Value) (r:V->Hp->VK->Prop):Prop :=
 ∀ (pins:List (Addr×Obj)) (s:Shared) (σ:St) (H:Hp) (x:V) (v:Value) (Q:VK),Inv X pins σ H s->RelV x v->r x H Q ->
  wpAny (model X.prog X.w) X.A (f v) (EP X pins σ Q) X.xe s
def CallR (X:Cx) (f:Value) (r:List V->Hp->VK->Prop):Prop :=
 ∀ (pins:List (Addr×Obj)) (s:Shared) (σ:St) (H:Hp) (xs:List V) (us:List Value) (Q:VK),Inv X pins σ H s->Vals xs us->r xs H Q ->
  wpAny (model X.prog X.w) X.A (call f us) (EP X pins σ Q) X.xe s
def tOp (r:R2) (ta tb:TE):TE:=fun σ H Q=>ta σ H fun x H1=>tb σ H1 fun y H2=>r x y H2 Q
def tUn (r:V->Hp->VK->Prop) (ta:TE):TE:=fun σ H Q=>ta σ H fun x H1=>r x H1 Q
def rI (C:Int->Int->Prop) (g:Int->Int->V):R2:=fun x y H Q=>∃ i j,x=.int i/\y=.int j/\C i j/\Q (g i j) H
def rI0 (g:Int->Int->V):R2:=fun x y H Q=>∃ i j,x=.int i/\y=.int j/\Q (g i j) H
def rU (g:Int->V):V->Hp->VK->Prop:=fun x H Q=>∃ i,x=.int i/\Q (g i) H
section
variable {X:Cx}{a b c:Expr}{ta tb tc:TE}{pos:Pos}
theorem yCb (ha:PE X a ta) (hb:PE X b tb) {pins:List (Addr×Obj)}{s:Shared}{σ:St}{H:Hp}{R:V->V->Hp->Prop}(I:Inv X pins σ H s)
  (h:ta σ H fun x H1=>tb σ H1 fun y H2=>R x y H2) {Q:Value->Shared->Prop}{f:Value->Value->Sem Value}
  (hf:∀ v u s2 x y H2,Inv X pins σ H2 s2->RelV x v->RelV y u->R x y H2->wpAny (model X.prog X.w) X.A (f v u) Q X.xe s2) :
  wpAny (model X.prog X.w) X.A (eval a X.env) (fun v s₁=>wpAny (model X.prog X.w) X.A (eval b X.env) (fun u s₂=>wpAny (model X.prog X.w) X.A (f v u) Q X.xe s₂) X.xe s₁) X.xe s:=by
 refine thn (ha pins s σ H _ I h) fun v s1 ⟨x,H1,I1,r1,q1⟩=>?_
 refine thn (hb pins s1 σ H1 _ I1 q1) fun u s2 ⟨y,H2,I2,r2,q2⟩=>?_
 exact hf v u s2 x y H2 I2 r1 r2 q2
theorem yyw {op:Operator}{r:R2}(ho:OpR X (binaryOp op) r) (ha:PE X a ta) (hb:PE X b tb):PE X (.BinOp a op b pos) (tOp r ta tb):=by
 intro pins s σ H Q I h
 exact wpAny_BinOp (yCb ha hb I h fun v u s2 x y H2 I2 rx ry q=>ho pins s2 σ H2 x y v u Q I2 rx ry q)
theorem yCc {op:UnaryOp}{r:V->Hp->VK->Prop}(ho:UnR X (unaryOp op) r) (ha:PE X a ta):PE X (.UnaryOp op a pos) (tUn r ta):=by
 intro pins s σ H Q I h
 exact UnaryOp_ (thn (ha pins s σ H _ I h) fun v s1 ⟨x,H1,I1,r1,q1⟩=>ho pins s1 σ H1 x v Q I1 r1 q1)
theorem opI {f:Value->Value->Sem Value}{C:Int->Int->Prop}{g:Int->Int->Int}
  (rule:∀ (i j:Int) (t u:Tok) (s:Shared) (Q:Value->Shared->Prop) (E:Value->Shared->Prop),C i j->Q (.int (g i j) s.toks) { s with toks:=s.toks+1 }->wpAny (model X.prog X.w) X.A (f (.int i t) (.int j u)) Q E s) :
  OpR X f (rI C fun i j=>.int (g i j)):=by
 intro pins s σ H x y v u Q I rx ry h
 obtain ⟨i,j,rfl,rfl,hc,q⟩:=h
 obtain ⟨t,rfl⟩:=rx
 obtain ⟨t',rfl⟩:=ry
 exact rule i j t t' s _ _ hc ⟨.int (g i j),H,I.tok _,⟨_,rfl⟩,q⟩
theorem yEY {f:Value->Value->Sem Value}{g:Int->Int->Int}
  (rule:∀ (i j:Int) (t u:Tok) (s:Shared) (Q:Value->Shared->Prop) (E:Value->Shared->Prop),Q (.int (g i j) s.toks) { s with toks:=s.toks+1 }->wpAny (model X.prog X.w) X.A (f (.int i t) (.int j u)) Q E s) :
  OpR X f (rI0 fun i j=>.int (g i j)):=by
 intro pins s σ H x y v u Q I rx ry h
 obtain ⟨i,j,rfl,rfl,q⟩:=h
 obtain ⟨t,rfl⟩:=rx
 obtain ⟨t',rfl⟩:=ry
 exact rule i j t t' s _ _ ⟨.int (g i j),H,I.tok _,⟨_,rfl⟩,q⟩
theorem yCd {f:Value->Value->Sem Value}{g:Int->Int->Bool}
  (rule:∀ (i j:Int) (t u:Tok) (s:Shared) (Q:Value->Shared->Prop) (E:Value->Shared->Prop),Q (.bool (g i j)) s->wpAny (model X.prog X.w) X.A (f (.int i t) (.int j u)) Q E s) :
  OpR X f (rI0 fun i j=>.bl (g i j)):=by
 intro pins s σ H x y v u Q I rx ry h
 obtain ⟨i,j,rfl,rfl,q⟩:=h
 obtain ⟨t,rfl⟩:=rx
 obtain ⟨t',rfl⟩:=ry
 exact rule i j t t' s _ _ ⟨.bl (g i j),H,I,rfl,q⟩
def yEZ (i j:Int):Prop:=0<j/\j<1073741824
def yCe (i j:Int):Prop:=0<=j/\j<=1000000/\i.natAbs<2 ^ 64
def CMul (i j:Int):Prop:=(-(2 ^ 64)<i/\i<2 ^ 64)\/(-(2 ^ 64)<j/\j<2 ^ 64)
theorem CMul.ok {i j:Int}(h:CMul i j):IntMulOk i j:=by
 rcases h with ⟨h1,h2⟩|⟨h1,h2⟩
 .exact .of_left (intBits_le_64 h1 h2)
 .exact .of_right (intBits_le_64 h1 h2)
theorem ybI:OpR X (binaryOp .Add) (rI0 fun i j=>.int (i+j)):=yEY fun _ _ _ _ _ _ _ q=>add_int q
theorem ymQ:OpR X (binaryOp .Sub) (rI0 fun i j=>.int (i-j)):=yEY fun _ _ _ _ _ _ _ q=>sub_int q
theorem ymR:OpR X (binaryOp .Mult) (rI CMul fun i j=>.int (i*j)):=opI fun _ _ _ _ _ _ _ hc q=>mul_int q hc.ok
theorem ybf:OpR X (binaryOp .FloorDiv) (rI yEZ fun i j=>.int (i/j)):=opI fun i j _ _ _ _ _ hc q=>by
 have h1:(0:Int)<j:=hc.1
 have h2:j<1073741824:=hc.2
 exact floordiv_int (by omega) (by rw [Int.fdiv_eq_ediv_of_nonneg i (by omega)];exact q) (.inl (PyProof.noPylong_small (by omega)))
theorem ybh:OpR X (binaryOp .Mod) (rI (fun _ j=>0<j) fun i j=>.int (i%j)):=opI fun i j _ _ _ _ _ hc q=>by
 have h1:(0:Int)<j:=hc
 exact mod_int' (by omega) (by rw [Int.fmod_eq_emod_of_nonneg i (by omega)];exact q)
theorem yiI:OpR X (binaryOp .Pow) (rI yCe fun i j=>.int (i ^ j.toNat)):=opI fun _ _ _ _ _ _ _ hc q=>pow_int_small hc.1 hc.2.1 hc.2.2 q
theorem unI {f:Value->Sem Value}{g:Int->Int}
  (rule:∀ (i:Int) (t:Tok) (s:Shared) (Q:Value->Shared->Prop) (E:Value->Shared->Prop),Q (.int (g i) s.toks) { s with toks:=s.toks+1 }->wpAny (model X.prog X.w) X.A (f (.int i t)) Q E s) :
  UnR X f (rU fun i=>.int (g i)):=by
 intro pins s σ H x v Q I rx h
 obtain ⟨i,rfl,q⟩:=h
 obtain ⟨t,rfl⟩:=rx
 exact rule i t s _ _ ⟨.int (g i),H,I.tok _,⟨_,rfl⟩,q⟩
theorem yyx:UnR X (unaryOp .USub) (rU fun i=>.int (-i)):=unI fun _ _ _ _ _ q=>neg_int q
end
noncomputable def yvi:V->V->Bool
 | .non,.non=>true|.non,.int _=>true|.int _,.non=>true|.non,.bl _=>true|.bl _,.non=>true|.non,.str _=>true|.str _,.non=>true
 | .int _,.int _=>true|.bl _,.bl _=>true|.str _,.str _=>true|.byt _,.byt _=>true
 | .int _,.str _=>true|.str _,.int _=>true|.bl _,.str _=>true|.str _,.bl _=>true
 | _,_=>false
def rEq:R2:=fun x y H Q=>yvi x y=true/\Q (.bl (decide (x=y))) H
def rNe:R2:=fun x y H Q=>yvi x y=true/\Q (.bl (!decide (x=y))) H
theorem ypm {i j:Int}:decide (V.int i=V.int j)=(i == j):=by
 rw [Bool.eq_iff_iff]
 simp
theorem ytU {i j:Bool}:decide (V.bl i=V.bl j)=(i == j):=by
 rw [Bool.eq_iff_iff]
 simp
theorem ypn {i j:Str}:decide (V.str i=V.str j)=(i == j):=by
 rw [Bool.eq_iff_iff]
 simp
theorem ypo {i j:Array UInt8}:decide (V.byt i=V.byt j)=(i.toList == j.toList):=by
 rw [Bool.eq_iff_iff]
 cases i
 cases j
 simp
section
variable {X:Cx}{a b c:Expr}{ta tb tc:TE}{pos:Pos}
theorem ybt {pins:List (Addr×Obj)}{σ:St}{H:Hp}{s:Shared}{Q:VK}{k k':Bool}(I:Inv X pins σ H s) (q:Q (.bl k) H) (e:k=k'):EP X pins σ Q (.bool k') s:=by
 subst e
 exact ⟨.bl k,H,I,rfl,q⟩
theorem ybu:OpR X (compareOp .Eq) rEq:=by
 intro pins s σ H x y v u Q I rx ry h
 obtain ⟨hs,q⟩:=h
 cases x with
 | non =>
  cases rx
  cases y with
  | non=>cases ry;exact PySem.EqNone.eq_none_none (ybt I q (by simp))
  | bl j=>cases ry;exact PySem.EqNone.eq_none_bool (ybt I q (by simp))
  | int j=>obtain ⟨t',rfl⟩:=ry;exact PySem.EqNone.eq_none_int (ybt I q (by simp))
  | str j=>obtain ⟨t',rfl⟩:=ry;exact PySem.EqNone.eq_none_str (ybt I q (by simp))
  | _=>exact absurd (show false=true from hs) Bool.false_ne_true
 | bl i =>
  cases rx
  cases y with
  | non=>cases ry;exact PySem.EqNone.eq_bool_none (ybt I q (by simp))
  | bl j=>cases ry;exact eq_bool (ybt I q ytU)
  | str j=>obtain ⟨t',rfl⟩:=ry;exact PySem.EqMixed.eq_bool_str (ybt I q (by simp))
  | _=>exact absurd (show false=true from hs) Bool.false_ne_true
 | int i =>
  obtain ⟨t,rfl⟩:=rx
  cases y with
  | non=>cases ry;exact PySem.EqNone.eq_int_none (ybt I q (by simp))
  | int j=>obtain ⟨t',rfl⟩:=ry;exact eq_int (ybt I q ypm)
  | str j=>obtain ⟨t',rfl⟩:=ry;exact PySem.EqMixed.eq_int_str (ybt I q (by simp))
  | _=>exact absurd (show false=true from hs) Bool.false_ne_true
 | str i =>
  obtain ⟨t,rfl⟩:=rx
  cases y with
  | non=>cases ry;exact PySem.EqNone.eq_str_none (ybt I q (by simp))
  | bl j=>cases ry;exact PySem.EqMixed.eq_str_bool (ybt I q (by simp))
  | int j=>obtain ⟨t',rfl⟩:=ry;exact PySem.EqMixed.eq_str_int (ybt I q (by simp))
  | str j=>obtain ⟨t',rfl⟩:=ry;exact eq_str (ybt I q ypn)
  | _=>exact absurd (show false=true from hs) Bool.false_ne_true
 | byt i =>
  obtain ⟨t,rfl⟩:=rx
  cases y with
  | byt j=>obtain ⟨t',rfl⟩:=ry;exact PySem.W.eq_bytes (ybt I q ypo)
  | _=>exact absurd (show false=true from hs) Bool.false_ne_true
 | _=>cases y<;>exact absurd (show false=true from hs) Bool.false_ne_true
theorem yrR:OpR X (compareOp .NotEq) rNe:=by
 intro pins s σ H x y v u Q I rx ry h
 obtain ⟨hs,q⟩:=h
 cases x with
 | non =>
  cases rx
  cases y with
  | non=>cases ry;exact PySem.EqNone.ne_none_none (ybt I q (by simp))
  | bl j=>cases ry;exact PySem.EqNone.ne_none_bool (ybt I q (by simp))
  | int j=>obtain ⟨t',rfl⟩:=ry;exact PySem.EqNone.ne_none_int (ybt I q (by simp))
  | str j=>obtain ⟨t',rfl⟩:=ry;exact PySem.EqNone.ne_none_str (ybt I q (by simp))
  | _=>exact absurd (show false=true from hs) Bool.false_ne_true
 | bl i =>
  cases rx
  cases y with
  | non=>cases ry;exact PySem.EqNone.ne_bool_none (ybt I q (by simp))
  | bl j=>cases ry;exact ne_bool (ybt I q (congrArg not ytU))
  | str j=>obtain ⟨t',rfl⟩:=ry;exact PySem.EqMixed.ne_bool_str (ybt I q (by simp))
  | _=>exact absurd (show false=true from hs) Bool.false_ne_true
 | int i =>
  obtain ⟨t,rfl⟩:=rx
  cases y with
  | non=>cases ry;exact PySem.EqNone.ne_int_none (ybt I q (by simp))
  | int j=>obtain ⟨t',rfl⟩:=ry;exact ne_int (ybt I q (congrArg not ypm))
  | str j=>obtain ⟨t',rfl⟩:=ry;exact PySem.EqMixed.ne_int_str (ybt I q (by simp))
  | _=>exact absurd (show false=true from hs) Bool.false_ne_true
 | str i =>
  obtain ⟨t,rfl⟩:=rx
  cases y with
  | non=>cases ry;exact PySem.EqNone.ne_str_none (ybt I q (by simp))
  | bl j=>cases ry;exact PySem.EqMixed.ne_str_bool (ybt I q (by simp))
  | int j=>obtain ⟨t',rfl⟩:=ry;exact PySem.EqMixed.ne_str_int (ybt I q (by simp))
  | str j=>obtain ⟨t',rfl⟩:=ry;exact ne_str (ybt I q (congrArg not ypn))
  | _=>exact absurd (show false=true from hs) Bool.false_ne_true
 | byt i =>
  obtain ⟨t,rfl⟩:=rx
  cases y with
  | byt j=>obtain ⟨t',rfl⟩:=ry;exact PySem.W.ne_bytes (ybt I q (congrArg not ypo))
  | _=>exact absurd (show false=true from hs) Bool.false_ne_true
 | _=>cases y<;>exact absurd (show false=true from hs) Bool.false_ne_true
theorem ylK:OpR X (compareOp .Lt) (rI0 fun i j=>.bl (decide (i<j))):=yCd fun _ _ _ _ _ _ _ q=>lt_int q
theorem yrS:OpR X (compareOp .LtE) (rI0 fun i j=>.bl (decide (i<=j))):=yCd fun _ _ _ _ _ _ _ q=>le_int q
theorem yjt:OpR X (compareOp .Gt) (rI0 fun i j=>.bl (decide (j<i))):=yCd fun _ _ _ _ _ _ _ q=>gt_int q
theorem ypp:OpR X (compareOp .In) (fun x y H Q=>∃ i j,x=.str i/\y=.str j/\Q (.bl (!(Builtin.Str.occurrences j i 0 j.length 1).isEmpty)) H):=by
 intro pins s σ H x y v u Q I rx ry h
 obtain ⟨i,j,rfl,rfl,q⟩:=h
 obtain ⟨t,rfl⟩:=rx
 obtain ⟨t',rfl⟩:=ry
 exact in_str (ybt I q rfl)
theorem yiJ:OpR X (compareOp .Is) (fun x y H Q=>y=.non/\Q (.bl (decide (x=.non))) H):=by
 intro pins s σ H x y v u Q I rx ry h
 obtain ⟨rfl,q⟩:=h
 cases ry
 refine is_none_gen (ybt I q ?_)
 cases x<;>first
  | (cases rx;rfl)
  | (obtain ⟨t,rfl⟩:=rx;rfl)
theorem ypq:OpR X (compareOp .IsNot) (fun x y H Q=>y=.non/\Q (.bl (!decide (x=.non))) H):=by
 intro pins s σ H x y v u Q I rx ry h
 obtain ⟨rfl,q⟩:=h
 cases ry
 refine isnot_none_gen (ybt I q ?_)
 cases x<;>first
  | (cases rx;rfl)
  | (obtain ⟨t,rfl⟩:=rx;rfl)
theorem ymS (b:Expr) {op:CmpOp}(h:op≠.In:=by decide) (h2:op≠.NotIn:=by decide):behindInMarks op b=false:=by
 have e1:(op == CmpOp.In)=false:=by cases op<;>first|rfl|exact absurd rfl h
 have e2:(op == CmpOp.NotIn)=false:=by cases op<;>first|rfl|exact absurd rfl h2
 cases b<;>simp [behindInMarks,e1,e2]
theorem yvj {op:CmpOp}{r:R2}(ho:OpR X (compareOp op) r) (ha:PE X a ta) (hb:PE X b tb) (hm:behindInMarks op b=false):PE X (.Compare a [op] [b] pos) (tOp r ta tb):=by
 intro pins s σ H Q I h
 exact wpAny_Compare1 (yCb ha hb I h fun v u s2 x y H2 I2 rx ry q=>ho pins s2 σ H2 x y v u Q I2 rx ry q) hm
def yvk (t:TE):TT:=fun σ H Q=>t σ H fun x H'=>∃ k,x=.bl k/\Q k H'
theorem yvl {op:CmpOp}{r:R2}(ho:OpR X (compareOp op) r) (ha:PE X a ta) (hb:PE X b tb) (hm:behindInMarks op b=false):PT X (.Compare a [op] [b] pos) (yvk (tOp r ta tb)):=by
 intro pins s σ H Q I h
 refine wpAny_isTrue_Compare1 (thn (ha pins s σ H _ I h) fun v s1 ⟨x,H1,I1,r1,q1⟩=>thn (hb pins s1 σ H1 _ I1 q1) fun u s2 ⟨y,H2,I2,r2,q2⟩ =>
  thn (ho pins s2 σ H2 x y v u _ I2 r1 r2 q2) fun c s3 ⟨z,H3,I3,r3,k,e,q3⟩=>?_) hm
 subst e
 cases r3
 exact wpAny_truthy_bool ⟨H3,I3,q3⟩
noncomputable def ypr (r r':R2) (ta tb tc:TE):TE:=fun σ H Q=>ta σ H fun x H1=>tb σ H1 fun y H2=>r x y H2 fun z H3=>∃ k,z=.bl k /\
 (if k=true then tc σ H3 fun w' H4=>r' y w' H4 Q else Q (.bl false) H3)
theorem yrT {op op':CmpOp}{r r':R2}(ho:OpR X (compareOp op) r) (ho':OpR X (compareOp op') r') (ha:PE X a ta) (hb:PE X b tb) (hc:PE X c tc)
  (hm:lastMarks [op,op'] [b,c]=false:=by with_unfolding_all rfl):PE X (.Compare a [op,op'] [b,c] pos) (ypr r r' ta tb tc):=by
 intro pins s σ H Q I h
 refine Compare_chain (thn (ha pins s σ H _ I h) fun v s1 ⟨x,H1,I1,r1,q1⟩=>chain_link (thn (hb pins s1 σ H1 _ I1 q1) fun u s2 ⟨y,H2,I2,r2,q2⟩ =>
  thn (ho pins s2 σ H2 x y v u _ I2 r1 r2 q2) fun d s3 ⟨z,H3,I3,r3,k,e,q3⟩=>?_)) hm
 subst e
 cases r3
 refine wpAny_truthy_bool ?_
 cases k with
 | false=>exact ite_ff ⟨.bl false,H3,I3,rfl,q3⟩
 | true=>exact ite_tt (chain_last (thn (hc pins s3 σ H3 _ I3 q3) fun w' s4 ⟨z',H4,I4,r4,q4⟩=>ho' pins s4 σ H4 y z' u w' Q I4 r2 r4 q4))
theorem yrU {op op':CmpOp}{r r':R2}(ho:OpR X (compareOp op) r) (ho':OpR X (compareOp op') r') (ha:PE X a ta) (hb:PE X b tb) (hc:PE X c tc)
  (hm:lastMarks [op,op'] [b,c]=false:=by with_unfolding_all rfl):PT X (.Compare a [op,op'] [b,c] pos) (yvk (ypr r r' ta tb tc)):=by
 intro pins s σ H Q I h
 refine isTrue_chain (thn (ha pins s σ H _ I h) fun v s1 ⟨x,H1,I1,r1,q1⟩=>test_link (thn (hb pins s1 σ H1 _ I1 q1) fun u s2 ⟨y,H2,I2,r2,q2⟩ =>
  thn (ho pins s2 σ H2 x y v u _ I2 r1 r2 q2) fun d s3 ⟨z,H3,I3,r3,k,e,q3⟩=>?_)) hm
 subst e
 cases r3
 refine wpAny_truthy_bool ?_
 cases k with
 | false =>
  obtain ⟨k',e',q'⟩:=q3
  cases e'
  exact ite_ff ⟨H3,I3,q'⟩
 | true =>
  refine ite_tt (test_last (thn (hc pins s3 σ H3 _ I3 q3) fun w' s4 ⟨z',H4,I4,r4,q4⟩=>thn (ho' pins s4 σ H4 y z' u w' _ I4 r2 r4 q4) fun d' s5 ⟨z2,H5,I5,r5,k2,e2,q5⟩=>?_))
  subst e2
  cases r5
  exact wpAny_truthy_bool ⟨H5,I5,q5⟩
theorem yiK:(sizeLine:Nat)<2 ^ 63:=by rw [sizeLine_eq];decide
theorem yM:OpR X (binaryOp .Add) (fun x y H Q=>∃ i j,x=.str i/\y=.str j/\i.length+j.length<=sizeLine/\Q (.str (i++j)) H):=by
 intro pins s σ H x y v u Q I rx ry h
 obtain ⟨i,j,rfl,rfl,hz,q⟩:=h
 obtain ⟨t,rfl⟩:=rx
 obtain ⟨t',rfl⟩:=ry
 exact add_str (fun t' tk=>⟨.str (i++j),H,I.tok _,⟨_,rfl⟩,q⟩) hz
theorem vals1 {x:V}{us:List Value}(r:Vals [x] us):∃ u,us=[u]/\RelV x u:=by
 cases r with
 | cons r1 r2=>cases r2;exact ⟨_,rfl,r1⟩
theorem vals2 {x y:V}{us:List Value}(r:Vals [x,y] us):∃ u w',us=[u,w']/\RelV x u/\RelV y w':=by
 cases r with
 | cons r1 r2 =>
  cases r2 with
  | cons r3 r4=>cases r4;exact ⟨_,_,rfl,r1,r3⟩
theorem ygb (hc:X.calm=true):CallR X (.builtin "max") (fun xs H Q=>∃ i j,xs=[.int i,.int j]/\Q (.int (if j>i then j else i)) H):=by
 intro pins s σ H xs us Q I r h
 obtain ⟨i,j,rfl,q⟩:=h
 obtain ⟨u,w',rfl,⟨t,rfl⟩,⟨t',rfl⟩⟩:=vals2 r
 refine max_two_ints (I.ok.hd hc) fun h' tk k=>⟨_,H,I.kept k,?_,q⟩
 by_cases hj:j>i
 .rw [if_pos hj,if_pos hj];exact ⟨_,rfl⟩
 .rw [if_neg hj,if_neg hj];exact ⟨_,rfl⟩
theorem yhF:CallR X (.type "int") (fun xs H Q=>(∃ i,xs=[.int i]/\Q (.int i) H)\/∃ k,xs=[.bl k]/\Q (.int (if k then 1 else 0)) H):=by
 intro pins s σ H xs us Q I r h
 rcases h with ⟨i,rfl,q⟩|⟨k,rfl,q⟩
 .obtain ⟨u,rfl,t,rfl⟩:=vals1 r
  exact call_int_int ⟨.int i,H,I,⟨_,rfl⟩,q⟩
 .obtain ⟨u,rfl,r1⟩:=vals1 r
  cases r1
  exact call_int_bool ⟨.int (if k then 1 else 0),H,I.tok _,⟨_,rfl⟩,q⟩
theorem call_str_int:CallR X (.type "str") (fun xs H Q=>∃ i,xs=[.int i]/\i.natAbs.log2<1920/\Q (.str (toString i)) H):=by
 intro pins s σ H xs us Q I r h
 obtain ⟨i,rfl,hz,q⟩:=h
 obtain ⟨u,rfl,t,rfl⟩:=vals1 r
 exact PySem.P.str_of_int hz ⟨.str _,H,I.tok _,⟨_,rfl⟩,q⟩
end
end L2
namespace L2
open PySem PySem.Spec PyProof.Rows
structure ObjM (h:Heap) (x dx C:Addr) (mA:Str->Option Value):Prop where
 obj:h.get? x=some (instObj C dx)
 ns:h.Ns1 dx mA
 ne:dx≠x
theorem yps {h:Heap}{dx:Addr}{mA:Str->Option Value}(n:h.Ns1 dx mA):∃ od,h.get? dx=some od/\∀ name,PySem.W.lookIn name od=some (mA name):=by
 obtain ⟨o,es,ep,ho,hd,hk,_,hm⟩:=n
 refine ⟨o,ho,fun name=>?_⟩
 have e:=hm name
 unfold nsFind findBy at e
 rw [<- Array.find?_toList] at e
 unfold PySem.W.lookIn
 rw [hd]
 dsimp only
 split
 .rename_i y q
  rw [q] at e
  exact congrArg some e
 .rename_i q
  rw [q] at e
  have a:es.toList.any (·.refKey)=false:=by
   rw [List.any_eq_false]
   intro y hy
   obtain ⟨z,t,hkey⟩:=hk y (Array.mem_toList_iff.mp hy)
   simp [DictEntry.refKey,hkey]
  have a':¬ es.toList.any (·.refKey)=true:=by rw [a];exact Bool.false_ne_true
  rw [if_neg a']
  exact congrArg some e
theorem ObjM.look {h:Heap}{x dx C:Addr}{mA:Str->Option Value}(I:ObjM h x dx C mA):∃ od,PySem.W.InstAt h x (instObj C dx) C (some od)/\∀ name,PySem.W.lookIn name od=some (mA name) :=
 let ⟨od,ho,hl⟩:=yps I.ns
 ⟨od,⟨I.obj,rfl,rfl,ho⟩,hl⟩
section
variable {prog:Program}{w:World}{A:Around}{E:Value->Shared->Prop}{s:Shared}{K:PySem.W.Frag}{x dx C f:Addr}{mA:Str->Option Value}{name:Str}{v:Value}
theorem yvm {expr:Bool}{Q:Value->Shared->Prop}(X:K.In s.heap) (I:ObjM s.heap x dx C mA) (hg:plainGet K C name=true) (hh:hasDictIn K C=true)
  (ha:findIn K (.ref C) name=some none) (hv:mA name=some v) (hv':PySem.W.handedIn v=true) (h:Q v { s with toks:=s.toks+1 }) :
  wpAny (model prog w) A (getAttr (.ref x) name expr) Q E s:=by
 obtain ⟨od,J,hl⟩:=I.look
 exact PySem.W.get_value X J (PySem.W.plainGet_of hg).1 (PySem.W.findObj_own hh ha rfl (by rw [hl,hv])) hv' h
theorem yrV {pl:Sem Bool}{Q:Value×List Value->Shared->Prop}(X:K.In s.heap) (I:ObjM s.heap x dx C mA) (hg:plainGet K C name=true)
  (hf:findIn K (.ref C) name=some (some (.ref f))) (ht:isFn K (.ref f)=true) (hv:mA name=none) (h:Q (.ref f,[.ref x]) s) :
  wpAny (model prog w) A (getMethod (.ref x) name pl) Q E s:=by
 obtain ⟨od,J,hl⟩:=I.look
 exact PySem.W.method_fn X J (PySem.W.plainGet_of hg).1 (PySem.W.plainGet_of hg).2 hf (beq_iff_eq.mp ht) (by show (PySem.W.lookIn name od).map (·.isSome)=some false;rw [hl,hv];rfl) h
theorem yvn {ns:List Str}{Q:Unit->Shared->Prop}(X:K.In s.heap) (I:ObjM s.heap x dx C mA)
  (hs:findIn K (.ref C) "__setattr__" = some (some (.builtin "object.__setattr__"))) (hp:PySem.W.plainOver K C=true) (ht:PySem.W.takerIn K C name=some none) (hh:hasDictIn K C=true)
  (hw:PySem.Within mA ns) (hsz:ns.length<=sizeLine)
  (h:∀ h',ObjM h' x dx C (fun y=>if y=name then some v else mA y)->Heap.SameBut dx s.heap h'->Q () { s with heap:=h',toks:=s.toks+2 }) :
  wpAny (model prog w) A (setAttr (.ref x) name v) Q E s:=by
 obtain ⟨od,J,hl⟩:=I.look
 refine PySem.W.set_plain X J hs (PySem.W.osa_open (s:={ s with toks:=s.toks+1 }) (r:=none) X J hp ht fun b=>?_)
 obtain ⟨cd,hc,hd'⟩:=PySem.W.any_some hh
 have hx:s.heap.get? x=some ⟨.ref C,some dx,.plain,#[]⟩:=I.obj
 refine wpAny_bind (wpAny_pure (wpAny_bind (wpAny_bind (wpAny_loadPart hx (wpAny_bind (PySem.W.Looks.here (s:={ s with toks:=s.toks+1 }) (PySem.W.looks_clsIn X hc) ?_))))))
 rw [hd']
 refine wpAny_pure (a:=some dx) (wpAny_bind (wpAny_pure (wpAny_bind ?_)))
 refine wpAny_nsSet1 (s:={ s with toks:=s.toks+1 }) I.ns fun h' hn2 hs2=>?_
 obtain ⟨oD,esD,epD,hoD,hdD,hcD⟩:=hn2.count (PySem.Within.cons name v hw)
 refine wpAny_bind (wpAny_lookBehind hoD (by rw [hdD];exact pastItsLine_dict (Nat.le_trans hcD (by rw [length_cons];omega))) ?_)
 exact wpAny_pure (h _ ⟨(hs2.2 _ (Ne.symm I.ne)).trans I.obj,hn2,I.ne⟩ hs2)
theorem yrW {R:Result->Shared->Prop}{vs:List Value}{kw:List (Str×Value)}(X:K.In s.heap) (hm:makesIn K C=true)
  (hi:findIn K (.ref C) "__init__" = some (some (.ref f))) (hf:typeIn K (.ref f)=some (.type "function"))
  (h:codeAny (model prog w) (A.under (.builtin "type.__call__" ⟨.ref C::vs,kw⟩)) (.call (.ref f) ⟨.ref (s.heap.objs.size+1)::vs,kw⟩) (PySem.W.InitBack (s.heap.objs.size+1) R)
   { s with heap:=(s.heap.push emptyDict).push (instObj C s.heap.objs.size) }) :
  codeAny (model prog w) A (.call (.ref C) ⟨vs,kw⟩) R s:=by
 obtain ⟨hh,g,d,t,os⟩:=s
 exact PySem.W.make_core (PySem.W.makes_of X hm) (PySem.W.looks_findIn X hi) (fun self=>PySem.W.bind_fn X self hf) (.inl rfl) h
end
def yiL (f:Str) (v:V):List (Str×V)->List (Str×V)
 | []=>[(f,v)]
 | (g,x)::r=>if g=f then (g,v)::r else (g,x)::yiL f v r
theorem yhG (f g:Str) (v:V):∀ fs:List (Str×V),(yiL f v fs).lookup g=if g=f then some v else fs.lookup g
 | []=>by
  show List.lookup g [(f,v)]=_
  by_cases h:g=f
  .have hb:(g == f)=true:=beq_iff_eq.mpr h
   simp only [List.lookup,hb,if_pos h]
  .have hb:(g == f)=false:=beq_eq_false_iff_ne.mpr h
   simp only [List.lookup,hb,if_neg h]
 | (k,x)::r=>by
  have ih:=yhG f g v r
  rw [show yiL f v ((k,x)::r)=(if k=f then (k,v)::r else (k,x)::yiL f v r) from rfl]
  by_cases hk:k=f
  .rw [if_pos hk]
   by_cases h:g=k
   .have hb:(g == k)=true:=beq_iff_eq.mpr h
    simp only [List.lookup,hb,if_pos (h.trans hk)]
   .have hb:(g == k)=false:=beq_eq_false_iff_ne.mpr h
    simp only [List.lookup,hb,if_neg (fun e:g=f=>h (e.trans hk.symm))]
  .rw [if_neg hk]
   by_cases h:g=k
   .have hb:(g == k)=true:=beq_iff_eq.mpr h
    simp only [List.lookup,hb,if_neg (fun e:g=f=>hk (h.symm.trans e))]
   .have hb:(g == k)=false:=beq_eq_false_iff_ne.mpr h
    simp only [List.lookup,hb]
    exact ih
theorem yhH (f:Str) (v:V):∀ fs:List (Str×V),f∈(yiL f v fs).map (·.1)/\∀ g,g∈fs.map (·.1)->g∈(yiL f v fs).map (·.1)
 | []=>⟨by simp [yiL],fun g h=>by simp at h⟩
 | (k,x)::r=>by
  obtain ⟨i1,i2⟩:=yhH f v r
  rw [show yiL f v ((k,x)::r)=(if k=f then (k,v)::r else (k,x)::yiL f v r) from rfl]
  by_cases hk:k=f
  .rw [if_pos hk]
   subst hk
   exact ⟨by simp,fun g h=>by simpa using h⟩
  .rw [if_neg hk]
   refine ⟨?_,fun g h=>?_⟩
   .rw [map_cons]
    exact mem_cons_of_mem _ i1
   .rw [map_cons] at h ⊢
    rcases mem_cons.mp h with e|e
    .exact mem_cons.mpr (.inl e)
    .exact mem_cons_of_mem _ (i2 g e)
theorem yhI (f:Str) (v:V):∀ fs:List (Str×V),(yiL f v fs).length<=fs.length+1
 | []=>by simp [yiL]
 | (k,x)::r=>by
  have ih:=yhI f v r
  rw [show yiL f v ((k,x)::r)=(if k=f then (k,v)::r else (k,x)::yiL f v r) from rfl]
  by_cases hk:k=f
  .rw [if_pos hk,length_cons,length_cons];omega
  .rw [if_neg hk,length_cons,length_cons];omega
theorem RelO.some_of {v:V}{o:Option Value}(r:RelO (some v) o):∃ u,o=some u/\RelV v u:=by
 cases o with
 | none=>exact (show False from r).elim
 | some u=>exact ⟨u,rfl,r⟩
theorem RelO.none_of {o:Option Value}(r:RelO none o):o=none:=by
 cases o with
 | none=>rfl
 | some u=>exact (show False from r).elim
theorem ypt {v:V}{u:Value}(r:RelV v u):PySem.W.handedIn u=true:=by
 cases v with
 | non=>cases (show u=Value.none from r);rfl
 | bl b=>cases (show u=Value.bool b from r);rfl
 | int i=>obtain ⟨t,e⟩:=(show ∃ t,u=Value.int i t from r);cases e;rfl
 | str x=>obtain ⟨t,e⟩:=(show ∃ t,u=Value.str x t from r);cases e;rfl
 | byt b=>obtain ⟨t,e⟩:=(show ∃ t,u=Value.bytes b t from r);cases e;rfl
 | flt b=>obtain ⟨t,e⟩:=(show ∃ t,u=Value.float b t from r);cases e;rfl
 | ref a=>cases (show u=Value.ref a from r);rfl
 | ty n=>cases (show u=Value.type n from r);rfl
section
variable {P:Program}{w:World}{H H':Hp}{h h':Heap}{a C dx:Addr}{fs fs':List (Str×V)}
theorem yju (hok:HOk P w H h) (e:H a=some (.ins C dx fs)):∃ mA,ObjM h a dx C mA/\(∀ f,RelO (fs.lookup f) (mA f))/\PySem.Within mA (fs.map (·.1))/\fs.length<=1000/\H dx=some (.own a):=by
 obtain ⟨d,z,ne,ob,mA,n,r,q⟩:=(show ObjOk P w H h a (.ins C dx fs) from hok a _ e)
 exact ⟨mA,⟨ob,n,ne⟩,r,q,z,d⟩
end
structure Cls (K:PySem.W.Frag) (C:Addr):Prop where
 pg:plainGet K C Str.empty=true
 hd:hasDictIn K C=true
 po:PySem.W.plainOver K C=true
 sa:findIn K (.ref C) "__setattr__" = some (some (.builtin "object.__setattr__"))
theorem Cls.get {K:PySem.W.Frag}{C:Addr}(c:Cls K C) (f:Str):plainGet K C f=true:=c.pg
def NoAttr (K:PySem.W.Frag) (C:Addr) (f:Str):Prop:=findIn K (.ref C) f=some none
theorem NoAttr.taker {K:PySem.W.Frag}{C:Addr}{f:Str}(n:NoAttr K C f):PySem.W.takerIn K C f=some none:=by
 unfold PySem.W.takerIn
 rw [show findIn K (.ref C) f=some none from n]
 rfl
structure Meth (K:PySem.W.Frag) (C:Addr) (m:Str) (f:Addr):Prop where
 at_:findIn K (.ref C) m=some (some (.ref f))
 fn:isFn K (.ref f)=true
 kp:keepIn K (.ref f)=true
section
variable {X:Cx}{pins:List (Addr×Obj)}{σ:St}{H:Hp}{s:Shared}{a C dx:Addr}{fs:List (Str×V)}{f:Str}{v:V}{A:Around}{E:Value->Shared->Prop}
theorem ynS {b:Bool}{Q:Value->Shared->Prop}(I:Inv X pins σ H s) (e:H a=some (.ins C dx fs)) (c:Cls X.K C) (n:NoAttr X.K C f) (l:fs.lookup f=some v)
  (h:∀ u s',Inv X pins σ H s'->RelV v u->Q u s'):wpAny (model X.prog X.w) A (getAttr (.ref a) f b) Q E s:=by
 obtain ⟨mA,O,r,_,_,_⟩:=yju I.hok e
 obtain ⟨u,hu,ru⟩:=RelO.some_of (v:=v) (o:=mA f) (by rw [<- l];exact r f)
 exact yvm I.kIn O (c.get f) c.hd n hu (ypt ru) (h u _ (I.tok _) ru)
theorem ygB {m:Str}{g:Addr}{pl:Sem Bool}{Q:Value×List Value->Shared->Prop}(I:Inv X pins σ H s) (e:H a=some (.ins C dx fs)) (c:Cls X.K C) (k:Meth X.K C m g) (l:fs.lookup m=none)
  (h:Q (.ref g,[.ref a]) s):wpAny (model X.prog X.w) A (getMethod (.ref a) m pl) Q E s:=by
 obtain ⟨mA,O,r,_,_,_⟩:=yju I.hok e
 have hn:mA m=none:=RelO.none_of (by rw [<- l];exact r m)
 exact yrV I.kIn O (c.get m) k.at_ k.fn hn h
theorem ynT {y:V}{u:Value}{Q:Unit->Shared->Prop}(I:Inv X pins σ H s) (e:H a=some (.ins C dx fs)) (c:Cls X.K C) (n:NoAttr X.K C f) (hl:fs.length<1000) (ry:RelV y u)
  (h:∀ s',Inv X pins σ (upd H a (.ins C dx (yiL f y fs))) s'->Q () s'):wpAny (model X.prog X.w) A (setAttr (.ref a) f u) Q E s:=by
 obtain ⟨mA,O,r,wi,_,ho⟩:=yju I.hok e
 have hz:(fs.map (·.1)).length<=sizeLine:=by rw [length_map,sizeLine_eq];omega
 refine yvn I.kIn O c.sa c.po n.taker c.hd wi hz fun h' O' sb=>h _ ?_
 have hd:∃ o,h'.get? dx=some o:=let ⟨o,_,_,e',_⟩:=O'.ns;⟨o,e'⟩
 refine I.write (x:=a) (e:=dx) (by rw [e];exact True.intro) (.inr ho) (fun b q hb z=>(sb.2 b hb).trans z) hd ?_
 refine ⟨by rw [yR O.ne];exact ho,?_,O.ne,O'.obj,_,O'.ns,fun g=>?_,fun g hg=>?_⟩
 .have:=yhI f y fs;omega
 .show RelO ((yiL f y fs).lookup g) (if g=f then some u else mA g)
  rw [yhG]
  by_cases q:g=f
  .rw [if_pos q,if_pos q];exact ry
  .rw [if_neg q,if_neg q];exact r g
 .by_cases q:g=f
  .rw [q];exact (yhH f y fs).1
  .refine (yhH f y fs).2 g (wi g fun z=>hg ?_)
   show (if g=f then some u else mA g)=none
   rw [if_neg q];exact z
theorem Inv.made (I:Inv X pins σ H s):Inv X pins σ (upd (upd H s.heap.objs.size (.own (s.heap.objs.size+1))) (s.heap.objs.size+1) (.ins C s.heap.objs.size []))
  { s with heap:=(s.heap.push emptyDict).push (instObj C s.heap.objs.size) }:=by
 have e1:(s.heap.push emptyDict).get? s.heap.objs.size=some emptyDict:=Heap.get?_push_size s.heap rfl
 have e2:((s.heap.push emptyDict).push (instObj C s.heap.objs.size)).get? (s.heap.objs.size+1)=some (instObj C s.heap.objs.size):=by
  have:=Heap.get?_push_size (s.heap.push emptyDict) (o:=instObj C s.heap.objs.size) rfl
  rwa [Heap.size_push] at this
 have e3:(s.heap.push emptyDict).Ns s.heap.objs.size (fun _=>none):=⟨emptyDict,#[],_,e1,rfl,(fun e he=>absurd he (by simp)),fun _=>rfl⟩
 have I1:=I.laid (a:=s.heap.objs.size) (o:=.own (s.heap.objs.size+1)) (h':=s.heap.push emptyDict) (t':=s.toks) (fun b u q=>Heap.get?_push_of_some _ q) (Nat.le_refl _) ⟨_,e1⟩
 refine I1.laid (a:=s.heap.objs.size+1) (o:=.ins C s.heap.objs.size []) (t':=s.toks) (fun b u q=>Heap.get?_push_of_some _ q) (le_of_eq (Heap.size_push _ _)) ?_
 have ne:s.heap.objs.size≠s.heap.objs.size+1:=ne_of_lt (Nat.lt_succ_self _)
 refine ⟨by rw [yR ne,yba],zero_le _,ne,e2,fun _=>none,(Heap.Ns1.of_empty e3).at fun o q=>Heap.get?_push_of_some _ q,fun _=>True.intro,fun y hy=>absurd rfl hy⟩
theorem yvo {prog:Program}{w:World}{env:Env}{e:Expr}{f:Str}{pos:Pos}{s:Shared}{Q:Value->Shared->Prop}(hb:attributeBase e f env (eval e env)=eval e env)
  (h:wpAny (model prog w) A (eval e env) (fun o s₁=>wpAny (model prog w) A (getAttr o f true) Q E s₁) E s):wpAny (model prog w) A (eval (.Attribute e f pos) env) Q E s :=
 Attribute_any_ h (by rw [arm_eval_Attribute,hb])
end
noncomputable def yFa (K:PySem.W.Frag) (ta:TE) (f:Str):TE:=fun σ H Q=>ta σ H fun x H1=>∃ a C dx fs v,x=.ref a/\H1 a=some (.ins C dx fs)/\Cls K C/\NoAttr K C f/\fs.lookup f=some v/\Q v H1
noncomputable def yCf (K:PySem.W.Frag) (ta tv:TE) (f:Str):TS:=fun D σ H=>tv σ H fun y H1=>ta σ H1 fun x H2=>∃ a C dx fs,x=.ref a/\H2 a=some (.ins C dx fs)/\Cls K C/\NoAttr K C f/\fs.length<1000 /\
 D.nx σ (upd H2 a (.ins C dx (yiL f y fs)))
section
variable {X:Cx}{o e value:Expr}{f:Str}{pos pos' tpos:Pos}{ta tv:TE}
theorem yyy (he:PE X e ta) (hb:attributeBase e f X.env (eval e X.env)=eval e X.env):PE X (.Attribute e f pos) (yFa X.K ta f):=by
 intro pins s σ H Q I h
 refine yvo hb (thn (he pins s σ H _ I h) fun u s1 ⟨x,H1,I1,rx,a,C,dx,fs,v,ex,ea,c,n,l,q⟩=>?_)
 subst ex
 obtain rfl:u=Value.ref a:=rx
 exact ynS I1 ea c n l fun u' s2 I2 ru=>⟨v,H1,I2,ru,q⟩
theorem ytV (ha:PE X o ta) (hv:PE X value tv) (hs:swapsWith value (some (.Attribute o f pos')) pos.line X.env=pure false):PS X (.Assign [.Attribute o f pos'] value pos) (yCf X.K ta tv f):=by
 intro pins s σ H D I h
 refine plainObj_wpAny_Assign_Attribute (thn (hv pins s σ H _ I h) fun u s1 ⟨y,H1,I1,ry,q⟩=>thn (ha pins s1 σ H1 _ I1 q) fun ov s2 ⟨x,H2,I2,rx,a,C,dx,fs,ex,ea,c,n,l,q2⟩=>?_) hs
 subst ex
 obtain rfl:ov=Value.ref a:=rx
 exact ynT I2 ea c n l ry fun s3 I3=>⟨σ,_,I3,q2⟩
end
section
variable {X:Cx}{pins:List (Addr×Obj)}{σ:St}{H:Hp}{s:Shared}{A:Around}{E:Value->Shared->Prop}{Q:Value->Shared->Prop}{c:Value}{b:Bool}
inductive ymT (K:PySem.W.Frag) (H:Hp):V->Value->Prop where
 | non:ymT K H .non (.type "NoneType")
 | bl (x:Bool):ymT K H (.bl x) (.type "bool")
 | int (i:Int):ymT K H (.int i) (.type "int")
 | str (x:Str):ymT K H (.str x) (.type "str")
 | flt (x:UInt64):ymT K H (.flt x) (.type "float")
 | lst {a:Addr}{xs:List V}(e:H a=some (.lst xs)):ymT K H (.ref a) (.type "list")
 | frz {a:Addr}{o:Obj}{xs:List V}(e:H a=some (.frz o (.lst xs))):ymT K H (.ref a) (.type "list")
 | tup {a:Addr}{xs:List V}(e:H a=some (.tup xs)):ymT K H (.ref a) (.type "tuple")
 | kt {a:Addr}{o:Obj}(e:K.lookup a=some o) (c:o.cls=.type "tuple"):ymT K H (.ref a) (.type "tuple")
 | dK {a:Addr}{kvs:List (Key×V)}(e:H a=some (.dK kvs)):ymT K H (.ref a) (.type "dict")
 | dT {a:Addr}{kvs:List (List Key×V)}(e:H a=some (.dT kvs)):ymT K H (.ref a) (.type "dict")
 | ins {a C dx:Addr}{fs:List (Str×V)}(e:H a=some (.ins C dx fs)) (cl:Cls K C) (ha:findIn K (.ref C) "__class__" = some (some (.builtin "object.__class__")))
   (hn:PySem.W.specialIn K (.builtin "object.__class__") "__get__" = some (some (.builtin "getset_descriptor.__get__"))) (htk:PySem.W.takesIn K (.builtin "object.__class__")=some true)
   (hm:mroIn K C (.type "object")=some true):ymT K H (.ref a) (.ref C)
theorem ypu {x:V}{u t:Value}(I:Inv X pins σ H s) (rx:RelV x u) (ty:ymT X.K H x t) (e:PySem.W.kitOne X.K t c=some b) (h:∀ tk,Q (.bool b) { s with toks:=tk }) :
  wpAny (model X.prog X.w) A (call (.builtin "isinstance") [u,c]) Q E s:=by
 cases ty with
 | non=>cases (show u=Value.none from rx);exact kia_one PySem.W.kitx_none I.kIn True.intro e (fun z=>nomatch z) h
 | bl y=>cases (show u=Value.bool y from rx);exact kia_one PySem.W.kitx_bool I.kIn True.intro e (fun z=>nomatch z) h
 | int i=>obtain ⟨t,q⟩:=(show ∃ t,u=Value.int i t from rx);cases q;exact kia_one PySem.W.kitx_int I.kIn True.intro e (fun z=>nomatch z) h
 | str y=>obtain ⟨t,q⟩:=(show ∃ t,u=Value.str y t from rx);cases q;exact kia_one PySem.W.kitx_str I.kIn True.intro e (fun z=>nomatch z) h
 | flt y=>obtain ⟨t,q⟩:=(show ∃ t,u=Value.float y t from rx);cases q;exact kia_one PySem.W.kitx_float I.kIn True.intro e (fun z=>nomatch z) h
 | @lst a xs ea =>
  cases (show u=Value.ref a from rx)
  obtain ⟨_,_,n,_,h1⟩:=(show ObjOk X.prog X.w H s.heap a (.lst xs) from I.hok a _ ea)
  exact kia_one PySem.W.kitx_list I.kIn ⟨_,h1,rfl⟩ e (fun z=>nomatch z) h
 | @frz a ob xs ea =>
  cases (show u=Value.ref a from rx)
  obtain ⟨_,_,_,n,_,h1⟩:=(show ObjOk X.prog X.w H s.heap a (.frz ob (.lst xs)) from I.hok a _ ea)
  exact kia_one PySem.W.kitx_list I.kIn ⟨_,h1,rfl⟩ e (fun z=>nomatch z) h
 | @tup a xs ea =>
  cases (show u=Value.ref a from rx)
  obtain ⟨_,_,_,p⟩:=(show ObjOk X.prog X.w H s.heap a (.tup xs) from I.hok a _ ea)
  obtain ⟨o,h1,h2,_⟩:=p
  exact kia_one PySem.W.kitx_tuple I.kIn ⟨o,h1,h2⟩ e (fun z=>nomatch z) h
 | @kt a ob ek ck =>
  cases (show u=Value.ref a from rx)
  exact kia_one PySem.W.kitx_tuple I.kIn ⟨ob,I.kIn a ob ek,ck⟩ e (fun z=>nomatch z) h
 | @dK a kvs ea =>
  cases (show u=Value.ref a from rx)
  obtain ⟨_,_,vs,_,p⟩:=(show ObjOk X.prog X.w H s.heap a (.dK kvs) from I.hok a _ ea)
  obtain ⟨o,es,ep,h1,h2,_⟩:=p
  exact kia_one PySem.W.kitx_dict I.kIn ⟨o,h1,h2.1⟩ e (fun z=>nomatch z) h
 | @dT a kvs ea =>
  cases (show u=Value.ref a from rx)
  obtain ⟨_,_,xs,_,o,es,ep,h1,h2,_⟩:=(show ObjOk X.prog X.w H s.heap a (.dT kvs) from I.hok a _ ea)
  exact kia_one PySem.W.kitx_dict I.kIn ⟨o,h1,h2.1⟩ e (fun z=>nomatch z) h
 | @ins a C dx fs ea cl ha hn htk hm =>
  cases (show u=Value.ref a from rx)
  obtain ⟨mA,O,_⟩:=yju I.hok ea
  obtain ⟨od,J,_⟩:=O.look
  exact kia_one (PySem.W.kitx_own (cl.get _) cl.hd ha hn htk hm) I.kIn J e (fun z=>nomatch z) h
end
end L2
namespace L2
open PySem PySem.Spec PyProof.Rows
structure Room (k:Nat) (A:Around):Prop where
 hd:A.handled=none
 dp:A.depth+3*k+5<recursionLimit
 un:A.units+16*k+200<cLine
theorem Room.mono {j k:Nat}{A:Around}(r:Room k A) (h:j<=k):Room j A:=⟨r.hd,by have:=r.dp;omega,by have:=r.un;omega⟩
theorem Room.deeper {k:Nat}{A:Around}(r:Room (k+1) A) (env:Env):Room k (A.deeper env) :=
 ⟨r.hd,by have:=r.dp;show A.depth+1+3*k+5<_;omega,by have:=r.un;show A.units+3+16*k+200<_;omega⟩
theorem ynU {A:Around}{C:Addr}{us:List Value}{kw:List (Str×Value)}:(A.under (.builtin "type.__call__" ⟨.ref C::us,kw⟩)).depth=A.depth+1:=by
 first|rfl|simp [Around.under,Code.weight,Code.isCreation,Code.isGuard,Code.isCaller,Code.frames,Code.isFrame,guardIds]
theorem ynV {A:Around}{C:Addr}{us:List Value}{kw:List (Str×Value)}:(A.under (.builtin "type.__call__" ⟨.ref C::us,kw⟩)).units=A.units+1:=by
 first|rfl|simp [Around.under,Code.cUnits,Code.frames,Code.isFrame]
theorem Room.make {k:Nat}{A:Around}(r:Room (k+1) A) (C:Addr) (us:List Value) (kw:List (Str×Value)):Room k (A.under (.builtin "type.__call__" ⟨.ref C::us,kw⟩)) :=
 ⟨r.hd,by have:=r.dp;rw [ynU];omega,by have:=r.un;rw [ynV];omega⟩
theorem Room.depth {k:Nat}{A:Around}(r:Room k A):A.depth<recursionLimit:=by have:=r.dp;omega
def yBK:TA:=fun _ H Q=>Q [] H
def yvp (ta:TE) (tr:TA):TA:=fun σ H Q=>ta σ H fun x H1=>tr σ H1 fun xs H2=>Q (x::xs) H2
section
variable {X:Cx}{e:Expr}{es:List Expr}{te:TE}{t:TA}{pos:Pos}
theorem ypv:PA X [] yBK:=fun _ _ _ _ H Q I h=>Calls.spliced_nil ⟨[],H,I,.nil,h⟩
theorem yhJ (ha:PE X e te) (hr:PA X es t) (hs:starEach (e::es) X.env=(false,eval e X.env)::starEach es X.env:=by rfl):PA X (e::es) (yvp te t):=by
 intro pos pins s σ H Q I h
 rw [hs]
 show wpAny _ _ (spliced ((false,eval e X.env)::backTo pos (starEach es X.env))) _ _ s
 refine Calls.spliced_cons (thn (ha pins s σ H _ I h) fun u s1 ⟨x,H1,I1,r1,q1⟩=>?_)
 exact thn (hr pos pins s1 σ H1 _ I1 q1) fun us s2 ⟨xs,H2,I2,r2,q2⟩=>⟨x::xs,H2,I2,.cons r1 r2,q2⟩
def yFb (t:TA):TE:=fun σ H Q=>t σ H fun xs H1=>xs.length<=sizeLine/\∀ p,H1 p=none->Q (.ref p) (upd H1 p (.tup xs))
def yFc (t:TA):TE:=fun σ H Q=>t σ H fun xs H1=>xs.length<=sizeLine/\∀ p,H1 p=none->Q (.ref p) (upd H1 p (.lst xs))
theorem yyz {x1} (h:PA X es t):PE X (.Tuple es x1 pos) (yFb t):=by
 intro pins s σ H Q I hq
 refine wpAny_Tuple_spliced (thn (h pos pins s σ H _ I hq) fun us s1 ⟨xs,H1,I1,r,z,q⟩=>⟨by rw [<- r.length];exact z,?_⟩)
 have hf:H1 s1.heap.objs.size=none:=I1.hok.fresh (Nat.le_refl _)
 refine ⟨.ref s1.heap.objs.size,upd H1 s1.heap.objs.size (.tup xs),I1.laid (t':=s1.toks) (fun b u e=>Heap.get?_push_of_some _ e) (Nat.le_refl _) ?_,rfl,q _ hf⟩
 exact ⟨z,us,r,⟨_,Heap.get?_push_size _ rfl,rfl,_,rfl⟩⟩
theorem ytW (h:PA X es t):PE X (.List es pos) (yFc t):=by
 intro pins s σ H Q I hq
 refine wpAny_List_spliced (thn (h pos pins s σ H _ I hq) fun us s1 ⟨xs,H1,I1,r,z,q⟩=>⟨by rw [<- r.length];exact z,?_⟩)
 have hf:H1 s1.heap.objs.size=none:=I1.hok.fresh (Nat.le_refl _)
 refine ⟨.ref s1.heap.objs.size,upd H1 s1.heap.objs.size (.lst xs),I1.laid (t':=s1.toks) (fun b u e=>Heap.get?_push_of_some _ e) (Nat.le_refl _) ?_,rfl,q _ hf⟩
 exact ⟨z,us,0,r,Heap.get?_push_size _ rfl⟩
end
abbrev Sp:=List V->Hp->VK->XK->Prop
abbrev CXT:=List Env->Hp->Shared->XK->Value->Shared->Prop
structure Env0 (P:Program) (w:World) (K:PySem.W.Frag) (mg:Str->Option Value) (base:Heap) (A:Around) (outer:List Env) (s:Shared) (H:Hp):Prop where
 frames:A.frames=some outer
 mod:Mod K mg base
 bs:∀ b o,base.get? b=some o->s.heap.get? b=some o/\H b=none
 bsz:base.objs.size<=s.heap.objs.size
 funs:s.heap.FunFrames base outer
 frf:∀ b∈frs outer,H b=none
 hok:HOk P w H s.heap
 bare:AllBare s.gens
def CE (outer:List Env) (P:Program) (w:World) (H:Hp) (s:Shared) (Q:VK) (u:Value) (s':Shared):Prop :=
 ∃ v H',s'.os=s.os/\AllBare s'.gens/\Un (frs outer) [] H H' s.heap s'.heap/\HOk P w H' s'.heap/\RelV v u/\Q v H'
def CR (CX:CXT) (outer:List Env) (P:Program) (w:World) (H:Hp) (s:Shared) (Q:VK) (E:XK) (r:Result) (s':Shared):Prop :=
 match r with
 | .ok (.ret u)=>CE outer P w H s Q u s'
 | .ok _=>False
 | .error e=>CX outer H s E e s'
structure FnOk (P:Program) (w:World) (K:PySem.W.Frag) (mg:Str->Option Value) (base:Heap) (CX:CXT) (k:Nat) (f:Addr) (fd:FuncData) (ps:List Str) (sp:Sp):Prop where
 len:∀ vs H Q E,sp vs H Q E->vs.length=ps.length
 run:∀ (A:Around) (outer:List Env) (s:Shared) (H:Hp) (args:Args) (us:List Value) (vs:List V) (Q:VK) (E:XK),Room k A->Env0 P w K mg base A outer s H->BindsTo s fd args (ps.zip us)->Vals vs us->sp vs H Q E ->
  codeAny (model P w) A (.call (.ref f) args) (CR CX outer P w H s Q E) s
theorem FnOk.mono {P:Program}{w:World}{K:PySem.W.Frag}{mg:Str->Option Value}{base:Heap}{CX:CXT}{j k:Nat}{f:Addr}{fd:FuncData}{ps:List Str}{sp:Sp}(F:FnOk P w K mg base CX j f fd ps sp) (h:j<=k) :
  FnOk P w K mg base CX k f fd ps sp:=⟨F.len,fun A outer s H args us vs Q E hr=>F.run A outer s H args us vs Q E (hr.mono h)⟩
theorem FnOk.imp {P:Program}{w:World}{K:PySem.W.Frag}{mg:Str->Option Value}{base:Heap}{CX:CXT}{k:Nat}{f:Addr}{fd:FuncData}{ps:List Str}{sp sp':Sp}(F:FnOk P w K mg base CX k f fd ps sp)
  (h:∀ vs H Q E,sp' vs H Q E->sp vs H Q E):FnOk P w K mg base CX k f fd ps sp' :=
 ⟨fun vs H Q E q=>F.len vs H Q E (h _ _ _ _ q),fun A outer s H args us vs Q E hr he hb hv hs=>F.run A outer s H args us vs Q E hr he hb hv (h _ _ _ _ hs)⟩
theorem Env0.make {P:Program}{w:World}{K:PySem.W.Frag}{mg:Str->Option Value}{base:Heap}{A:Around}{outer:List Env}{s:Shared}{H:Hp}(e:Env0 P w K mg base A outer s H) (C:Addr) (us:List Value) (kw:List (Str×Value)) :
  Env0 P w K mg base (A.under (.builtin "type.__call__" ⟨.ref C::us,kw⟩)) outer s H:=⟨by first|exact e.frames|(simpa [Around.under,Code.envs,Code.isFrame,pushEnvs] using e.frames),e.mod,e.bs,e.bsz,e.funs,e.frf,e.hok,e.bare⟩
section
variable {X:Cx}{pins:List (Addr×Obj)}{σ:St}{H:Hp}{s s':Shared}
theorem Inv.env0 (I:Inv X pins σ H s):Env0 X.prog X.w X.K X.mg X.base X.A X.stack s H :=
 ⟨I.ok.frames,I.ok.mod,I.bs,Nat.le_trans I.ok.bsz I.sz,I.stack,I.stkFree,I.hok,I.bare⟩
theorem Inv.after {Q:VK}{u:Value}(I:Inv X pins σ H s) (h:CE X.stack X.prog X.w H s Q u s'):EP X pins σ Q u s':=by
 obtain ⟨v,H',os,bare,un,hok,r,q⟩:=h
 obtain ⟨hh,g,d,t,os'⟩:=s'
 obtain rfl:os'=s.os:=os
 exact ⟨v,H',I.call (h':=hh) (g':=g) (d':=d) (t':=t) (ch:=[]) un hok bare (fun b z=>absurd z (by simp)),r,q⟩
end
def yyA (sp:Sp) (dvs:List V) (E:XK) (t:TA):TE:=fun σ H Q=>t σ H fun vs H1=>sp (vs++dvs) H1 Q E
noncomputable def yvq (C:Addr) (m:Str) (sp:Sp) (dvs:List V) (E:XK) (ta:TE) (t:TA):TE:=fun σ H Q=>ta σ H fun x H1=>∃ a dx fs,x=.ref a/\H1 a=some (.ins C dx fs)/\fs.lookup m=none /\
 t σ H1 fun vs H2=>sp (x::(vs++dvs)) H2 Q E
noncomputable def yyB (C:Addr) (sp:Sp) (dvs:List V) (E:XK) (t:TA):TE:=fun σ H Q=>t σ H fun vs H1=>∀ x dx,H1 x=none->H1 dx=none->dx≠x ->
 sp (.ref x::(vs++dvs)) (upd (upd H1 dx (.own x)) x (.ins C dx [])) (fun v H2=>v=.non/\Q (.ref x) H2) E
noncomputable def Binds (K:PySem.W.Frag) (fd:FuncData) (ps:List Str) (ds:List Value):Prop :=
 ∀ (s:Shared) (us:List Value),K.In s.heap->(us++ds).length=ps.length->BindsTo s fd ⟨us,[]⟩ (ps.zip (us++ds))
theorem Binds.all {K:PySem.W.Frag}{fd:FuncData}{ps:List Str}(h:∀ us:List Value,us.length=ps.length->bindArgs fd ⟨us,[]⟩=pure (ps.zip us)):Binds K fd ps []:=fun s us _ hl=>by
 rw [append_nil] at hl ⊢
 exact .of_eq (h us hl)
noncomputable def yfa (CX:CXT) (X:Cx) (E:XK):Prop:=∀ (pins:List (Addr×Obj)) (σ:St) (H:Hp) (s:Shared) (e:Value) (s':Shared),Inv X pins σ H s->CX X.stack H s E e s'->X.xe e s'
section
variable {X:Cx}{CX:CXT}{k:Nat}{f C:Addr}{fd:FuncData}{ps:List Str}{sp:Sp}{dvs:List V}{ds:List Value}{E:XK}{x m:Str}{p pos apos:Pos}{e o:Expr}{es:List Expr}{ta:TE}{t:TA}
theorem ymU {pins:List (Addr×Obj)}{σ:St}{H:Hp}{s:Shared}{Q:VK}{us:List Value}{vs:List V}(F:FnOk X.prog X.w X.K X.mg X.base CX k f fd ps sp) (hr:Room k X.A) (hb:Binds X.K fd ps ds) (hd:Vals dvs ds) (hx:yfa CX X E)
  (I:Inv X pins σ H s) (r:Vals vs us) (h:sp (vs++dvs) H Q E):wpAny (model X.prog X.w) X.A (call (.ref f) us) (EP X pins σ Q) X.xe s:=by
 have r2:Vals (vs++dvs) (us++ds):=r.append hd
 have hl:(us++ds).length=ps.length:=by rw [<- r2.length];exact F.len _ _ _ _ h
 refine wpAny_call (codeAny_mono (F.run X.A X.stack s H ⟨us,[]⟩ (us++ds) (vs++dvs) Q E hr I.env0 (hb s us I.kIn hl) r2 h) fun r s' hq=>?_)
 cases r with
 | error e=>exact hx pins σ H s e s' I hq
 | ok fl =>
  cases fl with
  | ret u=>exact I.after hq
  | next=>exact False.elim hq
  | brk=>exact False.elim hq
  | cont=>exact False.elim hq
theorem yvr (F:FnOk X.prog X.w X.K X.mg X.base CX k f fd ps sp) (hr:Room k X.A) (hg:Gl X x) (hm:X.mg x=some (.ref f)) (hk:keepIn X.K (.ref f)=true) (hb:Binds X.K fd ps ds) (hd:Vals dvs ds) (hx:yfa CX X E)
  (ha:PA X (e::es) t) (hdb:(x == ("__debug__":Str))=false:=by decide) (he:starEach (e::es) X.env=(false,eval e X.env)::starEach es X.env:=by rfl) (hpl:(backTo pos (starEach es X.env)).any (·.1)=false:=by rfl) :
  PE X (.Call (.Name x p) (e::es) [] pos) (yyA sp dvs E t):=by
 intro pins s σ H Q I h
 refine wpAny_Call_Name_kw (yfQ I hg hm ?_ hdb)
 refine PySem.W.callWith_K (h₀:=X.base) I.ok.mod.kin hk (thn (ha pos pins s σ H _ I h) fun us s1 ⟨vs,H1,I1,r,q⟩=>⟨I1.kIn,?_⟩) he hpl
 exact ymU F hr hb hd hx I1 r q
theorem ypw {pl:Sem Bool}(he:PE X o ta) (c:Cls X.K C) (hm:Meth X.K C m f) (F:FnOk X.prog X.w X.K X.mg X.base CX k f fd ps sp) (hr:Room k X.A) (hb:Binds X.K fd ps ds) (hd:Vals dvs ds) (hx:yfa CX X E) (ha:PA X (e::es) t)
  (hst:starEach (e::es) X.env=(false,eval e X.env)::starEach es X.env:=by rfl) (hpl:(backTo pos (starEach es X.env)).any (·.1)=false:=by rfl)
  (ht:eval (.Call (.Attribute o m apos) (e::es) [] pos) X.env=(do
   let ov <- eval o X.env
   standAt apos.atName
   let (f,first) <- holding [ov] (getMethod ov m pl)
   callWith pos f first (backTo pos (starEach (e::es) X.env)) (backToKw pos (keywordEach [] X.env))):=by rfl) :
  PE X (.Call (.Attribute o m apos) (e::es) [] pos) (yvq C m sp dvs E ta t):=by
 intro pins s σ H Q I h
 refine PySem.W.methodCall_KW (pl:=pl) (thn (he pins s σ H _ I h) fun u s1 ⟨x,H1,I1,rx,a,dx,fs,ex,ea,l,q⟩=>?_) ht
 subst ex
 obtain rfl:u=Value.ref a:=rx
 refine ygB I1 ea c hm l ?_
 refine PySem.W.callWith_K (first:=[.ref a]) (h₀:=X.base) I.ok.mod.kin hm.kp (thn (ha pos pins s1 σ H1 _ I1 q) fun us s2 ⟨vs,H2,I2,r,q2⟩=>⟨I2.kIn,?_⟩) hst hpl
 exact ymU (us:=.ref a::us) (vs:=.ref a::vs) F hr hb hd hx I2 (.cons rfl r) q2
theorem ymV {pl:Sem Bool}(he:PE X o ta) (c:Cls X.K C) (hm:Meth X.K C m f) (F:FnOk X.prog X.w X.K X.mg X.base CX k f fd ps sp) (hr:Room k X.A) (hb:Binds X.K fd ps ds) (hd:Vals dvs ds) (hx:yfa CX X E)
  (ht:eval (.Call (.Attribute o m apos) [] [] pos) X.env=(do
   let ov <- eval o X.env
   standAt apos.atName
   let (f,first) <- holding [ov] (getMethod ov m pl)
   callWith pos f first (backTo pos (starEach [] X.env)) (backToKw pos (keywordEach [] X.env))):=by rfl) :
  PE X (.Call (.Attribute o m apos) [] [] pos) (yvq C m sp dvs E ta yBK):=by
 intro pins s σ H Q I h
 refine PySem.W.methodCall_KW (pl:=pl) (thn (he pins s σ H _ I h) fun u s1 ⟨x,H1,I1,rx,a,dx,fs,ex,ea,l,q⟩=>?_) ht
 subst ex
 obtain rfl:u=Value.ref a:=rx
 refine ygB I1 ea c hm l ?_
 exact PySem.W.callWith_K0 (first:=[.ref a]) I1.kIn hm.kp (ymU (us:=[.ref a]) (vs:=[.ref a]) F hr hb hd hx I1 (.cons rfl .nil) q)
structure Mk (K:PySem.W.Frag) (C f:Addr):Prop where
 makes:makesIn K C=true
 init:findIn K (.ref C) "__init__" = some (some (.ref f))
 fn:isFn K (.ref f)=true
 kp:keepIn K (.ref C)=true
theorem yrX {pins:List (Addr×Obj)}{σ:St}{H:Hp}{s:Shared}{Q:VK}{us:List Value}{vs:List V}(M:Mk X.K C f) (F:FnOk X.prog X.w X.K X.mg X.base CX k f fd ps sp) (hr:Room (k+1) X.A) (hb:Binds X.K fd ps ds) (hd:Vals dvs ds)
  (hx:yfa CX X E) (I:Inv X pins σ H s) (r:Vals vs us)
  (h:∀ x dx,H x=none->H dx=none->dx≠x->sp (.ref x::(vs++dvs)) (upd (upd H dx (.own x)) x (.ins C dx [])) (fun v H2=>v=.non/\Q (.ref x) H2) E) :
  wpAny (model X.prog X.w) X.A (call (.ref C) us) (EP X pins σ Q) X.xe s:=by
 have hq:=h (s.heap.objs.size+1) s.heap.objs.size (I.hok.fresh (Nat.le_succ _)) (I.hok.fresh (Nat.le_refl _)) (ne_of_lt (Nat.lt_succ_self _))
 have I2:=Inv.made (C:=C) I
 have r2:Vals (V.ref (s.heap.objs.size+1)::(vs++dvs)) (Value.ref (s.heap.objs.size+1)::(us++ds)):=.cons rfl (r.append hd)
 have hl:(Value.ref (s.heap.objs.size+1)::us++ds).length=ps.length:=by
  have e:=r2.length
  rw [F.len _ _ _ _ hq] at e
  exact e.symm
 refine wpAny_call (yrW (f:=f) I.kIn M.makes M.init (beq_iff_eq.mp M.fn) (codeAny_mono (F.run _ X.stack _ _ ⟨Value.ref (s.heap.objs.size+1)::us,[]⟩ (Value.ref (s.heap.objs.size+1)::(us++ds)) _ _ E (hr.make C us [])
  (I2.env0.make C us []) (hb _ (Value.ref (s.heap.objs.size+1)::us) I2.kIn hl) r2 hq) fun r s' hq'=>?_))
 cases r with
 | error e=>exact hx pins σ _ _ e s' I2 hq'
 | ok fl =>
  cases fl with
  | ret u =>
   obtain ⟨v,H',I3,rv,ev,q3⟩:=I2.after hq'
   subst ev
   exact ⟨rv,⟨V.ref (s.heap.objs.size+1),H',I3,rfl,q3⟩⟩
  | next=>exact False.elim hq'
  | brk=>exact False.elim hq'
  | cont=>exact False.elim hq'
theorem ypx (M:Mk X.K C f) (F:FnOk X.prog X.w X.K X.mg X.base CX k f fd ps sp) (hr:Room (k+1) X.A) (hg:Gl X x) (hm:X.mg x=some (.ref C)) (hb:Binds X.K fd ps ds) (hd:Vals dvs ds) (hx:yfa CX X E)
  (ha:PA X (e::es) t) (hdb:(x == ("__debug__":Str))=false:=by decide) (he:starEach (e::es) X.env=(false,eval e X.env)::starEach es X.env:=by rfl) (hpl:(backTo pos (starEach es X.env)).any (·.1)=false:=by rfl) :
  PE X (.Call (.Name x p) (e::es) [] pos) (yyB C sp dvs E t):=by
 intro pins s σ H Q I h
 refine wpAny_Call_Name_kw (yfQ I hg hm ?_ hdb)
 refine PySem.W.callWith_K (h₀:=X.base) I.ok.mod.kin M.kp (thn (ha pos pins s σ H _ I h) fun us s1 ⟨vs,H1,I1,r,q⟩=>⟨I1.kIn,?_⟩) he hpl
 exact yrX M F hr hb hd hx I1 r q
end
section
variable {X:Cx}{CX:CXT}{k:Nat}{f C:Addr}{fd:FuncData}{ps ks:List Str}{sp:Sp}{E:XK}{x m:Str}{p pos apos kpos:Pos}{e o:Expr}{es:List Expr}{kws:List Keyword}{te ta:TE}{t tk:TA}{nm:Option Str}
variable {g:List Value->List Value->List Value}{gV:List V->List V->List V}
end
structure yez (N P:List Str) (sc:Scope):Prop where
 kind:sc.kind=.function
 co:sc.isCoroutine=false
 gen:sc.isGenerator=false
 nd:N.Nodup
 pre:N.take P.length=P
 par:∀ x∈P,sc.names.lookup x=some .local \/ sc.names.lookup x=some .cell
 nofree:∀ y∈sc.names,y.2≠.free
theorem ykk {kindOf:Str->Option NameKind}{x:Str}:∀ {binds:List (Str×Value)}{m:Str->Option Value},(∀ v,(x,v)∉binds)->bindL kindOf binds m x=m x
 | [],_,_=>rfl
 | (n,v)::r,m,h=>by
  unfold bindL
  rw [ykk fun w hw=>h w (mem_cons_of_mem _ hw)]
  split
  .have:x≠n:=by rintro rfl;exact h v mem_cons_self
   simp [this]
  .rfl
theorem ykl {kindOf:Str->Option NameKind}{x:Str}:∀ {binds:List (Str×Value)}{m:Str->Option Value},(∀ v,(x,v)∉binds)->bindC kindOf binds m x=m x
 | [],_,_=>rfl
 | (n,v)::r,m,h=>by
  unfold bindC
  rw [ykl fun w hw=>h w (mem_cons_of_mem _ hw)]
  split
  .rfl
  .have:x≠n:=by rintro rfl;exact h v mem_cons_self
   simp [this]
theorem ykm {kindOf:Str->Option NameKind}{x:Str}{v:Value}:∀ {P:List Str}{vs:List Value}{i:Nat}{m:Str->Option Value},P.Nodup->P[i]?=some x->vs[i]?=some v->kindOf x=some .local ->
  bindL kindOf (P.zip vs) m x=some v
 | [],_,_,_,_,h,_,_=>by simp at h
 | _::_,[],_,_,_,_,h,_=>by simp at h
 | p::P,w::vs,0,m,nd,h1,h2,hk=>by
  simp at h1 h2;subst h1;subst h2
  show bindL kindOf ((p,w)::P.zip vs) m p=_
  unfold bindL
  rw [ykk fun v hv=>(List.nodup_cons.mp nd).1 (of_mem_zip hv).1,if_pos hk]
  simp
 | p::P,w::vs,i+1,m,nd,h1,h2,hk=>by
  show bindL kindOf ((p,w)::P.zip vs) m x=_
  unfold bindL
  exact ykm (i:=i) (List.nodup_cons.mp nd).2 (by simpa using h1) (by simpa using h2) hk
theorem ykn {kindOf:Str->Option NameKind}{x:Str}{v:Value}:∀ {P:List Str}{vs:List Value}{i:Nat}{m:Str->Option Value},P.Nodup->P[i]?=some x->vs[i]?=some v->kindOf x≠some .local ->
  bindC kindOf (P.zip vs) m x=some v
 | [],_,_,_,_,h,_,_=>by simp at h
 | _::_,[],_,_,_,_,h,_=>by simp at h
 | p::P,w::vs,0,m,nd,h1,h2,hk=>by
  simp at h1 h2;subst h1;subst h2
  show bindC kindOf ((p,w)::P.zip vs) m p=_
  unfold bindC
  rw [ykl fun v hv=>(List.nodup_cons.mp nd).1 (of_mem_zip hv).1,if_neg hk]
  simp
 | p::P,w::vs,i+1,m,nd,h1,h2,hk=>by
  show bindC kindOf ((p,w)::P.zip vs) m x=_
  unfold bindC
  exact ykn (i:=i) (List.nodup_cons.mp nd).2 (by simpa using h1) (by simpa using h2) hk
def start (N:List Str) (vs:List V):St:=vs.map some++replicate (N.length-vs.length) none
noncomputable def ymW (CX:CXT) (P:Program) (w:World) (K:PySem.W.Frag) (mg:Str->Option Value) (base:Heap) (N:List Str) (qual:Str) (scope:Scope) (f:Addr) (cd:Value) (A:Around) (outer:List Env) (s:Shared) (H:Hp) (E:XK):Cx where
 prog:=P
 w:=w
 K:=K
 mg:=mg
 base:=base
 A:=A.deeper (envOfC qual scope s.heap.objs.size f cd)
 N:=N
 s₀:=s
 H₀:=H
 env:=envOfC qual scope s.heap.objs.size f cd
 outer:=outer
 stack:=envOfC qual scope s.heap.objs.size f cd::outer
 ex:=[]
 calm:=true
 fn:=fun _=>true
 pn:=[]
 xe:=fun e s'=>wpAny (model P w) (A.deeper (envOfC qual scope s.heap.objs.size f cd)) (leaving (envOfC qual scope s.heap.objs.size f cd) e) (fun _ s''=>CX outer H s E e s'') (fun e' s''=>CX outer H s E e' s'') s'
theorem ymX {sc:Scope}{n:Nat}{x:Str}(h:sc.names.lookup x=some .cell):∃ c,(cellsFrom n sc.names []).lookup x=some c:=by
 have q:=PySem.W.cellsFrom_some sc.names n [] (.inl h)
 exact Option.isSome_iff_exists.mp q
theorem ypy {CX:CXT}{P:Program}{w:World}{K:PySem.W.Frag}{mg:Str->Option Value}{base:Heap}{N ps:List Str}{qual:Str}{scope:Scope}{f:Addr}{cd:Value}{A:Around}{outer:List Env}{s s1:Shared}{H:Hp}{E:XK}{us:List Value}{vs:List V}
  (S:yez N ps scope) (hd:A.handled=none) (e0:Env0 P w K mg base A outer s H) (hl:vs.length=ps.length) (r:Vals vs us)
  (x:InCallC s s.heap.objs.size (bindL (envOfC qual scope s.heap.objs.size f cd).kindOf (ps.zip us) fun _=>none) (cellsFrom (s.heap.objs.size+1) scope.names []) (bindC (envOfC qual scope s.heap.objs.size f cd).kindOf (ps.zip us) fun _=>none) s1) :
  Inv (ymW CX P w K mg base N qual scope f cd A outer s H E) [] (start N vs) H s1:=by
 have hpl:ps.length<=N.length:=by have:=congrArg List.length S.pre;rw [length_take] at this;omega
 obtain ⟨h1,tk,rfl,hk⟩:=x.done
 have noA:∀ b:Addr,b∉(ymW CX P w K mg base N qual scope f cd A outer s H E).ex:=fun b z=>absurd (show b∈([]:List Addr) from z) (by simp)
 refine ⟨⟨e0.mod,S.kind,rfl,rfl,Nat.le_refl _,fun y z c h1 h2=>?_,fun y hy=>?_,fun y c _ h=>?_,fun _=>hd,Around.frames_deeper e0.frames,.inr ⟨rfl,rfl⟩,fun b z=>absurd z (noA b),e0.bs,e0.bsz,fun b _ _=>noA b,fun b z=>absurd z (noA b),e0.funs,e0.frf⟩,
  rfl,e0.bare,Un.kept hk,⟨_,x.toInCall.ns,fun i y v h1 h2 h3=>?_⟩,fun y c h=>⟨_,x.cell y c h⟩,e0.hok.fresh (Nat.le_refl _),fun y c h=>?_,fun p hp=>absurd (show p∈([]:List (Addr×Obj)) from hp) (by simp),e0.hok.kept hk,?_⟩
 .exact name_of_addr x.apart (PySem.mem_of_lookup h1) (PySem.mem_of_lookup h2)
 .have hy:scope.names.lookup y=some .cell\/scope.names.lookup y=some .free:=hy
  rcases hy with hy|hy
  .exact ymX hy
  .exact absurd rfl (S.nofree _ (PySem.mem_of_lookup hy))
 .exact le_of_lt (x.above y c (PySem.mem_of_lookup h))
 .have hi:i<vs.length:=by
   unfold start at h2
   by_cases hi:i<vs.length
   .exact hi
   .rw [getElem?_append_right (by simpa using hi)] at h2
    rw [getElem?_replicate] at h2
    split at h2<;>cases h2
  have ha:vs[i]?=some v:=by
   unfold start at h2
   rw [getElem?_append_left (by simpa using hi),getElem?_map] at h2
   cases e:vs[i]? with
   | none=>rw [e] at h2;cases h2
   | some a=>rw [e] at h2;cases h2;rfl
  obtain ⟨u,hu,rv⟩:=r.get ha
  have hp:ps[i]?=some y:=by
   rw [<- S.pre,List.getElem?_take_of_lt (by omega)];exact h1
  have ndP:ps.Nodup:=by rw [<- S.pre];exact S.nd.sublist (List.take_sublist _ _)
  refine ⟨u,rv,?_⟩
  rcases S.par y (mem_of_getElem? hp) with k|k
  .exact .inl ⟨k,ykm ndP hp hu k⟩
  .obtain ⟨c,e⟩:=ymX (n:=s.heap.objs.size+1) k
   refine .inr ⟨.inl k,c,e,?_⟩
   have q:=x.cell y c e
   rw [ykn ndP hp hu (by show scope.names.lookup y≠_;rw [k];decide)] at q
   exact q
 .exact e0.hok.fresh (le_of_lt (x.above y c (PySem.mem_of_lookup h)))
 .unfold start
  show _=N.length
  rw [length_append,length_map,List.length_replicate]
  omega
theorem yyC {CX:CXT}{P:Program}{w:World}{K:PySem.W.Frag}{mg:Str->Option Value}{base:Heap}{k:Nat}{f:Addr}{name qual:Str}{params:Arguments}{body:List Stmt}{scope:Scope}{dV kV doc pm cdv ct oc:Value}{an od:Option Addr}
  {osl:Array (Option Value)}{N ps:List Str}{sp:Sp}(lk:K.lookup f=some ⟨oc,od,.func (fnOf name qual params body scope dV kV doc pm an cdv ct),osl⟩) (hcd:codeIn K cdv qual=true) (S:yez N ps scope)
  (len:∀ vs H Q E,sp vs H Q E->vs.length=ps.length)
  (hbody:∀ (A:Around) (outer:List Env) (s:Shared) (H:Hp) (vs:List V) (Q:VK) (E:XK),Room k (A.deeper (envOfC qual scope s.heap.objs.size f cdv))->sp vs H Q E ->
   ∃ t,PSs (ymW CX P w K mg base N qual scope f cdv A outer s H E) body t/\t { nx:=fun _ H'=>Q .non H',rt:=Q } (start N vs) H) :
  FnOk P w K mg base CX (k+1) f (fnOf name qual params body scope dV kV doc pm an cdv ct) ps sp:=by
 refine ⟨len,fun A outer s H args us vs Q E hr e0 hb r hsp=>?_⟩
 have hl:=len _ _ _ _ hsp
 have KX:K.In s.heap:=e0.mod.kin.keeps fun b o e=>(e0.bs b o e).1
 have lim:s.heap.NoLimit:=e0.mod.nolimit.keeps fun b o e=>(e0.bs b o e).1
 have hkind:∀ y∈ps.zip us,scope.names.lookup y.1=some .local \/ (scope.names.lookup y.1=some .cell/\((cellsFrom (s.heap.objs.size+1) scope.names []).lookup y.1).isSome=true):=fun ⟨n,v⟩ hy=>by
  rcases S.par n (of_mem_zip hy).1 with q|q
  .exact .inl q
  .exact .inr ⟨q,PySem.W.cellsFrom_some _ _ _ (.inl q)⟩
 refine codeAny_call_function hr.depth (KX _ _ lk) rfl S.co S.gen rfl (PySem.W.codeRec_of KX hcd) (hb _ _ _ _ ?_)
 refine wpAny_newFunctionEnv_cells S.kind hkind fun env he s1 x=>?_
 subst he
 refine ⟨lim.keeps x.toInCall.keep,codeAny_func ?_⟩
 obtain ⟨t,ht,hq⟩:=hbody A outer s H vs Q E (hr.deeper _) hsp
 have I:Inv (ymW CX P w K mg base N qual scope f cdv A outer s H E) [] (start N vs) H s1:=ypy S hr.hd e0 hl r x
 refine wpAny_mono (ht [] s1 (start N vs) H _ I hq) (fun fl s' hs=>?_) fun e s' hs=>hs
 have fin:∀ {σ':St}{H':Hp}{v:V}{u:Value},Inv (ymW CX P w K mg base N qual scope f cdv A outer s H E) [] σ' H' s'->RelV v u->Q v H'->CE outer P w H s Q u s' :=
  fun {σ' H' v u} J rv q=>⟨v,H',J.os,J.bare,J.base,J.hok,rv,q⟩
 cases fl with
 | ret u =>
  obtain ⟨v,σ',H',J,rv,q⟩:=hs
  exact fin J rv q
 | next =>
  obtain ⟨σ',H',J,q⟩:=hs
  exact fin (v:=V.non) (u:=Value.none) J rfl q
 | brk =>
  obtain ⟨_,_,_,q⟩:=hs
  exact False.elim q
 | cont =>
  obtain ⟨_,_,_,q⟩:=hs
  exact False.elim q
end L2
namespace L2
open PySem PySem.Spec PyProof.Rows
section
variable {X:Cx}{x:Str}{p pos:Pos}{e:Expr}{es:List Expr}{t:TA}{id T:String}{r:List V->Hp->VK->Prop}
def tCB (r:List V->Hp->VK->Prop) (t:TA):TE:=fun σ H Q=>t σ H fun vs H1=>r vs H1 Q
theorem yrY (hc:CallR X (.builtin id) r) (hg:Gl X x) (hm:X.mg x=none) (hv:bootBuiltins x=some (.builtin id)) (ha:PA X (e::es) t) (hn:x≠"__name__":=by decide) (hdb:(x == ("__debug__":Str))=false:=by decide)
  (he:starEach (e::es) X.env=(false,eval e X.env)::starEach es X.env:=by rfl) (hpl:(backTo pos (starEach es X.env)).any (·.1)=false:=by rfl):PE X (.Call (.Name x p) (e::es) [] pos) (tCB r t):=by
 intro pins s σ H Q I h
 refine wpAny_Call_Name_kw (ymN I hg hm hv ?_ hn hdb)
 exact PyProof.Rows.callWith_builtin1 (thn (ha pos pins s σ H _ I h) fun us s1 ⟨vs,H1,I1,r1,q1⟩=>hc pins s1 σ H1 vs us Q I1 r1 q1) he hpl
theorem yko (hc:CallR X (.type T) r) (hg:Gl X x) (hm:X.mg x=none) (hv:bootBuiltins x=some (.type T)) (ha:PA X (e::es) t) (hn:x≠"__name__":=by decide) (hdb:(x == ("__debug__":Str))=false:=by decide)
  (he:starEach (e::es) X.env=(false,eval e X.env)::starEach es X.env:=by rfl) (hpl:(backTo pos (starEach es X.env)).any (·.1)=false:=by rfl):PE X (.Call (.Name x p) (e::es) [] pos) (tCB r t):=by
 intro pins s σ H Q I h
 refine wpAny_Call_Name_kw (ymN I hg hm hv ?_ hn hdb)
 exact PyProof.Rows.callWith_type1 (thn (ha pos pins s σ H _ I h) fun us s1 ⟨vs,H1,I1,r1,q1⟩=>hc pins s1 σ H1 vs us Q I1 r1 q1) he hpl
end
end L2
namespace HT
open PySem PyProof.Rows
section
open PySem.SeqAt
open PySem.AutoSeq1 (wpAny_loadPart')
open PySem.MeetsSeq PySem.MeetsSeq2 PySem.MeetsSeq3
end
section
variable {prog:Program}{w:World}{A:Around}{E:Value->Shared->Prop}{s:Shared}
def sIx (n d:Nat):Option Int->Nat
 | none=>d
 | some v=>if v<0 then (v+(n:Int)).toNat else min v.toNat n
theorem sIx_none (n d:Nat):sIx n d none=d:=rfl
theorem sIx_nat (n d k:Nat):sIx n d (some (k:Int))=min k n:=by
 show (if (k:Int)<0 then ((k:Int)+(n:Int)).toNat else min (k:Int).toNat n)=min k n
 rw [if_neg (by omega),Int.toNat_natCast]
end
end HT
namespace L2
open PySem PySem.Spec PyProof.Rows
abbrev TO:=St->Hp->(Option Int->Hp->Prop)->Prop
noncomputable def PO (X:Cx) (e:Option Expr) (t:TO):Prop :=
 ∀ (pins:List (Addr×Obj)) (s:Shared) (σ:St) (H:Hp) (Q:Option Int->Hp->Prop),Inv X pins σ H s->t σ H Q ->
  wpAny (model X.prog X.w) X.A (evalPart e X.env) (fun u s'=>∃ o H',Inv X pins σ H' s'/\IsPart u o/\Q o H') X.xe s
def ypz:TO:=fun _ H Q=>Q none H
def yyD (t:TE):TO:=fun σ H Q=>t σ H fun x H1=>∃ i,x=.int i/\Q (some i) H1
theorem intsAre_of {ns:List Int}:∀ {us:List Value},Vals (ns.map V.int) us->IntsAre us ns:=by
 induction ns with
 | nil=>intro us r;rw [map_nil] at r;cases r;exact .nil
 | cons n ns ih =>
  intro us r
  rw [map_cons] at r
  cases r with
  | cons r1 r2 =>
   obtain ⟨t,e⟩:=r1
   subst e
   exact .cons n t (ih r2)
section
variable {X:Cx}{e:Expr}{te:TE}{lo hi:Option Expr}{tl th:TO}{pos p2:Pos}
theorem yvs:PO X none ypz:=by
 intro pins s σ H Q I h
 rw [evalPart_none]
 exact wpAny_pure ⟨none,H,I,.none,h⟩
theorem yvt (h:PE X e te):PO X (some e) (yyD te):=by
 intro pins s σ H Q I hw
 rw [evalPart_some]
 refine thn (h pins s σ H _ I hw) fun u s1 ⟨x,H1,I1,r1,q1⟩=>?_
 obtain ⟨i,rfl,q⟩:=q1
 obtain ⟨t,rfl⟩:=r1
 exact ⟨some i,H1,I1,.int i t,q⟩
def SlR (X:Cx) (r:V->Option Int->Option Int->Hp->VK->Prop):Prop :=
 ∀ (pins:List (Addr×Obj)) (s:Shared) (σ:St) (H:Hp) (x:V) (v vl vu:Value) (lo hi:Option Int) (sl:Addr) (Q:VK),Inv X pins σ H s->RelV x v->s.heap.IsSliceOf sl vl vu .none->IsPart vl lo->IsPart vu hi->r x lo hi H Q ->
  ∃ T id,typeLookup (.type T) "__getitem__" = pure (some (.builtin id))/\s.TypeIs v T/\wpAny (model X.prog X.w) X.A (getItem v (.ref sl)) (EP X pins σ Q) X.xe s
noncomputable def tSl (r:V->Option Int->Option Int->Hp->VK->Prop) (te:TE) (tl th:TO):TE:=fun σ H Q=>te σ H fun x H1=>tl σ H1 fun l H2=>th σ H2 fun u H3=>r x l u H3 Q
theorem ymY {r:V->Option Int->Option Int->Hp->VK->Prop}(hr:SlR X r) (he:PE X e te) (hl:PO X lo tl) (hu:PO X hi th):PE X (.Subscript e (.Slice lo hi none p2) pos) (tSl r te tl th):=by
 intro pins s σ H Q I h
 refine Subscript_ (thn (he pins s σ H _ I h) fun v s1 ⟨x,H1,I1,r1,q1⟩=>?_)
 refine wpAny_Slice (thn (hl pins s1 σ H1 _ I1 q1) fun vl s2 ⟨l,H2,I2,pl,q2⟩=>thn (hu pins s2 σ H2 _ I2 q2) fun vu s3 ⟨u,H3,I3,pu,q3⟩=>?_)
 rw [evalPart_none]
 refine wpAny_pure ?_
 have I4:Inv X pins σ H3 { s3 with heap:=s3.heap.push { cls:=.type "slice",data:=.fields #[vl,vu,.none] } }:=I3.kept (t':=s3.toks) fun b ob q=>Heap.get?_push_of_some _ q
 obtain ⟨T,id,hT,ht,hg⟩:=hr pins { s3 with heap:=s3.heap.push { cls:=.type "slice",data:=.fields #[vl,vu,.none] } } σ H3 x v vl vu l u s3.heap.objs.size Q I4 r1 (Heap.IsSliceOf.new ..) pl pu q3
 show wpAny (model X.prog X.w) X.A (subscriptTail e (.Slice lo hi none p2) v (.ref s3.heap.objs.size)) (EP X pins σ Q) X.xe { s3 with heap:=s3.heap.push { cls:=.type "slice",data:=.fields #[vl,vu,.none] } }
 exact tail_any (ops:=[.ref s3.heap.objs.size,v]) ht hT hg (by with_unfolding_all rfl)
noncomputable def yyE (xs:List V) (lo hi:Option Int):List V:=(xs.drop (HT.sIx xs.length 0 lo)).take (HT.sIx xs.length xs.length hi-HT.sIx xs.length 0 lo)
theorem ylL (xs:List V) (lo hi:Option Int):(yyE xs lo hi).length<=xs.length:=by
 unfold yyE
 rw [length_take,length_drop]
 omega
end
end L2
namespace L2
open PySem PySem.Spec PyProof.Rows
noncomputable def ixN (n:Nat) (i:Int):Option Nat:=if 0<=i then (if i<n then some i.toNat else none) else if -(n:Int)<=i then some (i+n).toNat else none
def atI {α:Type}(xs:List α) (i:Int):Option α:=(ixN xs.length i).bind fun j=>xs[j]?
theorem ylM {n:Nat}{i:Int}{j:Nat}(h:ixN n i=some j):seqIndex? i n=some j/\j<n/\-(n:Int)<=i/\i<n:=by
 unfold ixN at h
 by_cases h0:0<=i
 .rw [if_pos h0] at h
  by_cases h1:i<n
  .rw [if_pos h1] at h
   have e:i.toNat=j:=Option.some.inj h
   exact ⟨by rw [seqIndex_of h0 h1,e],by omega,by omega,h1⟩
  .rw [if_neg h1] at h;cases h
 .rw [if_neg h0] at h
  by_cases h1:-(n:Int)<=i
  .rw [if_pos h1] at h
   have e:(i+n).toNat=j:=Option.some.inj h
   exact ⟨by rw [seqIndex_neg (by omega) h1,e],by omega,h1,by omega⟩
  .rw [if_neg h1] at h;cases h
theorem ylN {α:Type}{xs:List α}{i:Int}{v:α}(h:atI xs i=some v):∃ j,seqIndex? i xs.length=some j/\xs[j]?=some v/\j<xs.length/\-(xs.length:Int)<=i/\i<xs.length:=by
 unfold atI at h
 cases e:ixN xs.length i with
 | none=>rw [e] at h;cases h
 | some j =>
  rw [e] at h
  obtain ⟨h1,h2,h3,h4⟩:=ylM e
  exact ⟨j,h1,h,h2,h3,h4⟩
theorem ydr {α:Type}{xs:List α}{j:Nat}{v:α}(h:xs[j]?=some v):atI xs (j:Int)=some v:=by
 have hj:j<xs.length:=(List.getElem?_eq_some_iff.mp h).1
 have e:ixN xs.length (j:Int)=some j:=by
  unfold ixN
  rw [if_pos (by omega),if_pos (by omega)];simp
 unfold atI;rw [e];exact h
def ypA (b:Expr):Prop:=∀ o i,subscripted b false o i=operate [o,i] (getItem o i)
def IxR (X:Cx) (r:R2):Prop :=
 ∀ (value slice:Expr) (pins:List (Addr×Obj)) (s:Shared) (σ:St) (H:Hp) (x y:V) (v u:Value) (Q:VK),Inv X pins σ H s->RelV x v->RelV y u->r x y H Q ->
  subscripted slice false v u=operate [v,u] (getItem v u)->wpAny (model X.prog X.w) X.A (subscriptTail value slice v u) (EP X pins σ Q) X.xe s
def MtR (X:Cx) (id:String) (r:V->List V->Hp->VK->Prop):Prop :=
 ∀ (pins:List (Addr×Obj)) (s:Shared) (σ:St) (H:Hp) (x:V) (xs:List V) (v:Value) (us:List Value) (Q:VK),Inv X pins σ H s->RelV x v->Vals xs us->r x xs H Q ->
  wpAny (model X.prog X.w) X.A (call (.builtin id) (v::us)) (EP X pins σ Q) X.xe s
section
variable {X:Cx}{a b:Expr}{ta tb:TE}{pos:Pos}
theorem yCg {r:R2}(hr:IxR X r) (ha:PE X a ta) (hb:PE X b tb) (hs:ypA b):PE X (.Subscript a b pos) (tOp r ta tb):=by
 intro pins s σ H Q I h
 exact Subscript_ (yCb ha hb I h fun v u s2 x y H2 I2 rx ry q=>hr a b pins s2 σ H2 x y v u Q I2 rx ry q (hs _ _))
def yFd (K:PySem.W.Frag):R2:=fun x y H Q=>∃ p xs i v,x=.ref p/\y=.int i/\SqL K H p xs/\atI xs i=some v/\Q v H
def yFe (K:PySem.W.Frag):R2:=fun x y H Q=>∃ p xs i v,x=.ref p/\y=.int i/\SqT K H p xs/\atI xs i=some v/\Q v H
def yFf:R2:=fun x y H Q=>∃ z i c,x=.str z/\y=.int i/\z.length<=sizeLine/\atI z.cps.toList i=some c/\Q (.str ⟨#[c]⟩) H
theorem yds:IxR X (yFd X.K):=by
 intro value slice pins s σ H x y v u Q I rx ry h hs
 obtain ⟨p,xs,i,z,rfl,rfl,hq,he,q⟩:=h
 cases rx
 obtain ⟨t,rfl⟩:=ry
 obtain ⟨its,r,pl,hz⟩:=I.list hq
 obtain ⟨j,h1,h2,h3,h4,h5⟩:=ylN he
 obtain ⟨w,ew,rw'⟩:=r.get h2
 have hl:=r.length
 have hn:=yiK
 have fin:EP X pins σ Q w s:=⟨z,H,I,rw',q⟩
 by_cases h0:0<=i
 .have hj:i.toNat=j:=by
   rw [seqIndex_of h0 h5] at h1
   exact Option.some.inj h1
  exact item_listR pl.isList h0 (by omega) (by rw [hj];simpa using ew) fin hs
 .have hj:(i+(its.toArray.size:Int)).toNat=j:=by
   rw [seqIndex_neg (by omega) h4] at h1
   rw [size_toArray,<- hl]
   exact Option.some.inj h1
  exact subscriptTail_builtinR (x:=w) pl.isList.typeIs slot_list_getitem.lookup
   (wpAny_getItem_list_neg (Q:=fun r s'=>r=w/\EP X pins σ Q r s') pl.isList (by omega) (by rw [size_toArray]<;>omega) (by omega) (by rw [hj];simpa using ew) ⟨rfl,fin⟩) hs
theorem ycr:IxR X (yFe X.K):=by
 intro value slice pins s σ H x y v u Q I rx ry h hs
 obtain ⟨p,xs,i,z,rfl,rfl,hq,he,q⟩:=h
 cases rx
 obtain ⟨t,rfl⟩:=ry
 obtain ⟨its,r,pl,hz⟩:=I.tuple hq
 obtain ⟨j,h1,h2,h3,h4,h5⟩:=ylN he
 obtain ⟨w,ew,rw'⟩:=r.get h2
 have hl:=r.length
 have hn:=yiK
 have fin:EP X pins σ Q w s:=⟨z,H,I,rw',q⟩
 exact subscriptTail_builtinR (x:=w) pl.typeIs slot_tuple_getitem.lookup
  (getItem_tuple (j:=j) (Q:=fun r s'=>r=w/\EP X pins σ Q r s') pl (by omega) (by omega) (by rw [size_toArray,<- hl];exact h1) (by simpa using ew) ⟨rfl,fin⟩) hs
theorem ypB:IxR X yFf:=by
 intro value slice pins s σ H x y v u Q I rx ry h hs
 obtain ⟨z,i,c,rfl,rfl,hz,he,q⟩:=h
 obtain ⟨t,rfl⟩:=rx
 obtain ⟨t',rfl⟩:=ry
 obtain ⟨j,h1,h2,h3,h4,h5⟩:=ylN he
 have hl:z.cps.toList.length=z.length:=by simp [Str.length]
 rw [hl] at h1 h4 h5
 have hn:=yiK
 exact tail_any (typeIs_str s z t) slot_str_getitem.lookup (getItem_str (c:=c) (by
  have e1:decide (i < -(2 ^ 63:Int))=false:=decide_eq_false (by omega)
  have e2:decide (i>=2 ^ 63)=false:=decide_eq_false (by omega)
  rw [e1,e2,Bool.or_false]) (by rw [h1];simpa using h2) ⟨.str ⟨#[c]⟩,H,I.tok _,⟨_,rfl⟩,q⟩) hs
theorem ynW (its:List Value) (n j:Nat) (u:Value):Obj.mapSeq (·.setIfInBounds j u) { cls:=.type "list",data:=.seq its.toArray n }={ cls:=.type "list",data:=.seq (its.set j u).toArray n }:=by
 simp [Obj.mapSeq]
theorem Inv.lst {pins:List (Addr×Obj)}{σ:St}{H:Hp}{s:Shared}{p:Addr}{xs:List V}(I:Inv X pins σ H s) (h:H p=some (.lst xs)) :
  ∃ (its:List Value) (n:Nat),Vals xs its/\s.heap.get? p=some { cls:=.type "list",data:=.seq its.toArray n }/\xs.length<=sizeLine:=by
 obtain ⟨z,its,n,r,e⟩:=I.hok p _ h
 exact ⟨its,n,r,e,z⟩
theorem Inv.lstUpd {pins:List (Addr×Obj)}{σ:St}{H:Hp}{s:Shared}{p:Addr}{xs ys:List V}{its its':List Value}{n n':Nat}{f:Obj->Obj}(I:Inv X pins σ H s) (h:H p=some (.lst xs))
  (ho:s.heap.get? p=some { cls:=.type "list",data:=.seq its.toArray n }) (hf:f { cls:=.type "list",data:=.seq its.toArray n }={ cls:=.type "list",data:=.seq its'.toArray n' }) (r:Vals ys its') (hz:ys.length<=sizeLine) (t:Nat) :
  Inv X pins σ (upd H p (.lst ys)) { s with heap:=s.heap.update p f,toks:=t }:=by
 have e:(s.heap.update p f).get? p=some { cls:=.type "list",data:=.seq its'.toArray n' }:=by
  rw [Heap.get?_update_self f ho (by rw [hf]<;>rfl),hf]
 refine I.write (x:=p) (e:=p) (by rw [h];trivial) (.inl rfl) (fun b u hb q=>(Heap.get?_update_other _ _ (Ne.symm hb)).trans q) ⟨_,e⟩ ?_
 exact ⟨hz,its',n',r,e⟩
def yyF:V->V->V->Hp->(Hp->Prop)->Prop:=fun o i v H Q=>∃ p xs k j,o=.ref p/\i=.int k/\H p=some (.lst xs)/\ixN xs.length k=some j/\Q (upd H p (.lst (xs.set j v)))
theorem set_list:yER X yyF:=by
 intro pins s σ H o i v ov iv u Q I ro ri rv h
 obtain ⟨p,xs,k,j,rfl,rfl,hp,hj,q⟩:=h
 cases ro
 obtain ⟨t,rfl⟩:=ri
 obtain ⟨its,n,r,ho,hz⟩:=I.lst hp
 obtain ⟨h1,h2,h3,h4⟩:=ylM hj
 have hl:=r.length
 have hn:=yiK
 have I':Inv X pins σ (upd H p (.lst (xs.set j v))) { s with heap:=s.heap.update p (Obj.mapSeq (·.setIfInBounds j u)) } :=
  I.lstUpd hp ho (ynW its n j u) (r.set rv j) (by rw [length_set];exact hz) s.toks
 by_cases h0:0<=k
 .have hk:k.toNat=j:=by
   rw [seqIndex_of h0 h4] at h1
   exact Option.some.inj h1
  exact PySem.W.ki_setAt ho h0 (by omega) (by rw [size_toArray,<- hl];exact h4) (by rw [hk];exact ⟨_,I',q⟩)
 .have hk:(k+(its.toArray.size:Int)).toNat=j:=by
   rw [seqIndex_neg (by omega) h3] at h1
   rw [size_toArray,<- hl]
   exact Option.some.inj h1
  exact PySem.W.ki_setBack ho (by omega) (by rw [size_toArray,<- hl];exact h3) (by omega) (by rw [hk];exact ⟨_,I',q⟩)
theorem ykp (lo hi:Option Int) (n:Nat):(sliceBounds lo hi none n).1=((HT.sIx n 0 lo:Nat):Int)/\(sliceBounds lo hi none n).2.1=((HT.sIx n n hi:Nat):Int)/\(sliceBounds lo hi none n).2.2=1:=by
 refine ⟨?_,?_,rfl⟩
 .cases lo with
  | none=>simp [sliceBounds,HT.sIx]
  | some i =>
   simp only [sliceBounds,HT.sIx,Option.getD_none,show (1:Int)>0 by decide,if_true]
   by_cases h:i<0
   .simp only [h,if_true]<;>omega
   .simp only [h,if_false]<;>omega
 .cases hi with
  | none=>simp [sliceBounds,HT.sIx]
  | some i =>
   simp only [sliceBounds,HT.sIx,Option.getD_none,show (1:Int)>0 by decide,if_true]
   by_cases h:i<0
   .simp only [h,if_true]<;>omega
   .simp only [h,if_false]<;>omega
theorem yjv (its:List Value) (lo hi:Option Int):slicePick its.toArray lo hi none=((its.drop (HT.sIx its.length 0 lo)).take (HT.sIx its.length its.length hi-HT.sIx its.length 0 lo)).toArray:=by
 obtain ⟨h1,h2,h3⟩:=ykp lo hi its.toArray.size
 unfold slicePick
 rw [h1,h2,h3]
 simp only [sliceRange_one,pick_run,size_toArray]<;>rfl
def yFg (K:PySem.W.Frag):V->Option Int->Option Int->Hp->VK->Prop:=fun x lo hi H Q=>∃ a xs,x=.ref a/\SqL K H a xs/\∀ p,H p=none->Q (.ref p) (upd H p (.lst (yyE xs lo hi)))
theorem ygC:SlR X (yFg X.K):=by
 intro pins s σ H x v vl vu lo hi sl Q I rx hs pl pu h
 obtain ⟨a,xs,rfl,hx,q⟩:=h
 cases rx
 obtain ⟨its,r,ht,hz⟩:=I.list hx
 have hlen:=r.length
 refine ⟨"list",_,slot_list_getitem.lookup,ht.isList.typeIs,?_⟩
 refine wpAny_getItem_list_slice ht.isList hs pl pu .none (by simp) ?_ (by rw [size_toArray]<;>omega)
 rw [yjv,<- hlen]
 refine ⟨.ref s.heap.objs.size,_,I.laid (t':=s.toks) (o:=.lst (yyE xs lo hi)) (fun b ob q=>Heap.get?_push_of_some _ q) (Nat.le_refl _) ?_,rfl,q _ (I.hok.fresh (Nat.le_refl _))⟩
 exact ⟨Nat.le_trans (ylL xs lo hi) hz,_,0,(r.drop (HT.sIx xs.length 0 lo)).take (HT.sIx xs.length xs.length hi-HT.sIx xs.length 0 lo),Heap.get?_push_size _ rfl⟩
def ygc:V->Bool
 | .non=>true
 | .bl _=>true
 | .int _=>true
 | .str _=>true
 | _=>false
noncomputable def eqV:V->V->Bool
 | .non,.non=>true
 | .bl a,.bl b=>a == b
 | .bl a,.int b=>(if a then 1 else 0) == b
 | .int a,.bl b=>a == (if b then 1 else 0)
 | .int a,.int b=>a == b
 | .str a,.str b=>a == b
 | _,_=>false
theorem ytX {A:Around}{s:Shared}{y x:V}{u v:Value}(ry:RelV y u) (rx:RelV x v) (fy:ygc y=true) (fx:ygc x=true):SeqAt.EqAt A s u v (eqV y x):=by
 cases y with
 | non =>
  cases ry
  cases x with
  | non=>cases rx;exact SeqAt.EqAt.same _
  | bl b=>cases rx;exact SeqAt.EqAt.none_bool b
  | int b=>obtain ⟨t,rfl⟩:=rx;exact SeqAt.EqAt.none_int b t
  | str b=>obtain ⟨t,rfl⟩:=rx;exact SeqAt.EqAt.none_str b t
  | _=>exact absurd (show false=true from fx) Bool.false_ne_true
 | bl a =>
  cases ry
  cases x with
  | non=>cases rx;exact SeqAt.EqAt.bool_none a
  | bl b=>cases rx;exact SeqAt.EqAt.bool_bool a b
  | int b=>obtain ⟨t,rfl⟩:=rx;exact SeqAt.EqAt.bool_int a b t
  | str b=>obtain ⟨t,rfl⟩:=rx;exact SeqAt.EqAt.bool_str a b t
  | _=>exact absurd (show false=true from fx) Bool.false_ne_true
 | int a =>
  obtain ⟨t',rfl⟩:=ry
  cases x with
  | non=>cases rx;exact SeqAt.EqAt.int_none a t'
  | bl b=>cases rx;exact SeqAt.EqAt.int_bool a t' b
  | int b=>obtain ⟨t,rfl⟩:=rx;exact SeqAt.EqAt.int_int a t' b t
  | str b=>obtain ⟨t,rfl⟩:=rx;exact SeqAt.EqAt.int_str a t' b t
  | _=>exact absurd (show false=true from fx) Bool.false_ne_true
 | str a =>
  obtain ⟨t',rfl⟩:=ry
  cases x with
  | non=>cases rx;exact SeqAt.EqAt.str_none a t'
  | bl b=>cases rx;exact SeqAt.EqAt.str_bool a t' b
  | int b=>obtain ⟨t,rfl⟩:=rx;exact SeqAt.EqAt.str_int a t' b t
  | str b=>obtain ⟨t,rfl⟩:=rx;exact SeqAt.EqAt.str_str a t' b t
  | _=>exact absurd (show false=true from fx) Bool.false_ne_true
 | _=>exact absurd (show false=true from fy) Bool.false_ne_true
def eqU (x:V) (u:Value):Bool:=match u with
 | .none=>eqV .non x
 | .bool b=>eqV (.bl b) x
 | .int i _=>eqV (.int i) x
 | .str z _=>eqV (.str z) x
 | _=>false
theorem ytY {x y:V}{u:Value}(r:RelV y u) (f:ygc y=true):eqU x u=eqV y x:=by
 cases y with
 | non=>cases r;rfl
 | bl b=>cases r;rfl
 | int i=>obtain ⟨t,rfl⟩:=r;rfl
 | str z=>obtain ⟨t,rfl⟩:=r;rfl
 | _=>exact absurd (show false=true from f) Bool.false_ne_true
theorem ylO {x:V}:∀ {xs:List V}{us:List Value},Vals xs us->xs.all ygc=true->us.any (eqU x)=xs.any fun y=>eqV y x
 | _,_,.nil,_=>rfl
 | y::xs,u::us,.cons r t,f=>by
  rw [List.all_cons,and_eq_true] at f
  rw [any_cons,any_cons,ytY r f.1,ylO t f.2]
theorem yjw {A:Around}{s:Shared}{x:V}{v:Value}(rx:RelV x v) (fx:ygc x=true):∀ {xs:List V}{us:List Value},Vals xs us->xs.all ygc=true->∀ u∈us,SeqAt.EqAt A s u v (eqU x u)
 | _,_,.nil,_=>fun u hu=>by cases hu
 | y::xs,u::us,.cons r t,f=>fun u' hu=>by
  rw [List.all_cons,and_eq_true] at f
  rcases mem_cons.mp hu with rfl|hu
  .rw [ytY r f.1];exact ytX r rx f.1 fx
  .exact yjw rx fx t f.2 u' hu
def inV (x:V) (xs:List V):Bool:=xs.any fun y=>eqV y x
def rIn (K:PySem.W.Frag) (neg:Bool):R2:=fun x y H Q=>∃ p xs,y=.ref p/\(SqL K H p xs\/SqT K H p xs)/\ygc x=true/\xs.all ygc=true/\Q (.bl (if neg then !inV x xs else inV x xs)) H
theorem yhK:OpR X (compareOp .In) (rIn X.K false):=by
 intro pins s σ H x y v u Q I rx ry h
 obtain ⟨p,xs,rfl,hq,fx,fs,q⟩:=h
 cases ry
 rcases hq with hq|hq
 .obtain ⟨its,r,pl,hz⟩:=I.list hq
  refine SeqAt.in_listAt (eqU x) pl.isList (fun w hw=>yjw rx fx r fs w (by simpa using hw)) ⟨.bl _,H,I,rfl,?_⟩
  rw [show its.toArray.any (eqU x)=its.any (eqU x) by simp,ylO r fs]
  exact q
 .obtain ⟨its,r,pl,hz⟩:=I.tuple hq
  refine SeqAt.in_tupleAt (eqU x) pl (fun w hw=>yjw rx fx r fs w (by simpa using hw)) ⟨.bl _,H,I,rfl,?_⟩
  rw [show its.toArray.any (eqU x)=its.any (eqU x) by simp,ylO r fs]
  exact q
theorem ydk:CallR X (.builtin "len") (fun xs H Q=>∃ p ys,xs=[.ref p]/\(SqL X.K H p ys\/SqT X.K H p ys)/\Q (.int ys.length) H):=by
 intro pins s σ H xs us Q I r h
 obtain ⟨p,ys,rfl,hq,q⟩:=h
 obtain ⟨u,rfl,rx⟩:=vals1 r
 cases rx
 have hn:=yiK
 rcases hq with hq|hq
 .obtain ⟨its,r',pl,hz⟩:=I.list hq
  have hlen:=r'.length
  exact Calls.call_len_list pl.isList (by simp only [size_toArray]<;>omega) ⟨.int ys.length,H,I.tok _,⟨s.toks+1,by rw [size_toArray,hlen]⟩,q⟩
 .obtain ⟨its,r',pl,hz⟩:=I.tuple hq
  have hlen:=r'.length
  exact len_tuple pl (by simp only [size_toArray]<;>omega) ⟨.int ys.length,H,I.tok _,⟨s.toks+1,by rw [size_toArray,hlen]⟩,q⟩
theorem yfb:CallR X (.builtin "len") (fun xs H Q=>∃ z,xs=[.str z]/\z.length<=sizeLine/\Q (.int z.length) H):=by
 intro pins s σ H xs us Q I r h
 obtain ⟨z,rfl,hz,q⟩:=h
 obtain ⟨u,rfl,t,rfl⟩:=vals1 r
 have hn:=yiK
 exact len_str (by omega) ⟨.int z.length,H,I.tok _,⟨_,rfl⟩,q⟩
theorem CallR.or {f:Value}{r r':List V->Hp->VK->Prop}(h:CallR X f r) (h':CallR X f r'):CallR X f (fun xs H Q=>r xs H Q\/r' xs H Q):=by
 intro pins s σ H xs us Q I rs q
 rcases q with q|q
 .exact h pins s σ H xs us Q I rs q
 .exact h' pins s σ H xs us Q I rs q
theorem ycs:CallR X (.type "list") (fun xs H Q=>∃ p ys,xs=[.ref p]/\(SqL X.K H p ys\/SqT X.K H p ys)/\∀ l,H l=none->Q (.ref l) (upd H l (.lst ys))):=by
 intro pins s σ H xs us Q I r h
 obtain ⟨p,ys,rfl,hq,q⟩:=h
 obtain ⟨u,rfl,rx⟩:=vals1 r
 cases rx
 have fin:∀ (its:List Value),Vals ys its->ys.length<=sizeLine->∀ (h':Heap) (c':Nat),(∀ b o',s.heap.get? b=some o'->h'.get? b=some o') ->
   h'.get? s.heap.objs.size=some { cls:=.type "list",dict:=none,data:=.seq its.toArray c',slots:=#[] }->EP X pins σ Q (.ref s.heap.objs.size) { s with heap:=h' }:=fun its r' hz h' c' kp e =>
  ⟨.ref s.heap.objs.size,_,I.laid (t':=s.toks) kp (Nat.le_refl _) (show ObjOk X.prog X.w _ h' _ (.lst ys) from ⟨hz,its,c',r',e⟩),rfl,q _ (I.hok.fresh (Nat.le_refl _))⟩
 rcases hq with hq|hq
 .obtain ⟨its,r',pl,hz⟩:=I.list hq
  have hlen:=r'.length
  obtain ⟨o,ho,hc,n,hd⟩:=pl.isList
  exact call_list_seq p (.inl rfl) ho hc hd (fun h' c' kp e=>fin its r' hz h' c' kp e) (by simp only [size_toArray]<;>omega)
 .obtain ⟨its,r',pl,hz⟩:=I.tuple hq
  have hlen:=r'.length
  obtain ⟨o,ho,hc,n,hd⟩:=pl
  exact call_list_seq p (.inr rfl) ho hc hd (fun h' c' kp e=>fin its r' hz h' c' kp e) (by simp only [size_toArray]<;>omega)
def tyV (K:PySem.W.Frag) (T:String) (x:V) (H:Hp):Prop:=match x with
 | .str _=>T = "str"
 | .int _=>T = "int"
 | .ref p=>(T = "list"/\∃ xs,SqL K H p xs)\/(T = "tuple"/\∃ o,K.lookup p=some o/\o.cls=.type "tuple"/\o.dict=none) \/
   (T = "dict"/\((∃ kvs,H p=some (.dK kvs))\/∃ kvs,H p=some (.dT kvs)))\/(T = "set"/\∃ S n,H p=some (.set S n))
 | _=>False
theorem yyG {pins:List (Addr×Obj)}{σ:St}{H:Hp}{s:Shared}{T:String}{x:V}{v:Value}(I:Inv X pins σ H s) (r:RelV x v) (ty:tyV X.K T x H) :
  s.TypeIs v T/\∀ a,v=.ref a->∃ ob,s.heap.get? a=some ob/\ob.dict=none:=by
 cases x with
 | str z =>
  obtain ⟨t,rfl⟩:=r
  cases (show T = "str" from ty)
  exact ⟨typeIs_str s z t,fun _ e=>nomatch e⟩
 | int i =>
  obtain ⟨t,rfl⟩:=r
  cases (show T = "int" from ty)
  exact ⟨typeIs_int s i t,fun _ e=>nomatch e⟩
 | ref p =>
  cases r
  rcases ty with ⟨rfl,xs,hq⟩|⟨rfl,o,hk,hc,hd⟩|⟨rfl,hk⟩|⟨rfl,S,n,hk⟩
  .obtain ⟨its,_,pl,_⟩:=I.list hq
   refine ⟨pl.isList.typeIs,fun a e=>?_⟩
   cases e
   obtain ⟨o,n,e,c,hd,_⟩:=pl
   exact ⟨o,e,hd⟩
  .refine ⟨⟨o,I.kIn p o hk,hc⟩,fun a e=>?_⟩
   cases e
   exact ⟨o,I.kIn _ o hk,hd⟩
  .have z:∃ o,s.heap.get? p=some o/\o.ExactDict:=by
    rcases hk with ⟨kvs,hk⟩|⟨kvs,hk⟩
    .obtain ⟨_,_,_,_,o,_,_,e,ex,_⟩:=I.hok p _ hk
     exact ⟨o,e,ex⟩
    .obtain ⟨_,_,_,_,o,_,_,e,ex,_⟩:=I.hok p _ hk
     exact ⟨o,e,ex⟩
   obtain ⟨o,e,ex⟩:=z
   refine ⟨⟨o,e,ex.1⟩,fun a e2=>?_⟩
   cases e2
   exact ⟨o,e,ex.2.1⟩
  .obtain ⟨o,_,_,_,e,ex,_⟩:=I.hok p _ hk
   refine ⟨⟨o,e,ex.1⟩,fun a e2=>?_⟩
   cases e2
   exact ⟨o,e,ex.2.1⟩
 | _=>exact False.elim ty
def tBM (K:PySem.W.Frag) (T:String) (r:V->List V->Hp->VK->Prop) (to:TE) (t:TA):TE:=fun σ H Q=>to σ H fun x H1=>tyV K T x H1/\t σ H1 fun xs H2=>r x xs H2 Q
variable {o e:Expr}{es:List Expr}{to:TE}{t:TA}{name:Str}{apos cpos:Pos}{T id:String}{r:V->List V->Hp->VK->Prop}
theorem yrZ (pa:PlainAttrs T) (slot:Slot T name id) (hty:typeOf (.builtin id)=pure (.type "method_descriptor")) (hm:MtR X id r) (ho:PE X o to) (ha:PA X (e::es) t)
  (hbase:attributeBase o name X.env (eval o X.env)=eval o X.env:=by rfl)
  (hfew:((backTo cpos (starEach (e::es) X.env)).all (fun x=>!x.1) && (backToKw cpos (keywordEach [] X.env)).all (fun x=>x.1.isSome)
   && decide ((e::es).length+([]:List Keyword).length+(if ([]:List Keyword).isEmpty then 0 else 1)<30))=true:=by rfl)
  (hline:(apos.endLine == cpos.line)=true:=by rfl) (hs:starEach (e::es) X.env=(false,eval e X.env)::starEach es X.env:=by rfl) (hplain:(backTo cpos (starEach es X.env)).any (·.1)=false:=by rfl) :
  PE X (.Call (.Attribute o name apos) (e::es) [] cpos) (tBM X.K T r to t):=by
 intro pins s σ H Q I h
 refine wpAny_Call_method_late hbase hfew hline rfl (thn (ho pins s σ H _ I h) fun v s1 ⟨x,H1,I1,r1,ty,q1⟩=>?_)
 obtain ⟨h1,h2⟩:=yyG I1 r1 ty
 refine ⟨T,id,pa,slot,hty,h1,h2,?_⟩
 have hA:=ha cpos pins s1 σ H1 _ I1 q1
 rw [hs] at hA ⊢
 refine Calls.callWith_builtin (by show (false || (backTo cpos (starEach es X.env)).any (·.1))=false;rw [hplain]<;>rfl) (Calls.evalArgs_plain ?_)
 exact thn hA fun us s2 ⟨vs,H2,I2,r2,q2⟩=>hm pins s2 σ H2 x vs v us Q I2 r1 r2 q2
end
end L2
namespace L2
open PySem PySem.Spec PyProof.Rows
def MtM (X:Cx) (id:String) (r:V->List V->Hp->VK->Prop):Prop :=
 ∀ (pins:List (Addr×Obj)) (s:Shared) (σ:St) (H:Hp) (x:V) (xs:List V) (v:Value) (us:List Value) (Q:VK),Inv X pins σ H s->RelV x v->Vals xs us->r x xs H Q ->
  wpAny (model X.prog X.w) X.A (call (.builtin id) (v::us)) (EP X pins σ Q) X.xe s
theorem Vals.one:∀ {x:V}{us:List Value},Vals [x] us->∃ u,us=[u]/\RelV x u
 | _,_,.cons r .nil=>⟨_,rfl,r⟩
theorem Vals.two:∀ {x y:V}{us:List Value},Vals [x,y] us->∃ u v,us=[u,v]/\RelV x u/\RelV y v
 | _,_,_,.cons r (.cons q .nil)=>⟨_,_,rfl,r,q⟩
theorem Vals.eraseIdx:∀ {xs:List V}{us:List Value}(i:Nat),Vals xs us->Vals (xs.eraseIdx i) (us.eraseIdx i)
 | _,_,_,.nil=>.nil
 | _,_,0,.cons _ t=>t
 | _,_,i+1,.cons r t=>.cons r (Vals.eraseIdx i t)
theorem Vals.rep {xs:List V}{us:List Value}(h:Vals xs us):∀ k:Nat,Vals (replicate k xs).flatten (replicate k us).flatten
 | 0=>.nil
 | k+1=>by
  rw [List.replicate_succ,List.replicate_succ,List.flatten_cons,List.flatten_cons]
  exact Vals.append h (Vals.rep h k)
theorem ykq {α:Type}:∀ (l:List α) (i:Nat),(l.eraseIdx i).length<=l.length
 | [],_=>Nat.le_refl _
 | _::_,0=>Nat.le_succ _
 | _::r,i+1=>Nat.succ_le_succ (ykq r i)
theorem foldl_rep (its:List Value):∀ (k:Nat) (acc:List Value),
  List.foldl (fun x1 x2=>x1++x2) acc.toArray (replicate k its.toArray)=(acc++(replicate k its).flatten).toArray
 | 0,acc=>by simp
 | k+1,acc=>by
  have e:acc.toArray++its.toArray=(acc++its).toArray:=by simp
  have e2:(acc++its)++(replicate k its).flatten=acc++(replicate (k+1) its).flatten:=by
   rw [List.replicate_succ,List.flatten_cons,append_assoc]
  rw [<- e2,<- foldl_rep its k (acc++its),<- e,List.replicate_succ,List.foldl_cons]
section
variable {X:Cx}{pins:List (Addr×Obj)}{σ:St}{H:Hp}{s:Shared}{l b:Addr}{xs ys zs:List V}
theorem Inv.lset {its its':List Value}{n:Nat}{f:Array Value->Array Value}{t':Nat}(I:Inv X pins σ H s) (hH:H l=some (.lst xs))
  (e:s.heap.get? l=some { cls:=.type "list",data:=.seq its.toArray n }) (hf:f its.toArray=its'.toArray) (hv:Vals ys its') (hz:ys.length<=sizeLine) :
  Inv X pins σ (upd H l (.lst ys)) { s with heap:=s.heap.update l (Obj.mapSeq f),toks:=t' }:=by
 have q:=PySem.IsL.update e f
 rw [hf] at q
 refine I.write (x:=l) (e:=l) (by rw [hH];exact trivial) (.inl rfl) (fun b' u hb hu=>(Heap.get?_update_other s.heap (Obj.mapSeq f) (Ne.symm hb)).trans hu) ⟨_,q⟩ ?_
 exact ⟨hz,its',_,hv,q⟩
theorem Inv.lnew {its:List Value}{t':Nat}(I:Inv X pins σ H s) (hv:Vals ys its) (hz:ys.length<=sizeLine) :
  Inv X pins σ (upd H s.heap.objs.size (.lst ys)) { s with heap:=s.heap.push { cls:=.type "list",data:=.seq its.toArray },toks:=t' } :=
 I.laid (fun _ _ q=>Heap.get?_push_of_some _ q) (Nat.le_refl _) ⟨hz,its,0,hv,Heap.get?_push_size _ rfl⟩
theorem Inv.fresh (I:Inv X pins σ H s):H s.heap.objs.size=none:=I.hok.fresh (Nat.le_refl _)
theorem Inv.lstM (I:Inv X pins σ H s) (hH:H l=some (.lst xs)):xs.length<=sizeLine/\∃ (its:List Value) (n:Nat),Vals xs its/\xs.length=its.length/\s.heap.get? l=some { cls:=.type "list",data:=.seq its.toArray n }:=by
 obtain ⟨z,its,n,r,e⟩:=I.hok l _ hH
 exact ⟨z,its,n,r,r.length,e⟩
theorem ysa {n:Nat}(h:n<=sizeLine):Builtin.List.listTooLong n=false:=by
 unfold Builtin.List.listTooLong
 exact decide_eq_false (by omega)
end
section
variable {X:Cx}
noncomputable def ypC:V->List V->Hp->VK->Prop:=fun x vs H Q=>∃ l xs y,x=.ref l/\vs=[y]/\H l=some (.lst xs)/\xs.length<sizeLine/\Q .non (upd H l (.lst (xs++[y])))
theorem ygd:MtM X "list.append" ypC:=by
 intro pins s σ H x vs v us Q I rx rv h
 obtain ⟨l,xs,y,rfl,rfl,hH,hz,q⟩:=h
 cases rx
 obtain ⟨u,rfl,ru⟩:=rv.one
 obtain ⟨z,its,n,r,hl,e⟩:=I.lstM hH
 refine call_meets F.slot_list_append ⟨_,e,rfl⟩ F.entry_list_append (F.args_list_append_2 _ _) (PySem.list_append l its.toArray n u (by rw [size_toArray];omega)) ⟨e,?_⟩
 refine ⟨.non,_,I.lset (its':=its++[u]) hH e (by simp) (r.append (.cons ru .nil)) ?_,rfl,q⟩
 rw [length_append,List.length_singleton]
 omega
noncomputable def yyH:V->List V->Hp->VK->Prop:=fun x vs H Q=>∃ l xs i k y,x=.ref l/\vs=[.int i]/\H l=some (.lst xs)/\-(2 ^ 63)<=i/\i<2 ^ 63/\seqIndex? i xs.length=some k/\xs[k]?=some y/\Q y (upd H l (.lst (xs.eraseIdx k)))
theorem ysb:MtM X "list.pop" yyH:=by
 intro pins s σ H x vs v us Q I rx rv h
 obtain ⟨l,xs,i,k,y,rfl,rfl,hH,h1,h2,hk,hy,q⟩:=h
 cases rx
 obtain ⟨u,rfl,ru⟩:=rv.one
 obtain ⟨t,rfl⟩:=ru
 obtain ⟨z,its,n,r,hl,e⟩:=I.lstM hH
 obtain ⟨w,hw,rw'⟩:=r.get hy
 refine call_meets F.slot_list_pop ⟨_,e,rfl⟩ F.entry_list_pop (F.args_list_pop_2 _ _)
  (MeetsSeq.list_pop_at l its.toArray n i t k w (fitsIndex_both h1 h2) (by rw [size_toArray,<- hl];exact hk) (by rw [<- Array.getElem?_toList];exact hw) (by rw [size_toArray];omega)) ⟨e,?_⟩
 refine ⟨y,_,I.lset (its':=its.eraseIdx k) hH e ?_ (r.eraseIdx k) ?_,rw',q⟩
 .show its.toArray.eraseIdxIfInBounds k=(its.eraseIdx k).toArray
  rw [List.eraseIdxIfInBounds_toArray]
 .have:=ykq xs k
  omega
noncomputable def yFh:R2:=fun x y H Q=>∃ l b xs zs,x=.ref l/\y=.ref b/\H l=some (.lst xs)/\H b=some (.lst zs)/\xs.length+zs.length<=sizeLine/\∀ p,H p=none->Q (.ref p) (upd H p (.lst (xs++zs)))
theorem yeg:OpR X (binaryOp .Add) yFh:=by
 intro pins s σ H x y v u Q I rx ry h
 obtain ⟨l,b,xs,zs,rfl,rfl,hH,hB,hz,q⟩:=h
 cases rx
 cases ry
 obtain ⟨z,its,n,r,hl,e⟩:=I.lstM hH
 obtain ⟨z2,its2,n2,r2,hl2,e2⟩:=I.lstM hB
 refine PySem.P.add_list e e2 ?_ (by rw [size_toArray,size_toArray];omega)
 have ea:its.toArray++its2.toArray=(its++its2).toArray:=by simp
 rw [ea]
 exact ⟨.ref _,_,I.lnew (t':=s.toks) (r.append r2) (by rw [length_append];omega),rfl,q _ I.fresh⟩
noncomputable def yFi:R2:=fun x y H Q=>∃ l k xs,x=.ref l/\y=.int k/\H l=some (.lst xs)/\-(2 ^ 63)<=k/\k<2 ^ 63/\xs.length*k.toNat<=sizeLine /\
 ∀ p,H p=none->Q (.ref p) (upd H p (.lst (replicate k.toNat xs).flatten))
theorem len_rep {α:Type}(xs:List α) (k:Nat):(replicate k xs).flatten.length=k*xs.length:=by
 induction k with
 | zero=>simp
 | succ k ih=>rw [List.replicate_succ,List.flatten_cons,length_append,ih,Nat.succ_mul,Nat.add_comm]
theorem yyI:OpR X (binaryOp .Mult) yFi:=by
 intro pins s σ H x y v u Q I rx ry h
 obtain ⟨l,k,xs,rfl,rfl,hH,h1,h2,hz,q⟩:=h
 cases rx
 obtain ⟨t,rfl⟩:=ry
 obtain ⟨z,its,n,r,hl,e⟩:=I.lstM hH
 have hlen:its.toArray.size*k.toNat<=sizeLine:=by rw [size_toArray,<- hl];exact hz
 have hcap:¬ its.toArray.size*k.toNat>(2 ^ 63-1)/8:=by
  have:(sizeLine:Nat)<=(2 ^ 63-1)/8:=by decide
  omega
 have hfit:¬ (!Builtin.List.listFitsIndex k)=true:=by
  rw [fitsIndex_both h1 h2]
  exact Bool.false_ne_true
 have hlong:¬ Builtin.List.listTooLong (its.toArray.size*k.toNat)=true:=by
  rw [ysa hlen]
  exact Bool.false_ne_true
 have hnew:List.foldl (fun x1 x2=>x1++x2) #[] (replicate (if its.toArray.isEmpty=true then 0 else k.toNat) its.toArray)=(replicate k.toNat its).flatten.toArray:=by
  have f0:∀ m:Nat,List.foldl (fun x1 x2=>x1++x2) #[] (replicate m its.toArray)=(replicate m its).flatten.toArray:=fun m=>by
   have:=foldl_rep its m []
   rw [List.nil_append] at this
   exact this
  rw [f0]
  cases its with
  | nil=>simp
  | cons a r'=>rw [if_neg (by simp)]
 refine wpAny_binaryOp_repeat_ref (T:="list") (U:="int") (by decide) ⟨_,e,rfl⟩ (fun s'=>typeIs_int s' k t) noFill_list_mul F.fills_int_mul F.slot_int_rmul repeat_list F.slot_int_index.lookup
  (call_meets F.slot_int_rmul (typeIs_int s k t) F.entry_int_rmul (F.args_int_rmul_2 _ _) (int___rmul___int_list k t l its.toArray n)
   ⟨e,rfl,⟨_,e,rfl⟩,call_meets F.slot_list_mul ⟨_,e,rfl⟩ F.entry_list_mul (F.args_list_mul_2 _ _) (AutoListH.list___mul___list_int_3 l its.toArray n k t hfit hcap hlong) ⟨e,?_⟩⟩)
 rw [hnew]
 exact ⟨.ref _,_,I.lnew (t':=s.toks) (r.rep k.toNat) (by rw [len_rep,Nat.mul_comm];exact hz),rfl,q _ I.fresh⟩
end
section
variable {prog:Program}{w:World}{A:Around}{E:Value->Shared->Prop}{s:Shared}
end
section
variable {X:Cx}
end
end L2
namespace Att
open PySem PySem.W PySem.Calls PyProof.Rows
theorem yhL {P:Params}{h:Heap}:∀ (ns:List Int) (vs:List Value),WellAll P h vs (ns.map WData.int)->IntsAre vs ns:=by
 intro ns
 induction ns with
 | nil =>
  intro vs w
  rw [map_nil] at w
  cases w
  exact .nil
 | cons n ns ih =>
  intro vs w
  rw [map_cons] at w
  cases w with
  | cons a b =>
   cases a
   exact .cons _ _ (ih _ b)
theorem ypD {l:OpenLaw}{n:Nat}(hn:l.most=some n) {P:Params}{h:Heap}{args:List WData}{vals:List Value}
  (hpre:l.row.toRowW.claim.pre args=true) (hwl:WellAll P h vals args) :
  ∃ a vs ns,vals=[Value.ref a]/\args=[WData.list (ns.map WData.int)]/\h.get? a=some { cls:=.type "list",data:=.seq vs.toArray }/\IntsAre vs ns/\ns.length<=n:=by
 have hsh:WShape.hasAll [] args [.list .int]=true:=(pre_splitW hpre).1
 have hc:l.pre.holds [] { args:=args }=true:=(pre_splitW hpre).2
 obtain ⟨d,r,rfl,h1,h2⟩:=hasAllW_cons hsh
 obtain rfl:=hasAllW_nil h2
 obtain ⟨xs,rfl,h3⟩:=hasW_list h1
 obtain ⟨ns,rfl⟩:=items_int h3
 have hlen:ns.length<=n:=by
  unfold OpenLaw.pre at hc
  have h4:(WTm.not (.lt (.lit (.int (n:Int))) (.len (.arg 0)))).holds [] { args:=[.list (ns.map .int)] }=true:=by
   have h4:=(holds_andW hc).1
   rw [hn] at h4
   exact h4
  have h5:=condW_of h4 (w_not (w_lt w_lit (w_len_list (w_arg rfl))))
  rw [length_map] at h5
  refine Nat.le_of_not_lt fun q=>?_
  have q':(n:Int)<((ns.length:Nat):Int):=by omega
  first
   | (rw [decide_eq_true q'] at h5;exact absurd h5 (by decide))
   | (simp at h5;omega)
 cases hwl with
 | cons w1 w2 =>
  cases w2
  cases w1 with
  | list ho hall=>exact ⟨_,_,ns,rfl,rfl,ho,yhL ns _ hall,hlen⟩
theorem ypE (l:OpenLaw) (args:List WData):l.row.toRowW.claim.post args (.bool true) args=true :=
 postW_of (r:=l.row.toRowW) (X:=(true == true))
  (show WShape.has [] (.bool true) .bool=true by first|rfl|decide|simp [WShape.has,WShape.arms,WShape.armsAll])
  (show (WTm.eq .res (.lit (.bool true))).value [] { args:=args,res:=some (.bool true),after:=args }=some (.bool (true == true)) from w_eq_bool (w_res rfl) w_lit) rfl
theorem attach_call {l:OpenLaw}{n:Nat}{q:Program}{loose:List Str}{XP:(Str->Option Value)->Heap->Prop}{YP:World->Heap->Prop}{d:DefRec}
  (hn:l.most=some n) (hdf:d.params.defaults=[])
  (call:∀ (w:World) (s₀ s₁:Shared) (mg mb:Str->Option Value) (fa:Addr) (o:Obj) (pm cd doc:Value) (a:Addr) (vs:List Value) (ns:List Int),
   Ground q loose [] XP w s₀ mg mb s₁.heap->YP w s₁.heap ->
   s₁.heap.get? fa=some o->o.data=.func (docDef d.name d.params d.body d.scope pm cd doc)->s₁.heap.CodeRec cd d.name->mg d.name=some (.ref fa) ->
   s₁.heap.get? a=some { cls:=.type "list",data:=.seq vs.toArray }->IntsAre vs ns->ns.length<=n->s₁.gens = #[] ->
   codeAny (model l.prog w) callerA (.call (.ref fa) ⟨[.ref a],[]⟩) (fun r s'=>r=.ok (.ret (.bool true))/\OldK s₁.heap s'.heap/\s'.os=s₁.os/\AllBare s'.gens) s₁) :
  WalkO q loose XP YP l.row.toRowW d [] (fun f vs=>PySem.call f vs):=by
 intro w s₀ s₁ mg mb G Y fa o pm cd doc dV kV ho hd hcd hD hmg hg args vals as hpre hlay hrd hwl hlo
 obtain rfl:dV=.none:=Dflts.none hD hdf
 obtain rfl:kV=.none:=Dflts.noKw hD
 obtain ⟨a,vs,ns,rfl,rfl,hobj,hints,hlen⟩:=ypD hn hpre hwl
 refine enter_call (codeAny_mono (call w s₀ s₁ mg mb fa o pm cd doc a vs ns G Y ho (fd_plain hd) hcd hmg hobj hints hlen hg) fun r s' hq=>?_)
 obtain ⟨rfl,h2,h3,h4⟩:=hq
 exact ⟨.inl ⟨.bool true,.bool true,[],rfl,fun _=>rfl,.bool true,ypE l _,fun _=>⟨List.Pairwise.nil,fun _ hm=>(nomatch hm)⟩⟩,h2,h3,h4⟩
section
variable {prog:Program}{w:World}{A:Around}{E:Value->Shared->Prop}{s:Shared}{K:Frag}
end
end Att
namespace L2
open PySem PySem.Spec PyProof.Rows
theorem yhM:∀ {vs:List Value}{ns:List Int},IntsAre vs ns->Vals (ns.map V.int) vs
 | _,_,.nil=>.nil
 | _,_,.cons n t h=>.cons ⟨t,rfl⟩ (yhM h)
def yCh (H:Hp):Prop:=∀ b,H b=none\/∃ o xs,H b=some (.frz o (.lst xs))
theorem ysc {P:Program}{w:World}{K:PySem.W.Frag}{mg mb:Str->Option Value}{CX:CXT}{k:Nat}{fa a:Addr}{fd:FuncData}{x:Str}{sp:Sp}{s₁:Shared}{vs:List Value}{ns:List Int}
  (KX:K.In s₁.heap) (hns:s₁.heap.Ns mainGlobals mg) (hb:s₁.heap.Ns builtinsNs mb) (hbb:∀ x:Str,x≠"__name__"->mb x=bootBuiltins x) (hlim:s₁.heap.NoLimit) (hg:s₁.gens = #[])
  (ha:s₁.heap.get? a=some { cls:=.type "list",data:=.seq vs.toArray }) (hi:IntsAre vs ns) (hl:ns.length<=sizeLine) (hr:Room k callerA)
  (F:∀ base:Heap,K.In base->base.Ns mainGlobals mg->FnOk P w K mg base CX k fa fd [x] sp) (hbind:∀ (s:Shared) (u:Value),BindsTo s fd ⟨[u],[]⟩ [(x,u)])
  (hsp:∀ H:Hp,yCh H->SqL K H a (ns.map V.int)->sp [.ref a] H (fun v _=>v=.bl true) fun _ _ _=>False)
  (hCX:∀ H e s',CX [] H s₁ (fun _ _ _=>False) e s'->False) :
  codeAny (model P w) callerA (.call (.ref fa) ⟨[.ref a],[]⟩) (fun r s'=>r=.ok (.ret (.bool true))/\OldK s₁.heap s'.heap/\s'.os=s₁.os/\AllBare s'.gens) s₁:=by
 have rv:=yhM hi
 have lenV:=hi.length
 have core:∀ H:Hp,yCh H->SqL K H a (ns.map V.int)->HOk P w H s₁.heap->(∀ b,H b≠none->b=a)->(H a≠none->K.lookup a=none) ->
   codeAny (model P w) callerA (.call (.ref fa) ⟨[.ref a],[]⟩) (fun r s'=>r=.ok (.ret (.bool true))/\OldK s₁.heap s'.heap/\s'.os=s₁.os/\AllBare s'.gens) s₁:=by
  intro H hO hS hok hA hK
  have base_of:∀ {b:Addr}{o:Obj},s₁.heap.get? b=some o->H b=none->(yrK s₁.heap H).get? b=some o:=fun e n=>yrL e n
  have noA:∀ {b:Addr}{o:Obj}{es:Array DictEntry}{ep:Nat},s₁.heap.get? b=some o->o.data=.dict es ep->H b=none:=fun {b o es ep} e d=>by
   cases q:H b with
   | none=>rfl
   | some u =>
    have e':b=a:=hA b (by rw [q];simp)
    subst e'
    rw [ha] at e;cases e
    have d':Data.seq vs.toArray _=Data.dict es ep:=d
    cases d'
  have nsK:∀ {b:Addr}{m:Str->Option Value},s₁.heap.Ns b m->(yrK s₁.heap H).Ns b m:=fun {b m} ⟨o,es,ep,e,d,r⟩=>⟨o,es,ep,base_of e (noA e d),d,r⟩
  have hKb:K.In (yrK s₁.heap H):=fun b o e=>base_of (KX b o e) (by
   cases q:H b with
   | none=>rfl
   | some u =>
    have e':b=a:=hA b (by rw [q];simp)
    subst e'
    rw [hK (by rw [q];simp)] at e;cases e)
  have hM:Mod K mg (yrK s₁.heap H):=⟨hKb,nsK hns,⟨mb,nsK hb,hbb⟩,let ⟨mc,h1,h2⟩:=hlim;⟨mc,nsK h1,h2⟩⟩
  have e0:Env0 P w K mg (yrK s₁.heap H) callerA [] s₁ H:=⟨rfl,hM,fun b o e=>yva e,le_of_eq (ypb _ _),trivial,fun b hb=>absurd (show b∈([]:List Addr) from hb) (by simp),hok,.of_eq hg⟩
  refine codeAny_mono ((F _ hKb (nsK hns)).run callerA [] s₁ H ⟨[.ref a],[]⟩ [.ref a] [.ref a] _ _ hr e0 (hbind s₁ (.ref a)) (.cons rfl .nil) (hsp H hO hS)) fun r s' h=>?_
  cases r with
  | error e=>exact (hCX H e s' h).elim
  | ok fl =>
   cases fl with
   | next=>exact False.elim h
   | brk=>exact False.elim h
   | cont=>exact False.elim h
   | ret u =>
    obtain ⟨v,H',os,bare,un,hok',r',q⟩:=h
    have q':v=.bl true:=q
    subst q'
    obtain rfl:u=Value.bool true:=r'
    refine ⟨rfl,OldK.of_keep fun b o e=>?_,os,bare⟩
    cases q:H b with
    | none=>exact un.keep b o e q (by intro z;exact absurd (show b∈([]:List Addr) from z) (by simp)) (by simp)
    | some u =>
     rcases hO b with z|⟨ob,xs,z⟩
     .rw [q] at z;cases z
     .have z2:=un.frzs b ob _ z
      obtain ⟨e1,_⟩:=hok b _ z
      obtain ⟨e2,_⟩:=hok' b _ z2
      rw [e] at e1;cases e1
      exact e2
 cases hk:K.lookup a with
 | some o =>
  have e:=KX a o hk
  rw [ha] at e
  cases e
  refine core (fun _=>none) (fun _=>.inl rfl) (.inr ⟨_,vs.toArray,_,hk,rfl,rfl,rfl,by rw [size_toArray,lenV];exact hl,by simpa using rv⟩) (fun b u z=>by have z':(none:Option HO)=some u:=z;cases z') (fun b z=>absurd rfl z) fun z=>absurd rfl z
 | none =>
  refine core (fun b=>if b=a then some (.frz { cls:=.type "list",data:=.seq vs.toArray } (.lst (ns.map V.int))) else none) (fun b=>?_) (.inl (.inr ⟨{ cls:=.type "list",data:=.seq vs.toArray },if_pos rfl⟩)) (fun b u z=>?_) (fun b z=>?_) fun _=>hk
  .by_cases hb:b=a
   .exact .inr ⟨_,_,if_pos hb⟩
   .exact .inl (if_neg hb)
  .by_cases hb:b=a
   .have z':=(if_pos hb).symm.trans z
    cases z'
    subst hb
    exact ⟨ha,by rw [length_map];exact hl,vs,_,rv,ha⟩
   .have z':=(if_neg hb).symm.trans z
    cases z'
  .by_cases hb:b=a
   .exact hb
   .exact absurd (if_neg hb) z
end L2
namespace L2
open PySem PySem.Spec PyProof.Rows
theorem walk_of {l:PySem.W.OpenLaw}{n k:Nat}{q:Program}{loose:List Str}{XP:(Str->Option Value)->Heap->Prop}{YP:World->Heap->Prop}{d:DefRec}{K:Params->PySem.W.Frag}{CX:World->CXT}{sp:World->Sp}{x:Str}
  (hn:l.most=some n) (hn2:n<=sizeLine) (hdf:d.params.defaults=[]) (hr:Room k callerA)
  (hY:∀ (w:World) (h:Heap),YP w h->(K w.params).In h)
  (F:∀ (w:World) (mg:Str->Option Value) (fa:Addr) (h:Heap),(K w.params).In h->h.Ns mainGlobals mg->mg d.name=some (.ref fa) ->
   ∃ fd:FuncData,(∀ (s:Shared) (u:Value),BindsTo s fd ⟨[u],[]⟩ [(x,u)]) /\
    ∀ base:Heap,(K w.params).In base->base.Ns mainGlobals mg->FnOk l.prog w (K w.params) mg base (CX w) k fa fd [x] (sp w))
  (hsp:∀ (w:World) (H:Hp) (a:Addr) (ns:List Int),ns.length<=n->yCh H->SqL (K w.params) H a (ns.map V.int)->sp w [.ref a] H (fun v _=>v=.bl true) fun _ _ _=>False)
  (hCX:∀ (w:World) (H:Hp) (s:Shared) (e:Value) (s':Shared),CX w [] H s (fun _ _ _=>False) e s'->False) :
  PySem.W.WalkO q loose XP YP l.row.toRowW d [] (fun f vs=>PySem.call f vs):=by
 refine Att.attach_call hn hdf fun w s₀ s₁ mg mb fa o pm cd doc a vs ns G Y ho hd hcd hmg hobj hints hlen hg=>?_
 have KX:=hY w _ Y
 obtain ⟨fd,hb,hF⟩:=F w mg fa _ KX G.T.g hmg
 exact ysc KX G.T.g G.T.b G.T.builtins G.T.nolimit hg hobj hints (Nat.le_trans hlen hn2) hr hF hb (fun H hO hS=>hsp w H a ns hlen hO hS) fun H e s'=>hCX w H s₁ e s'
end L2
namespace L2
open PySem PySem.Spec PyProof.Rows
noncomputable def inClass (s:Stmt) (j:Nat):Stmt:=match s with
 | .ClassDef _ _ _ body _ _ _ _ _ _ _=>body.getD j (.Pass ⟨0,0,0,0⟩)
 | _=>.Pass ⟨0,0,0,0⟩
noncomputable def ylP (s:Stmt):Arguments:=match s with
 | .FunctionDef _ a _ _ _ _ _ _ _ _=>a
 | _=>{ posonlyargs:=[],args:=[],vararg:=none,kwonlyargs:=[],kw_defaults:=[],kwarg:=none,defaults:=[] }
def yfR (s:Stmt):List Stmt:=match s with
 | .FunctionDef _ _ b _ _ _ _ _ _ _=>b
 | _=>[]
noncomputable def ybE (s:Stmt):Scope:=match s with
 | .FunctionDef _ _ _ _ _ _ sc _ _ _=>sc
 | _=>{ kind:=.function,names:=[],isGenerator:=false,isCoroutine:=false }
abbrev CX0:CXT:=fun _ _ _ _ _ _=>False
abbrev E0:XK:=fun _ _ _=>False
theorem ynX {X:Cx}:yfa CX0 X E0:=fun _ _ _ _ _ _ _ h=>h.elim
structure Fun (K:PySem.W.Frag) (x qual:Str) (st:Stmt) (f:Addr) (fd:FuncData):Prop where
 ex:∃ (oc:Value) (od:Option Addr) (kV doc pm:Value) (an:Option Addr) (cdv ct:Value) (osl:Array (Option Value)),
  fd=fnOf x qual (ylP st) (yfR st) (ybE st) .none kV doc pm an cdv ct/\K.lookup f=some ⟨oc,od,.func fd,osl⟩/\codeIn K cdv qual=true
 kp:keepIn K (.ref f)=true
section
variable {P:Program}{w:World}{K:PySem.W.Frag}{mg:Str->Option Value}{base:Heap}
theorem Fun.ok {x qual:Str}{st:Stmt}{f:Addr}{fd:FuncData}{N ps:List Str}{k:Nat}{sp:Sp}(F:Fun K x qual st f fd) (S:yez N ps (ybE st)) (len:∀ vs H Q E,sp vs H Q E->vs.length=ps.length)
  (hbody:∀ (cdv:Value) (A:Around) (outer:List Env) (s:Shared) (H:Hp) (vs:List V) (Q:VK) (E:XK),Room k (A.deeper (envOfC qual (ybE st) s.heap.objs.size f cdv))->sp vs H Q E ->
   ∃ t,PSs (ymW CX0 P w K mg base N qual (ybE st) f cdv A outer s H E).nox (yfR st) t/\t { nx:=fun _ H'=>Q .non H',rt:=Q } (start N vs) H):FnOk P w K mg base CX0 (k+1) f fd ps sp:=by
 obtain ⟨oc,od,kV,doc,pm,an,cdv,ct,osl,rfl,lk,hcd⟩:=F.ex
 refine yyC lk hcd S len fun A outer s H vs Q E hr hsp=>?_
 obtain ⟨t,h,q⟩:=hbody cdv A outer s H vs Q E hr hsp
 exact ⟨t,h.nox,q⟩
theorem fun_mk {x qual:Str}{st:Stmt}{f:Addr}{oc:Value}{od an:Option Addr}{osl:Array (Option Value)}{kV doc pm cdv ct:Value}(l:K.lookup f=some ⟨oc,od,.func (fnOf x qual (ylP st) (yfR st) (ybE st) .none kV doc pm an cdv ct),osl⟩)
  (c:codeIn K cdv qual=true) (k:keepIn K (.ref f)=true):Fun K x qual st f (fnOf x qual (ylP st) (yfR st) (ybE st) .none kV doc pm an cdv ct):=⟨⟨oc,od,kV,doc,pm,an,cdv,ct,osl,rfl,l,c⟩,k⟩
end
theorem ypF {n:Nat}(h:n<=1000):n<sizeLine:=Nat.lt_of_le_of_lt h (by decide)
section
variable {X:Cx}
end
def Same (H H':Hp):Prop:=∀ b o,H b=some o->H' b=some o
theorem Same.refl (H:Hp):Same H H:=fun _ _ h=>h
theorem Same.trans {H H1 H2:Hp}(a:Same H H1) (b:Same H1 H2):Same H H2:=fun c o h=>b c o (a c o h)
theorem Same.free {H H':Hp}(e:Same H H') {l:Addr}(h:H' l=Option.none):H l=Option.none:=by
 cases q:H l with
 | none=>rfl
 | some o =>
  rw [e l o q] at h
  cases h
theorem Same.seq {K:PySem.W.Frag}{H H':Hp}{a:Addr}{xs:List V}(e:Same H H') (h:SqL K H a xs):SqL K H' a xs:=by
 rcases h with (h|⟨o,h⟩)|h
 .exact .inl (.inl (e _ _ h))
 .exact .inl (.inr ⟨o,e _ _ h⟩)
 .exact .inr h
end L2
namespace L2
open PySem PySem.Spec PyProof.Rows
def cV:V->Option Value
 | .ty n=>some (.type n)
 | .ref a=>some (.ref a)
 | _=>none
def IsI (K:PySem.W.Frag) (H:Hp) (x c:V) (b:Bool):Prop:=∃ t u,ymT K H x t/\cV c=some u/\PySem.W.kitOne K t u=some b
theorem ylQ {K:PySem.W.Frag}{H:Hp}{i:Int}:IsI K H (.int i) (.ty "int") true:=⟨_,_,.int i,rfl,by with_unfolding_all rfl⟩
theorem ykr {K:PySem.W.Frag}{H:Hp}{i:Int}:IsI K H (.int i) (.ty "bool") false:=⟨_,_,.int i,rfl,by with_unfolding_all rfl⟩
theorem ylR {K:PySem.W.Frag}{H:Hp}:IsI K H .non (.ty "int") false:=⟨_,_,.non,rfl,by with_unfolding_all rfl⟩
theorem ylS {K:PySem.W.Frag}{H:Hp}{i:Bool}:IsI K H (.bl i) (.ty "bool") true:=⟨_,_,.bl i,rfl,by with_unfolding_all rfl⟩
theorem ylT {K:PySem.W.Frag}{H:Hp}{i:Str}:IsI K H (.str i) (.ty "str") true:=⟨_,_,.str i,rfl,by with_unfolding_all rfl⟩
theorem yks {K:PySem.W.Frag}{H:Hp}{a:Addr}{xs:List V}(e:H a=some (.lst xs)):IsI K H (.ref a) (.ty "list") true:=⟨_,_,.lst e,rfl,by with_unfolding_all rfl⟩
theorem str_len {v:Int}(h0:0<=v) {k:Nat}(hk:0<k) (h:v<10 ^ k):(Str.ofString (toString v)).length<=k:=toString_length_le h0 hk h
end L2
namespace L2
open PySem
abbrev yCi:R2:=rI0 fun i j=>.int (i+j)
abbrev yCj:R2:=rI0 fun i j=>.int (i-j)
abbrev yCk:R2:=rI CMul fun i j=>.int (i*j)
abbrev yCl:R2:=rI yEZ fun i j=>.int (i/j)
abbrev yCm:R2:=rI (fun _ j=>0<j) fun i j=>.int (i%j)
abbrev yCn:R2:=rI yCe fun i j=>.int (i ^ j.toNat)
abbrev yFN:R2:=rI0 fun i j=>.bl (decide (i<j))
abbrev yFO:R2:=rI0 fun i j=>.bl (decide (i<=j))
abbrev yFP:R2:=rI0 fun i j=>.bl (decide (j<i))
abbrev yCo:V->Hp->VK->Prop:=rU fun i=>.int (-i)
def yCp:R2:=fun x y H Q=>∃ i j,x=.str i/\y=.str j/\i.length+j.length<=sizeLine/\Q (.str (i++j)) H
def yFQ:R2:=fun x y H Q=>y=.non/\Q (.bl (decide (x=.non))) H
def yCq:R2:=fun x y H Q=>y=.non/\Q (.bl (!decide (x=.non))) H
noncomputable def yCr:List V->Hp->VK->Prop:=fun xs H Q=>(∃ i,xs=[.int i]/\Q (.int i) H)\/∃ k,xs=[.bl k]/\Q (.int (if k then 1 else 0)) H
def yCs:List V->Hp->VK->Prop:=fun xs H Q=>∃ z,xs=[.str z]/\z.length<=sizeLine/\Q (.int z.length) H
def yCt (K:PySem.W.Frag):List V->Hp->VK->Prop:=fun xs H Q=>∃ p ys,xs=[.ref p]/\(SqL K H p ys\/SqT K H p ys)/\Q (.int ys.length) H
def yyJ:List V->Hp->VK->Prop:=fun xs H Q=>∃ i,xs=[.int i]/\i.natAbs.log2<1920/\Q (.str (toString i)) H
def yCu (K:PySem.W.Frag):List V->Hp->VK->Prop:=fun xs H Q=>∃ x c b,xs=[x,c]/\IsI K H x c b/\Q (.bl b) H
theorem ydS {H:Hp}{p:Addr}(h:H p=none) (o:HO):Same H (upd H p o):=fun b u q=>by rw [yR (ybU q h)];exact q
section
variable {K:PySem.W.Frag}{σ:St}{H:Hp}{Q:VK}{ta tb tc:TE}{tA tB':TT}{t u:TS}{D:Ends}
theorem w_not {Q:Bool->Hp->Prop}:yBX tA σ H Q=tA σ H fun c H1=>Q (!c) H1:=rfl
end
end L2
namespace L2
open PySem
def yoU (cs:List Nat):Int:=cs.foldl (fun (a:Int) (c:Nat)=>a*10+((c:Int)-48)) 0
noncomputable def yyK:List V->Hp->VK->Prop:=fun xs H Q=>∃ x:Str,xs=[.str x]/\x.cps.toList≠[]/\(∀ c∈x.cps.toList,48<=c/\c<=57)/\x.length<=640/\Q (.int (yoU x.cps.toList)) H
def yFj:R2:=fun x y H Q=>∃ (c:Nat) (j:Str),x=.str ⟨#[c]⟩/\y=.str j/\Q (.bl (decide (c∈j.cps.toList))) H
noncomputable def yxF (z:Str) (lo hi:Option Int):Str:=⟨((z.cps.toList.drop (HT.sIx z.length 0 lo)).take (HT.sIx z.length z.length hi-HT.sIx z.length 0 lo)).toArray⟩
def yFk:V->Option Int->Option Int->Hp->VK->Prop:=fun x lo hi H Q=>∃ z,x=.str z/\z.length<=1000000/\Q (.str (yxF z lo hi)) H
noncomputable def rJoin:V->List V->Hp->VK->Prop:=fun x vs H Q=>∃ (sep:Str) (p:Addr) (ts:List Str),x=.str sep/\vs=[.ref p]/\H p=some (.lst (ts.map V.str))/\sep.length<=16/\(ts.map (·.length)).sum+ts.length<=1048576/\Q (.str (Str.join sep ts)) H
noncomputable def yFl:List V->Hp->VK->Prop:=fun xs H Q=>∃ (p:Addr) (bs:List Bool),xs=[.ref p]/\H p=some (.lst (bs.map V.bl))/\Q (.bl (bs.all id)) H
noncomputable def yFm:List V->Hp->VK->Prop:=fun xs H Q=>∃ (p:Addr) (ns:List Int),xs=[.ref p]/\H p=some (.lst (ns.map V.int))/\Q (.int ns.sum) H
def yvu (K:PySem.W.Frag):List V->Hp->VK->Prop:=fun xs H Q=>∃ p ys,xs=[.ref p]/\(SqL K H p ys\/SqT K H p ys)/\∀ l,H l=none->Q (.ref l) (upd H l (.lst ys))
noncomputable def Its (z:Str):It:=⟨fun i _=>i<z.length,fun i H x H'=>H'=H/\∃ c,z.cps.toList[i]?=some c/\x=.str ⟨#[c]⟩,fun i _=>i=z.length⟩
def yFn (ta:TE):TI:=fun σ H R=>ta σ H fun x H1=>∃ z,x=.str z/\z.length<=sizeLine/\R (Its z) H1
noncomputable def yCv (J:It) (te:TE) (inn:V->St) (D:Addr) (Q:VK) (H:Hp):Prop:=∃ W:Nat->Nat->Hp->Prop,(∃ m,W 0 m H)/\∀ i m H,W i m H ->
 (J.stop i H/\Q (.ref D) H)\/(J.go i H/\∀ x H',J.yld i H x H'->te (inn x) H' fun y H2=>∃ acc,H2 D=some (.lst acc)/\acc.length<sizeLine/\∃ m',m'<m/\W (i+1) m' (upd H2 D (.lst (acc++[y]))))
def inner (ix:List Nat) (σ:St) (x:V):St:=some x::ix.map fun i=>(σ[i]?).getD none
def ysd (wi:TI) (ix:List Nat) (te:TE):TE:=fun σ H Q=>wi σ H fun J H1=>∀ D,H1 D=none->yCv J te (inner ix σ) D Q (upd H1 D (.lst []))
section
variable {K:PySem.W.Frag}{σ:St}{H:Hp}{Q:VK}{ta tb tc:TE}{tA tB':TT}{t u:TS}{D:Ends}
end
end L2
namespace L2
open PySem
def ytZ (C:Addr):TE:=fun _ H Q=>∀ x dx,H x=none->H dx=none->dx≠x->Q (.ref x) (upd (upd H dx (.own x)) x (.ins C dx []))
noncomputable def yua {κ:Type}(A:κ->Addr) (m:Str) (sp:κ->Sp) (ta:TE):TE:=fun σ H Q=>ta σ H fun x H1=>∃ a k dx fs,x=.ref a/\H1 a=some (.ins (A k) dx fs)/\fs.lookup m=none/\sp k [x] H1 Q E0
theorem yCw {k:Str}{v:V}{r:List (Str×V)}:List.lookup k ((k,v)::r)=some v:=by simp [List.lookup]
theorem yyL {k k':Str}{v:V}{r:List (Str×V)}(h:¬ k=k'):List.lookup k ((k',v)::r)=List.lookup k r:=by
 have:(k == k')=false:=by simpa using h
 simp [List.lookup,this]
section
variable {K:PySem.W.Frag}{σ:St}{H:Hp}{Q:VK}{ta tb tc:TE}{t u:TS}{D:Ends}
end
end L2
namespace L2
open PySem PySem.Builtin PySem.Builtin.Str
theorem at_one {z:Str}{c i:Nat}:StrLaws.At z ⟨#[c]⟩ z.length i ↔ z.cps.toList[i]?=some c:=by
 unfold StrLaws.At subAt
 have e1:(⟨#[c]⟩:Str).length=1:=rfl
 rw [e1]
 have e2:(z.cps.extract i (i+1) == (⟨#[c]⟩:Str).cps)=true ↔ z.cps.extract i (i+1) = #[c]:=by simp
 rw [e2]
 constructor
 .rintro ⟨h1,h2⟩
  have h3:(z.cps.extract i (i+1)).toList=[c]:=by rw [h2]
  rw [Array.toList_extract,List.extract_eq_take_drop] at h3
  have h4:((z.cps.toList.drop i).take (i+1-i))[0]?=some c:=by rw [h3];rfl
  rw [List.getElem?_take_of_lt (by omega),List.getElem?_drop] at h4
  simpa using h4
 .intro h
  obtain ⟨hlt,hc⟩:=List.getElem?_eq_some_iff.mp h
  have hl:i<z.length:=by simpa [Str.length] using hlt
  refine ⟨by omega,?_⟩
  apply Array.ext'
  rw [Array.toList_extract,List.extract_eq_take_drop]
  have e:i+1-i=1:=by omega
  rw [e,List.drop_eq_getElem_cons hlt,hc]
  rfl
theorem yvv (z:Str) (c:Nat):(occurrences z ⟨#[c]⟩ 0 z.length 1=[]/\c∉z.cps.toList)\/∃ r,occurrences z ⟨#[c]⟩ 0 z.length 1=z.cps.toList.idxOf c::r/\c∈z.cps.toList:=by
 rcases StrLaws.occ_head z ⟨#[c]⟩ 1 (Nat.le_refl _) with ⟨h1,h2⟩|⟨i,r,h1,h2,h3⟩
 .refine .inl ⟨h1,fun hc=>?_⟩
  obtain ⟨i,hi,e⟩:=getElem_of_mem hc
  exact h2 i (at_one.mpr (List.getElem?_eq_some_iff.mpr ⟨hi,e⟩))
 .have hi:=at_one.mp h2
  obtain ⟨hlt,hc⟩:=List.getElem?_eq_some_iff.mp hi
  have hm:c∈z.cps.toList:=mem_of_getElem? hi
  refine .inr ⟨r,?_,hm⟩
  have hj:z.cps.toList.idxOf c<z.cps.toList.length:=List.idxOf_lt_length_of_mem hm
  have hg:z.cps.toList[z.cps.toList.idxOf c]?=some c:=by
   rw [List.getElem?_eq_getElem hj,List.getElem_idxOf hj]
  have e:i=z.cps.toList.idxOf c:=by
   rcases Nat.lt_trichotomy i (z.cps.toList.idxOf c) with h|h|h
   .exact absurd hc (by
     have:=List.not_of_lt_findIdx (p:=(· == c)) (xs:=z.cps.toList) (i:=i) (by simpa [idxOf] using h)
     simpa using this)
   .exact h
   .exact absurd (at_one.mpr hg) (h3 _ h)
  rw [h1,e]
theorem ypG (v:Option Int) (n d:Nat):(match v with|none=>(d:Int)|some i=>max 0 (min (if i<0 then i+(n:Int) else i) (n:Int)))=((HT.sIx n d v:Nat):Int):=by
 cases v with
 | none=>rfl
 | some i =>
  show max 0 (min (if i<0 then i+(n:Int) else i) (n:Int))=(((if i<0 then (i+(n:Int)).toNat else min i.toNat n):Nat):Int)
  split<;>omega
theorem yvw (lo hi:Option Int) (n:Nat):strSliceIndices lo hi 1 n=(List.range (HT.sIx n n hi-HT.sIx n 0 lo)).map (fun k=>HT.sIx n 0 lo+k):=by
 have h1:=ypG lo n 0
 have h2:=ypG hi n n
 generalize HT.sIx n 0 lo=a at *
 generalize HT.sIx n n hi=b at *
 have e:strSliceIndices lo hi 1 n=sliceRange (a:Int) (b:Int) 1:=by
  rw [<- h1,<- h2]
  cases lo<;>cases hi<;>rfl
 rw [e]
 unfold sliceRange
 rw [if_pos (show (1:Int)>0 by decide)]
 have e3:(if (a:Int)<b then ((b:Int)-a+1-1)/1 else 0).toNat=b-a:=by
  split
  .rw [Int.ediv_one];omega
  .omega
 show (List.range (if (a:Int)<b then ((b:Int)-a+1-1)/1 else 0).toNat).map _=_
 rw [e3]
 refine List.map_congr_left fun k _=>?_
 omega
theorem yyM (n:Nat) (hi:Option Int):HT.sIx n n hi<=n:=by
 cases hi with
 | none=>exact Nat.le_refl _
 | some v =>
  show (if v<0 then (v+(n:Int)).toNat else min v.toNat n)<=n
  split<;>omega
theorem yse (l:List Nat) (a k:Nat) (h:a+k<=l.length):((List.range k).map (fun j=>a+j)).filterMap (fun j=>l[j]?)=(l.drop a).take k:=by
 induction k with
 | zero=>simp
 | succ k ih =>
  rw [List.range_succ,map_append,List.filterMap_append,ih (by omega)]
  have hlt:a+k<l.length:=by omega
  simp only [map_cons,map_nil,List.filterMap_cons,List.filterMap_nil,List.getElem?_eq_getElem hlt]
  rw [List.take_succ,List.getElem?_drop,List.getElem?_eq_getElem hlt]
  rfl
theorem ypH (z:Str) (lo hi:Option Int):Txt.slice z lo hi=yxF z lo hi:=by
 unfold Txt.slice yxF
 rw [yvw]
 have hz:z.cps.toList.length=z.length:=by simp [Str.length]
 have hb:=yyM z.length hi
 generalize HT.sIx z.length 0 lo=a at *
 generalize HT.sIx z.length z.length hi=b at *
 split
 .rename_i h
  have h2:b-a=z.length:=by simpa using h
  have h3:a=0\/z.length=0:=by omega
  obtain ⟨⟨l⟩⟩:=z
  simp only [Str.length,size_toArray] at *
  rcases h3 with h3|h3
  .subst h3
   rw [List.drop_zero,h2,List.take_length]
  .have:l=[]:=List.eq_nil_of_length_eq_zero h3
   subst this
   simp
 .congr 2
  by_cases hab:a<=b
  .have:=yse z.cps.toList a (b-a) (by omega)
   simpa using this
  .have:b-a=0:=by omega
   rw [this]
   simp
end L2
namespace L2
open PySem PySem.Spec PyProof.Rows
theorem ycG {env:Env}(y:Str):∀ names:List (Str×NameKind),
  (names.map fun (n,k)=>if (k == NameKind.free && env.scope.kind == .function && env.kindOf n == some .cell) then (n,NameKind.cell) else (n,k)).lookup y
   = (names.lookup y).map fun k=>if (k == NameKind.free && env.scope.kind == .function && env.kindOf y == some .cell) then NameKind.cell else k
 | []=>rfl
 | (n,k)::r=>by
  have ih:=ycG (env:=env) y r
  show List.lookup y ((if (k == NameKind.free && env.scope.kind == .function && env.kindOf n == some .cell)=true then (n,NameKind.cell) else (n,k))::_)=_
  cases hx:y == n with
  | true =>
   have e:y=n:=eq_of_beq hx
   subst e
   by_cases hc:(k == NameKind.free && env.scope.kind == .function && env.kindOf y == some .cell)=true
   .rw [if_pos hc]
    simp only [lookup_cons,hx,map_some,if_pos hc]
   .rw [if_neg hc]
    simp only [lookup_cons,hx,map_some,if_neg hc]
  | false =>
   by_cases hc:(k == NameKind.free && env.scope.kind == .function && env.kindOf n == some .cell)=true
   .rw [if_pos hc];simp only [lookup_cons,hx];exact ih
   .rw [if_neg hc];simp only [lookup_cons,hx];exact ih
theorem ydT {env:Env}:∀ (names:List (Str×NameKind)) (cs:List (Str×Addr)),(∀ n,(n,NameKind.free)∈names->∃ c,env.cells.lookup n=some c) ->
  ∃ cl,(forIn names cs (fun (x:Str×NameKind) (r:List (Str×Addr))=>if (x.2 == NameKind.free)=true then do let c <- cellOf env x.1;pure (ForInStep.yield ((x.1,c)::r)) else pure (ForInStep.yield r)):Sem (List (Str×Addr)))=pure cl /\
   (∀ y,(y,NameKind.free)∈names->cl.lookup y=env.cells.lookup y)/\(∀ y,(y,NameKind.free)∉names->cl.lookup y=cs.lookup y)
 | [],cs,_=>⟨cs,rfl,fun y h=>by simp at h,fun y _=>rfl⟩
 | (n,k)::r,cs,h=>by
  by_cases hk:k=.free
  .subst hk
   obtain ⟨c,hc⟩:=h n mem_cons_self
   obtain ⟨cl,e,h1,h2⟩:=ydT r ((n,c)::cs) fun y hy=>h y (mem_cons_of_mem _ hy)
   refine ⟨cl,?_,fun y hy=>?_,fun y hy=>?_⟩
   .rw [List.forIn_cons]
    have e0:cellOf env n=pure c:=by unfold cellOf;rw [hc]
    simp only [beq_self_eq_true,if_true,e0,pure_bind]
    exact e
   .by_cases hr:(y,NameKind.free)∈r
    .exact h1 y hr
    .rw [h2 y hr]
     rcases mem_cons.mp hy with z|z
     .cases z
      rw [hc];simp [List.lookup]
     .exact absurd z hr
   .have hr:(y,NameKind.free)∉r:=fun z=>hy (mem_cons_of_mem _ z)
    rw [h2 y hr]
    have hn:(y == n)=false:=by
     cases e:y == n with
     | false=>rfl
     | true=>exact absurd (by rw [eq_of_beq e];exact mem_cons_self) hy
    simp [List.lookup,hn]
  .obtain ⟨cl,e,h1,h2⟩:=ydT r cs fun y hy=>h y (mem_cons_of_mem _ hy)
   have hb:(k == NameKind.free)=false:=by simpa using hk
   refine ⟨cl,?_,fun y hy=>?_,fun y hy=>?_⟩
   .rw [List.forIn_cons]
    simp only [hb,Bool.false_eq_true,if_false,pure_bind]
    exact e
   .rcases mem_cons.mp hy with z|z
    .cases z;exact absurd rfl hk
    .exact h1 y z
   .exact h2 y fun z=>hy (mem_cons_of_mem _ z)
noncomputable def cxC (X:Cx) (scope:Scope) (cl:List (Str×Addr)) (C:Addr) (N:List Str) (s₃:Shared) (H₃:Hp) (fp:List Addr) (pins:List (Addr×Obj)):Cx :=
 { prog:=X.prog,w:=X.w,K:=X.K,mg:=X.mg,base:=X.base,A:=X.A,N:=N,s₀:=s₃,H₀:=H₃,env:=compEnvC scope cl C X.env,outer:=X.stack,stack:=X.stack,ex:=fp,fn:=fun _=>false,calm:=X.calm,pn:=X.pn++pins,xe:=fun _ _=>False }
noncomputable def FrOk (X:Cx) (scope:Scope):List Nat->List Str->Prop
 | [],[]=>True
 | i::is,y::ys=>X.N[i]?=some y/\scope.names.lookup y=some .free/\X.env.kindOf y=some .cell/\FrOk X scope is ys
 | _,_=>False
theorem FrOk.len {X:Cx}{scope:Scope}:∀ {is:List Nat}{ys:List Str},FrOk X scope is ys->is.length=ys.length
 | [],[],_=>rfl
 | _::is,_::ys,h=>by rw [length_cons,length_cons,FrOk.len h.2.2.2]
theorem FrOk.get {X:Cx}{scope:Scope}:∀ {is:List Nat}{ys:List Str}{j:Nat}{y:Str},FrOk X scope is ys->ys[j]?=some y->∃ i,is[j]?=some i/\X.N[i]?=some y/\scope.names.lookup y=some .free/\X.env.kindOf y=some .cell
 | [],[],_,_,_,e=>by simp at e
 | [],_::_,_,_,h,_=>h.elim
 | _::_,[],_,_,h,_=>h.elim
 | i::is,z::ys,0,y,h,e=>by
  simp at e
  subst e
  exact ⟨i,rfl,h.1,h.2.1,h.2.2.1⟩
 | i::is,z::ys,j+1,y,h,e=>by
  obtain ⟨k,h1,h2⟩:=FrOk.get (j:=j) h.2.2.2 (by simpa using e)
  exact ⟨k,by simpa using h1,h2⟩
end L2
namespace L2
open PySem PySem.Spec PyProof.Rows
theorem ysf {P:Program}{w:World}{K:PySem.W.Frag}{tg:Expr}{ty:String}(hty:ty = "str_ascii_iterator"\/ty = "str_iterator") (z:Str) (t:Tok) (it:Addr):Turn P w K tg (Its z) [it] it (fun i h=>h.IsStrIter it ty z t i) where
 mem:=by simp
 obj:=fun i h st b hb=>by
  have e:b=it:=by simpa using hb
  subst e
  obtain ⟨o,e,c,d⟩:=st
  exact ⟨o,e,fun v q=>by rw [d] at q;cases q⟩
 keep:=fun i h h' st k=>by
  obtain ⟨o,e,c,d⟩:=st
  exact ⟨o,k it (by simp) o e,c,d⟩
 item:=by
  intro X hP hw hK hc i pins s σ H E I hf st hg
  subst hP hw hK
  obtain ⟨f0,f1,f2,f3,f4,f5⟩:=hf it (by simp)
  have hg:i<z.length:=hg
  obtain ⟨ch,hz⟩:∃ ch,z.cps[i]?=some ch:=⟨_,Array.getElem?_eq_getElem (show i<z.cps.size from hg)⟩
  have fin:∀ h',h'.IsStrIter it ty z t (i+1)->Heap.SameBut it s.heap h'->∃ u,some (Value.str ⟨#[ch]⟩ s.toks)=some u /\
    wpAny (model X.prog X.w) X.A (letOwnedTupleGo tg (.ref it) u) (fun _ s2=>∃ x H',Inv X pins σ H' s2/\RelV x u/\(Its z).yld i H x H'/\s2.heap.IsStrIter it ty z t (i+1)/\∀ b∈[it],H' b=none) E { s with heap:=h',toks:=s.toks+1 }:=fun h' st' sb=>by
   have I1:Inv X pins σ H { s with heap:=h',toks:=s.toks+1 }:=I.turned (t':=s.toks+1) (fun b o hb e=>(sb.2 b hb).trans e) f0 f1 f3 f4 f5
   obtain ⟨o,e,c,d⟩:=id st'
   refine ⟨_,rfl,yrP (s:={ s with heap:=h',toks:=s.toks+1 }) e c d (by rcases hty with rfl|rfl<;>decide) ⟨.str ⟨#[ch]⟩,H,I1,⟨_,rfl⟩,⟨rfl,_,by simpa using hz,rfl⟩,st',fun b hb=>(hf b hb).1⟩⟩
  rcases hty with rfl|rfl
  .exact wpAny_pyNext_ascii_item st hz fun h' st' sb=>fin h' st' sb
  .exact wpAny_pyNext_wide_item st hz fun h' st' sb=>fin h' st' sb
 done:=by
  intro X hP hw hK hc i pins s σ H E I hf st hg
  subst hP hw hK
  obtain ⟨f0,f1,f2,f3,f4,f5⟩:=hf it (by simp)
  have hg:i=z.length:=hg
  have hz:z.cps[i]?=none:=by simp [hg,Str.length]
  rcases hty with rfl|rfl
  .exact wpAny_pyNext_ascii_end (I.ok.hd hc) st hz fun h' eb=>⟨rfl,I.turned (t':=s.toks) (fun b o hb e=>eb b o hb e) f0 f1 f3 f4 f5⟩
  .exact wpAny_pyNext_wide_end (I.ok.hd hc) st hz fun h' eb=>⟨rfl,I.turned (t':=s.toks) (fun b o hb e=>eb b o hb e) f0 f1 f3 f4 f5⟩
 self:=fun _ _ _ _ _ st h=>by
  rcases hty with rfl|rfl
  .exact wpAny_pyIter_striter_ascii st h
  .exact wpAny_pyIter_striter_wide st h
section
variable {X:Cx}{tg:Expr}
theorem yyN {l:Expr}{tl:TE}(hl:PE X l tl):PI X tg l (yFn tl):=by
 intro pins s σ H R I h
 refine thn (hl pins s σ H _ I h) fun v s1 ⟨x,H1,I1,r1,q1⟩=>?_
 obtain ⟨z,e,hz,q⟩:=q1
 subst e
 obtain ⟨t,rfl⟩:=r1
 have fin:∀ ty,(ty = "str_ascii_iterator"\/ty = "str_iterator")->PIE X pins σ tg R (.ref s1.heap.objs.size) { s1 with heap:=s1.heap.push { cls:=.type ty,data:=.fields #[.str z t,.int 0 0] } }:=fun ty hty=>by
  refine ⟨s1.heap.objs.size,[s1.heap.objs.size],_,_,H1,rfl,I1.kept (t':=s1.toks) fun b o e=>Heap.get?_push_of_some _ e,ysf hty z t _,⟨_,Heap.get?_push_size _ rfl,rfl,rfl⟩,fun b hb=>?_,q⟩
  have e:b=s1.heap.objs.size:=by simpa using hb
  subst e
  exact I1.fpOk (Nat.le_refl _) (I1.hok.fresh (Nat.le_refl _))
 cases ha:z.cps.all (· < 128)
 .exact wpAny_pyIter_wide ha (fin _ (.inr rfl))
 .exact wpAny_pyIter_ascii ha (fin _ (.inl rfl))
theorem ymZ:∀ {bs:List Bool}{us:List Value},Vals (bs.map V.bl) us->us=bs.map Value.bool
 | [],_,.nil=>rfl
 | b::bs,_,.cons r t=>by rw [show _=Value.bool b from r,ymZ t];rfl
theorem ysg (hc:X.calm=true):CallR X (.builtin "all") yFl:=by
 intro pins s σ H xs us Q I r h
 obtain ⟨p,bs,rfl,hp,q⟩:=h
 obtain ⟨u,rfl,rx⟩:=vals1 r
 cases rx
 obtain ⟨its,n,rv,e,hz⟩:=I.lst hp
 have eb:=ymZ rv
 subst eb
 have hl:s.heap.IsList p (bs.map Value.bool).toArray:=⟨_,e,rfl,n,rfl⟩
 have hlt:p<s.heap.objs.size:=Heap.lt_size e
 refine call_all_walk (wpAny_pyIter_list hl ?_)
 refine ⟨s.heap.objs.size,[s.heap.objs.size,p],[s.heap.objs.size],(bs.map Value.bool).toArray.size,_,_,fun i=>(bs[i]?).getD true,rfl,Walks.list (A:=X.A.in1) (I.ok.hd hc) _ p (ne_of_lt hlt) _,
  ⟨⟨_,Heap.get?_push_size _ rfl,rfl,rfl⟩,hl.push _⟩,fun i v s' Q' E' hP hQ=>?_,fun h' tk hk=>?_⟩
 .have hP:(bs.map Value.bool)[i]?=some v:=by simpa using hP
  rw [getElem?_map] at hP
  cases eb:bs[i]? with
  | none=>rw [eb] at hP;cases hP
  | some b =>
   rw [eb] at hP
   cases hP
   simp only [eb,Option.getD_some] at hQ
   exact wpAny_truthy_bool hQ
 .have ea:((List.range (bs.map Value.bool).toArray.size).all fun i=>(bs[i]?).getD true)=bs.all id:=by
   rw [size_toArray,length_map]
   exact LSm.range_all bs
  rw [ea]
  exact ⟨.bl _,H,I.kept (t':=tk) fun b o eo=>hk b o (fun hm=>by rw [List.mem_singleton.mp hm] at eo;exact absurd (Heap.lt_size eo) (lt_irrefl _)) (Heap.get?_push_of_some _ eo),rfl,q⟩
theorem yjx (hc:X.calm=true):CallR X (.builtin "sum") yFm:=by
 intro pins s σ H xs us Q I r h
 obtain ⟨p,ns,rfl,hp,q⟩:=h
 obtain ⟨u,rfl,rx⟩:=vals1 r
 cases rx
 obtain ⟨its,n,rv,e,hz⟩:=I.lst hp
 have hi:IntsAre its ns:=intsAre_of rv
 have hl:s.heap.IsList p its.toArray:=⟨_,e,rfl,n,rfl⟩
 obtain ⟨xs,hx⟩:=hi.allInts.items
 have hl':s.heap.IsList p (intItems xs):=hx ▸ hl
 refine sum_intListG (I.ok.hd hc) hl' fun h' tk t' hk=>?_
 have e1:ns=xs.toList.map (·.1):=by
  rw [<- nums_intItems,<- hx]
  exact (show numsOf its.toArray.toList=ns from hi.numsOf).symm
 have e2:preSum (numAt xs) xs.size=ns.sum:=by
  rw [preSum_eq,List.take_of_length_le (by simp),e1]
 rw [e2]
 exact ⟨.int ns.sum,H,I.kept (t':=tk) hk,⟨_,rfl⟩,q⟩
theorem ypI:∀ {ts:List Str}{us:List Value},Vals (ts.map V.str) us->StrsAre us ts
 | [],_,.nil=>.nil
 | y::ts,_,.cons r t=>by
  obtain ⟨k,e⟩:=(show ∃ t,_=Value.str y t from r)
  rw [e]
  exact .cons y k (ypI t)
theorem yfc:MtR X "str.join" rJoin:=by
 intro pins s σ H x xs v us Q I rx rv h
 obtain ⟨sep,p,ts,rfl,rfl,hp,h1,h2,q⟩:=h
 obtain ⟨t,rfl⟩:=rx
 obtain ⟨u,rfl,ru⟩:=vals1 rv
 cases ru
 obtain ⟨its,n,r,e,hz⟩:=I.lst hp
 have hl:s.heap.IsList p its.toArray:=⟨_,e,rfl,n,rfl⟩
 refine join_listW hl (ypI r) h1 h2 fun t' k=>⟨.str (Str.join sep ts),H,I.tok k,⟨t',?_⟩,q⟩
 show Value.str (Txt.join sep ts) t'=Value.str (Str.join sep ts) t'
 rw [show Txt.join sep ts=Str.join sep ts from StrLaws.glued_eq_join sep ts]
theorem ykt:OpR X (compareOp .In) yFj:=by
 intro pins s σ H x y v u Q I rx ry h
 obtain ⟨c,j,rfl,rfl,q⟩:=h
 refine ypp pins s σ H _ _ v u Q I rx ry ⟨_,_,rfl,rfl,?_⟩
 have e:(!(Builtin.Str.occurrences j ⟨#[c]⟩ 0 j.length 1).isEmpty)=decide (c∈j.cps.toList):=by
  rcases yvv j c with ⟨h1,h2⟩|⟨r,h1,h2⟩
  .rw [h1];simp [h2]
  .rw [h1];simp [h2]
 rw [e]
 exact q
theorem yyO:SlR X yFk:=by
 intro pins s σ H x v vl vu lo hi sl Q I rx hs pl pu h
 obtain ⟨z,rfl,hz,q⟩:=h
 obtain ⟨t,rfl⟩:=rx
 have pv':∀ {w':Value}{o:Option Int},IsPart w' o->∃ p:Option (Int×Tok),w'=partValue p/\p.map (·.1)=o:=fun {w' o} p=>by
  cases p with
  | none=>exact ⟨none,rfl,rfl⟩
  | int i t=>exact ⟨some (i,t),rfl,rfl⟩
 obtain ⟨l,el,ml⟩:=pv' pl
 obtain ⟨u,eu,mu⟩:=pv' pu
 obtain ⟨o,ho,hc,hd⟩:=hs
 refine ⟨"str",_,F.slot_str_getitem.lookup,typeIs_str _ _ _,wpAny_getItem_str_slice (l:=l) (u:=u) (st:=none) ⟨o,ho,hc,by rw [hd,el,eu];rfl⟩ rfl ?_⟩
 have hz':z.length<=sizeLine:=Nat.le_trans hz (by decide)
 have e:∀ t' k,EP X pins σ Q (.str (Txt.slice z lo hi) t') { s with toks:=k }:=fun t' k=>by
  rw [ypH]
  exact ⟨.str _,H,I.tok k,⟨_,rfl⟩,q⟩
 have e2:sliceMade z t l u none=(if ((1:Int) == 1 && (Builtin.Str.strSliceIndices lo hi 1 z.length).length == z.length)=true then Made.val (.str z t) else .str ⟨((Builtin.Str.strSliceIndices lo hi 1 z.length).filterMap (z.cps[·]?)).toArray⟩):=by
  unfold sliceMade slicePicked
  rw [ml,mu]
  rfl
 rw [e2]
 exact post_val_or_str ⟨Nat.le_trans (Txt.slice_le z _ _) hz',e⟩
theorem ysh {C:Addr}{x:Str}{p pos:Pos}(hm:makesIn X.K C=true) (hi:findIn X.K (.ref C) "__init__" = some (some (.builtin "object.__init__"))) (hk:keepIn X.K (.ref C)=true)
  (hg:Gl X x) (hmg:X.mg x=some (.ref C)) (hdb:(x == ("__debug__":Str))=false:=by decide):PE X (.Call (.Name x p) [] [] pos) (ytZ C):=by
 intro pins s σ H Q I h
 refine wpAny_Call_Name_kw (yfQ I hg hmg ?_ hdb)
 refine PySem.W.callWith_K0 I.kIn hk (wpAny_call ?_)
 have I2:=Inv.made (C:=C) I
 have q:=h (s.heap.objs.size+1) s.heap.objs.size (I.hok.fresh (Nat.le_succ _)) (I.hok.fresh (Nat.le_refl _)) (ne_of_lt (Nat.lt_succ_self _))
 have kin:=I.kIn
 obtain ⟨hh,g,d,t,os⟩:=s
 have Y:=PySem.W.makes_of (M:=model X.prog X.w) kin hm
 refine PySem.W.make_core Y (PySem.W.looks_findIn kin hi) (fun self=>PySem.W.Looks.of_pure (PySem.W.oi_bind self)) (.inr ⟨rfl,rfl⟩) ?_
 have e1:((hh.push emptyDict).push (instObj C hh.objs.size)).get? (hh.objs.size+1)=some (instObj C hh.objs.size):=by
  have:=Heap.get?_push_size (h:=hh.push emptyDict) (o:=instObj C hh.objs.size) rfl
  rwa [Heap.size_push] at this
 have t1:PySem.W.Looks (model X.prog X.w) ((hh.push emptyDict).push (instObj C hh.objs.size)) (typeOf (.ref (hh.objs.size+1))) (.ref C):=(PySem.W.Looks.ld e1).andThen .now
 have t2:PySem.W.Looks (model X.prog X.w) ((hh.push emptyDict).push (instObj C hh.objs.size)) (isInstance (.ref (hh.objs.size+1)) (.type "object")) true:=t1.andThen (Y.top.keeps fun b o e=>Heap.get?_push_of_some _ (Heap.get?_push_of_some _ e))
 refine codeAny_call_builtin PySem.W.oi_plain PySem.W.entry_oi (@PySem.W.check_slot (model X.prog X.w) _ _ _ "object.__init__" "object" "__init__" (.ref (hh.objs.size+1)) [] [] _ PySem.W.oi_kind PySem.W.oi_split t2 (PySem.W.oi_args (.ref (hh.objs.size+1))) ?_)
 show wpAny _ _ (Builtin.«object.__init__» ⟨[.ref (hh.objs.size+1)],[]⟩) _ _ _
 rw [PySem.W.oi_run]
 exact wpAny_pure (And.intro rfl ⟨.ref _,_,I2,rfl,q⟩)
def ylU {κ:Type}(P:Program) (w:World) (K:PySem.W.Frag) (mg:Str->Option Value) (base:Heap) (k:Nat) (A:κ->Addr) (m:Str) (sp:κ->Sp):Prop :=
 ∀ c:κ,Cls K (A c)/\((∀ vs H Q E,¬ sp c vs H Q E)\/∃ f fd ps,Meth K (A c) m f/\FnOk P w K mg base CX0 k f fd ps (sp c)/\Binds K fd ps [])
theorem ypJ {κ:Type}{A:κ->Addr}{m:Str}{sp:κ->Sp}{k:Nat}{o:Expr}{ta:TE}{apos pos:Pos}{pl:Sem Bool}(he:PE X o ta) (G:ylU X.prog X.w X.K X.mg X.base k A m sp) (hr:Room k X.A)
  (ht:eval (.Call (.Attribute o m apos) [] [] pos) X.env=(do
   let ov <- eval o X.env
   standAt apos.atName
   let (f,first) <- holding [ov] (getMethod ov m pl)
   callWith pos f first (backTo pos (starEach [] X.env)) (backToKw pos (keywordEach [] X.env))):=by rfl):PE X (.Call (.Attribute o m apos) [] [] pos) (yua A m sp ta):=by
 intro pins s σ H Q I h
 refine PySem.W.methodCall_KW (pl:=pl) (thn (he pins s σ H _ I h) fun u s1 ⟨x,H1,I1,rx,a,c,dx,fs,ex,ea,l,q⟩=>?_) ht
 subst ex
 obtain rfl:u=Value.ref a:=rx
 obtain ⟨cl,hn|⟨f,fd,ps,hm,F,hb⟩⟩:=G c
 .exact (hn _ _ _ _ q).elim
 refine ygB I1 ea cl hm l ?_
 exact PySem.W.callWith_K0 (first:=[.ref a]) I1.kIn hm.kp (ymU (us:=[.ref a]) (vs:=[.ref a]) (dvs:=[]) (ds:=[]) F hr hb .nil ynX I1 (.cons rfl .nil) q)
end
end L2
namespace L2
open PySem PySem.Spec PyProof.Rows
def ExO (D a:Addr):HO:=.ext fun h=>∃ ox,PySem.W.InstAt h a ox D none
def xAd (K:PySem.W.Frag) (n:Str):Addr:=match nsIn K mainGlobals n with|some (some (.ref D))=>D|_=>0
section
variable {X:Cx}
theorem yhN:CallR X (.builtin "isinstance") (yCu X.K):=by
 intro pins s σ H xs us Q I r h
 obtain ⟨x,c,b,rfl,⟨t,u',ty,hc,hk⟩,q⟩:=h
 obtain ⟨u,w',rfl,ru,rc⟩:=vals2 r
 have e:w'=u':=by
  cases c<;>first|(cases hc;exact rc)|cases hc
 subst e
 exact ypu I ru ty hk fun tk=>⟨.bl b,H,I.tok tk,rfl,q⟩
theorem yiM:∀ (cs:List Nat) (a:Nat),(∀ c∈cs,48<=c/\c<=57)->((cs.foldl (fun acc c=>acc*10+(c-48)) a:Nat):Int)=cs.foldl (fun (a:Int) (c:Nat)=>a*10+((c:Int)-48)) (a:Int)
 | [],_,_=>rfl
 | c::cs,a,h=>by
  have hc:=h c mem_cons_self
  rw [List.foldl_cons,List.foldl_cons,yiM cs _ fun d hd=>h d (mem_cons_of_mem _ hd)]
  congr 1
  omega
theorem yku:CallR X (.type "int") yyK:=by
 intro pins s σ H xs us Q I r h
 obtain ⟨z,rfl,hne,hd,hl,q⟩:=h
 obtain ⟨u,rfl,t,rfl⟩:=vals1 r
 have e:=PySem.intText_digits (x:=z) hd hne (by omega)
 have e2:((PySem.NumText.digitsVal z.cps.toList:Nat):Int)=yoU z.cps.toList:=yiM z.cps.toList 0 hd
 rw [e2] at e
 exact PySem.W.KIN.call_text e hl ⟨.int _,H,I.tok _,⟨_,rfl⟩,q⟩
end
end L2
namespace L2
open PySem PySem.Spec PyProof.Rows
section
variable {X:Cx}
theorem yvx {x:Str}{n:Int}{t:Tok}{pos:Pos}(hg:Gl X x) (hm:X.mg x=some (.int n t)) (hd:(x == ("__debug__":Str))=false:=by decide):PE X (.Name x pos) (tC (.int n)):=yjq hg hm ⟨t,rfl⟩ hd
theorem yvy {x:Str}{n:Str}{t:Tok}{pos:Pos}(hg:Gl X x) (hm:X.mg x=some (.str n t)) (hd:(x == ("__debug__":Str))=false:=by decide):PE X (.Name x pos) (tC (.str n)):=yjq hg hm ⟨t,rfl⟩ hd
theorem yvz {x:Str}{a:Addr}{pos:Pos}(hg:Gl X x) (hm:X.mg x=some (.ref a)) (hd:(x == ("__debug__":Str))=false:=by decide):PE X (.Name x pos) (tC (.ref a)):=yjq hg hm rfl hd
theorem yyP {x:Str}{n:String}{pos:Pos}(hg:Gl X x) (hm:X.mg x=none) (hv:bootBuiltins x=some (.type n)) (hn:x≠"__name__":=by decide) (hd:(x == ("__debug__":Str))=false:=by decide):PE X (.Name x pos) (tC (.ty n)):=yvd hg hm hv rfl hn hd
end
end L2
namespace L2
open PySem PySem.Spec PyProof.Rows
theorem ylV {K:PySem.W.Frag}{H:Hp}{i:Int}:IsI K H (.int i) (.ty "str") false:=⟨_,_,.int i,rfl,by with_unfolding_all rfl⟩
theorem ykv {K:PySem.W.Frag}{H:Hp}{i:Int}:IsI K H (.int i) (.ty "list") false:=⟨_,_,.int i,rfl,by with_unfolding_all rfl⟩
theorem yjy {K:PySem.W.Frag}{H:Hp}{i:Int}:IsI K H (.int i) (.ty "tuple") false:=⟨_,_,.int i,rfl,by with_unfolding_all rfl⟩
theorem ykw {K:PySem.W.Frag}{H:Hp}{i:Int}:IsI K H (.int i) (.ty "dict") false:=⟨_,_,.int i,rfl,by with_unfolding_all rfl⟩
theorem ynY {K:PySem.W.Frag}{H:Hp}{i:Bool}:IsI K H (.bl i) (.ty "int") true:=⟨_,_,.bl i,rfl,by with_unfolding_all rfl⟩
theorem ynZ {K:PySem.W.Frag}{H:Hp}{i:Bool}:IsI K H (.bl i) (.ty "str") false:=⟨_,_,.bl i,rfl,by with_unfolding_all rfl⟩
theorem ylW {K:PySem.W.Frag}{H:Hp}{i:Bool}:IsI K H (.bl i) (.ty "list") false:=⟨_,_,.bl i,rfl,by with_unfolding_all rfl⟩
theorem ykx {K:PySem.W.Frag}{H:Hp}{i:Bool}:IsI K H (.bl i) (.ty "tuple") false:=⟨_,_,.bl i,rfl,by with_unfolding_all rfl⟩
theorem ylX {K:PySem.W.Frag}{H:Hp}{i:Bool}:IsI K H (.bl i) (.ty "dict") false:=⟨_,_,.bl i,rfl,by with_unfolding_all rfl⟩
theorem ylY {K:PySem.W.Frag}{H:Hp}{i:Str}:IsI K H (.str i) (.ty "int") false:=⟨_,_,.str i,rfl,by with_unfolding_all rfl⟩
theorem yky {K:PySem.W.Frag}{H:Hp}{i:Str}:IsI K H (.str i) (.ty "bool") false:=⟨_,_,.str i,rfl,by with_unfolding_all rfl⟩
theorem ykz {K:PySem.W.Frag}{H:Hp}{i:Str}:IsI K H (.str i) (.ty "list") false:=⟨_,_,.str i,rfl,by with_unfolding_all rfl⟩
theorem yjz {K:PySem.W.Frag}{H:Hp}{i:Str}:IsI K H (.str i) (.ty "tuple") false:=⟨_,_,.str i,rfl,by with_unfolding_all rfl⟩
theorem ykA {K:PySem.W.Frag}{H:Hp}{i:Str}:IsI K H (.str i) (.ty "dict") false:=⟨_,_,.str i,rfl,by with_unfolding_all rfl⟩
theorem ykB {K:PySem.W.Frag}{H:Hp}:IsI K H (.non) (.ty "bool") false:=⟨_,_,.non,rfl,by with_unfolding_all rfl⟩
theorem ylZ {K:PySem.W.Frag}{H:Hp}:IsI K H (.non) (.ty "str") false:=⟨_,_,.non,rfl,by with_unfolding_all rfl⟩
theorem ykC {K:PySem.W.Frag}{H:Hp}:IsI K H (.non) (.ty "list") false:=⟨_,_,.non,rfl,by with_unfolding_all rfl⟩
theorem yjA {K:PySem.W.Frag}{H:Hp}:IsI K H (.non) (.ty "tuple") false:=⟨_,_,.non,rfl,by with_unfolding_all rfl⟩
theorem ykD {K:PySem.W.Frag}{H:Hp}:IsI K H (.non) (.ty "dict") false:=⟨_,_,.non,rfl,by with_unfolding_all rfl⟩
theorem yma {K:PySem.W.Frag}{H:Hp}{a:Addr}{xs:List V}(e:H a=some (.lst xs)):IsI K H (.ref a) (.ty "int") false:=⟨_,_,.lst e,rfl,by with_unfolding_all rfl⟩
theorem ykE {K:PySem.W.Frag}{H:Hp}{a:Addr}{xs:List V}(e:H a=some (.lst xs)):IsI K H (.ref a) (.ty "bool") false:=⟨_,_,.lst e,rfl,by with_unfolding_all rfl⟩
theorem ymb {K:PySem.W.Frag}{H:Hp}{a:Addr}{xs:List V}(e:H a=some (.lst xs)):IsI K H (.ref a) (.ty "str") false:=⟨_,_,.lst e,rfl,by with_unfolding_all rfl⟩
theorem yjB {K:PySem.W.Frag}{H:Hp}{a:Addr}{xs:List V}(e:H a=some (.lst xs)):IsI K H (.ref a) (.ty "tuple") false:=⟨_,_,.lst e,rfl,by with_unfolding_all rfl⟩
theorem ykF {K:PySem.W.Frag}{H:Hp}{a:Addr}{xs:List V}(e:H a=some (.lst xs)):IsI K H (.ref a) (.ty "dict") false:=⟨_,_,.lst e,rfl,by with_unfolding_all rfl⟩
theorem yjC {K:PySem.W.Frag}{H:Hp}{a:Addr}(e:(∃ xs,H a=some (.tup xs))\/∃ o,K.lookup a=some o/\o.cls=.type "tuple"):IsI K H (.ref a) (.ty "tuple") true:=e.elim (fun ⟨_,e⟩=>⟨_,_,.tup e,rfl,by with_unfolding_all rfl⟩) fun ⟨_,e,c⟩=>⟨_,_,.kt e c,rfl,by with_unfolding_all rfl⟩
theorem ymc {K:PySem.W.Frag}{H:Hp}{a:Addr}(e:(∃ xs,H a=some (.tup xs))\/∃ o,K.lookup a=some o/\o.cls=.type "tuple"):IsI K H (.ref a) (.ty "int") false:=e.elim (fun ⟨_,e⟩=>⟨_,_,.tup e,rfl,by with_unfolding_all rfl⟩) fun ⟨_,e,c⟩=>⟨_,_,.kt e c,rfl,by with_unfolding_all rfl⟩
theorem ykG {K:PySem.W.Frag}{H:Hp}{a:Addr}(e:(∃ xs,H a=some (.tup xs))\/∃ o,K.lookup a=some o/\o.cls=.type "tuple"):IsI K H (.ref a) (.ty "bool") false:=e.elim (fun ⟨_,e⟩=>⟨_,_,.tup e,rfl,by with_unfolding_all rfl⟩) fun ⟨_,e,c⟩=>⟨_,_,.kt e c,rfl,by with_unfolding_all rfl⟩
theorem ymd {K:PySem.W.Frag}{H:Hp}{a:Addr}(e:(∃ xs,H a=some (.tup xs))\/∃ o,K.lookup a=some o/\o.cls=.type "tuple"):IsI K H (.ref a) (.ty "str") false:=e.elim (fun ⟨_,e⟩=>⟨_,_,.tup e,rfl,by with_unfolding_all rfl⟩) fun ⟨_,e,c⟩=>⟨_,_,.kt e c,rfl,by with_unfolding_all rfl⟩
theorem ykH {K:PySem.W.Frag}{H:Hp}{a:Addr}(e:(∃ xs,H a=some (.tup xs))\/∃ o,K.lookup a=some o/\o.cls=.type "tuple"):IsI K H (.ref a) (.ty "list") false:=e.elim (fun ⟨_,e⟩=>⟨_,_,.tup e,rfl,by with_unfolding_all rfl⟩) fun ⟨_,e,c⟩=>⟨_,_,.kt e c,rfl,by with_unfolding_all rfl⟩
theorem ykI {K:PySem.W.Frag}{H:Hp}{a:Addr}(e:(∃ xs,H a=some (.tup xs))\/∃ o,K.lookup a=some o/\o.cls=.type "tuple"):IsI K H (.ref a) (.ty "dict") false:=e.elim (fun ⟨_,e⟩=>⟨_,_,.tup e,rfl,by with_unfolding_all rfl⟩) fun ⟨_,e,c⟩=>⟨_,_,.kt e c,rfl,by with_unfolding_all rfl⟩
end L2
namespace L2
open PySem PySem.Spec PyProof.Rows
theorem yna {K:PySem.W.Frag}{C:Addr}:PySem.W.kitOne K (.ref C) (.ref C)=some true:=by
 unfold PySem.W.kitOne
 have:((Value.ref C) == (Value.ref C))=true:=by simp
 rw [if_pos this]
theorem ysi {K:PySem.W.Frag}{C C':Addr}{b:Bool}(hm:mroIn K C' (.type "object")=some true) (ht:typeIn K (.ref C')=some (.type "type")) (hs:subIn K (.ref C) (.ref C')=some b):PySem.W.kitCls K (.ref C) (.ref C')=some b:=by
 unfold PySem.W.kitCls
 have h1:(PySem.W.clsIn K C').isSome=true:=by
  unfold mroIn at hm
  cases e:PySem.W.clsIn K C' with
  | none=>rw [e] at hm;cases hm
  | some c=>rfl
 have h2:(typeIn K (.ref C') == some (.type "type"))=true:=by rw [ht];simp
 show (if _ then _ else _)=_
 rw [if_pos (by rw [h1,h2];rfl)]
 exact hs
theorem yge {K:PySem.W.Frag}{C C':Addr}(hn:(C == C')=false) (hm:mroIn K C' (.type "object")=some true) (ht:typeIn K (.ref C')=some (.type "type")) (hs:subIn K (.ref C) (.ref C')=some false):PySem.W.kitOne K (.ref C) (.ref C')=some false:=by
 unfold PySem.W.kitOne
 have:¬ ((Value.ref C) == (Value.ref C'))=true:=by
  intro z
  have z:=eq_of_beq z
  cases z
  simp at hn
 rw [if_neg this]
 exact ysi hm ht hs
theorem all_cons {α:Type}{p:α->Prop}{a:α}{l:List α}(h:p a) (t:∀ x∈l,p x):∀ x∈a::l,p x:=fun x hx=>by
 rcases mem_cons.mp hx with e|e
 .rw [e];exact h
 .exact t x e
end L2
namespace L2
open PySem PySem.Spec PyProof.Rows
noncomputable def Exc (h:Heap) (a:Addr) (C:Value) (T:Option Addr):Prop:=∃ o vs,h.get? a=some o/\(o.cls=C/\o.dict=none)/\o.data=.fields vs/\match T with
 | none=>vs[1]?=some .none
 | some T=>vs[1]?=some (.ref T)/\T≠a/\∃ oT ts,h.get? T=some oT/\oT.data=.fields ts/\ts[3]?=some .none
noncomputable def ExcW (h:Heap) (a:Addr) (C:Value) (T:Option Addr):Prop:=∃ o vs,h.get? a=some o/\(o.cls=C/\o.dict=none)/\o.data=.fields vs/\match T with
 | none=>vs[1]?=some .none
 | some T=>vs[1]?=some (.ref T)/\T≠a/\∃ oT ts,h.get? T=some oT/\oT.data=.fields ts/\3<ts.size
theorem Exc.w {h:Heap}{a:Addr}{C:Value}{T:Option Addr}(x:Exc h a C T):ExcW h a C T:=by
 obtain ⟨o,vs,ho,hc,d,q⟩:=x
 refine ⟨o,vs,ho,hc,d,?_⟩
 cases T with
 | none=>exact q
 | some t =>
  obtain ⟨q1,q2,oT,ts,q3,q4,q5⟩:=q
  exact ⟨q1,q2,oT,ts,q3,q4,(Array.getElem?_eq_some_iff.mp q5).1⟩
structure Lv (fs:List Addr) (a:Addr) (T:Option Addr) (h h':Heap):Prop where
 keep:∀ b o,h.get? b=some o->b≠a->some b≠T->b∉fs->h'.get? b=some o
 slot:∀ b o,h.get? b=some o->b≠a->some b≠T->b∈fs->∃ sl,h'.get? b=some { o with slots:=sl }
 there:∀ b o,h.get? b=some o->∃ o',h'.get? b=some o'
section
variable {M:Model}{A:Around}{E:Value->Shared->Prop}{s:Shared}{base:Heap}{env:Env}{outer:List Env}{L a:Addr}{C:Value}{T:Option Addr}{fs:List Addr}{h h1:Heap}
theorem yiv {l:List Env}:(env::l).dropWhile (fun x=>x.frame != env.frame)=env::l:=by
 simp [List.dropWhile]
theorem yoa {Q:Value->Shared->Prop}{ce:Env}(hce:ce.frame=env.frame) (hf:A.frames=some (env::outer)) (ff:s.heap.FunFrames base (env::outer)) (hL:env.frame=some L)
  (k:∀ h',Heap.SlotsOnly (frs (env::outer)) s.heap h'->Q (.ref L) { s with heap:=h' }):wpAny M A (PySem.frameOf ce) Q E s:=by
 unfold PySem.frameOf
 refine wpAny_bind (wpAny_frameEnvs hf ?_)
 rw [hce,yiv]
 unfold frameObject
 refine wpAny_bind (wpAny_bind (wpAny_readyFrames_fun ff fun h' hs=>?_))
 rw [hL]
 exact wpAny_pure (wpAny_pure (k h' hs))
theorem yBL {o:Obj}{vs:Array Value}{f:Array Value->Array Value}(d:o.data=.fields vs):o.mapFields f={ o with data:=.fields (f vs) }/\(o.mapFields f).isFreed=false:=by
 obtain ⟨c,dd,da,sl⟩:=o
 cases d
 exact ⟨rfl,rfl⟩
theorem ygZ {Q:Unit->Shared->Prop}{o:Obj}{vs:Array Value}{hd:Value}{ce:Env}(hce:ce.frame=env.frame) (hf:A.frames=some (env::outer)) (ff:s.heap.FunFrames base (env::outer)) (hL:env.frame=some L) (ho:s.heap.get? a=some o) (d:o.data=.fields vs) (hv:1<vs.size)
  (k:∀ h' ts,h'.get? a=some { o with data:=.fields (vs.setIfInBounds 1 (.ref s.heap.objs.size)) }->h'.get? s.heap.objs.size=some ⟨.type "traceback",none,.fields ts,#[]⟩->3<ts.size->Lv (frs (env::outer)) a none s.heap h'->Q () { s with heap:=h' }) :
  wpAny M A (do
   let fo <- PySem.frameOf ce
   let pl <- entryPlaceOf L (hd != .none)
   let en <- EntryCells.newEntry hd fo .none (rawInt L) .none pl
   setField (.ref a) 1 en) Q E s:=by
 have na:a∉frs (env::outer):=fun z=>by
  obtain ⟨_,o',e1,e2⟩:=ff.mem z
  rw [ho] at e1
  cases e1
  exact e2 _ d
 refine wpAny_bind (yoa hce hf ff hL fun h1 sl=>?_)
 obtain ⟨sz,sk,ss⟩:=sl
 refine wpAny_bind (wpAny_entryPlaceOf fun pl hp=>?_)
 have ho1:h1.get? a=some o:=by rw [sk a na];exact ho
 have hlt:=Heap.lt_size ho1
 unfold EntryCells.newEntry newFields
 refine wpAny_bind (wpAny_newObj_type ?_ ?_)
 .have ho2:=Heap.get?_push_of_some (⟨.type "traceback",none,.fields ([hd,.ref L,.none,rawInt L,.none]++if pl.isEmpty=true then replicate 6 .none else pl).toArray,#[]⟩:Obj) ho1
  refine wpAny_setField ho2 d hv ?_
  have hs:=sz
  obtain ⟨m1,m2⟩:=yBL (f:=fun x=>x.setIfInBounds 1 (.ref h1.objs.size)) d
  refine k _ ([hd,.ref L,.none,rawInt L,.none]++if pl.isEmpty=true then replicate 6 .none else pl).toArray ?_ ?_ ?_ ⟨?_,?_,?_⟩
  .rw [<- hs,Heap.get?_update_self _ ho2 m2,m1]
  .rw [<- hs,Heap.get?_update_ne _ _ _ _ (fun z=>by rw [z] at hlt;exact lt_irrefl _ hlt)]
   exact Heap.get?_push_size _ rfl
  .simp
  .intro b ob hb n1 _ n3
   rw [Heap.get?_update_ne _ _ _ _ n1]
   exact Heap.get?_push_of_some _ (by rw [sk b n3];exact hb)
  .intro b ob hb n1 _ _
   obtain ⟨sl,e⟩:=ss b ob hb
   refine ⟨sl,?_⟩
   rw [Heap.get?_update_ne _ _ _ _ n1]
   exact Heap.get?_push_of_some _ e
  .intro b ob hb
   by_cases e:b=a
   .rw [e]
    exact ⟨_,Heap.get?_update_self _ ho2 m2⟩
   .obtain ⟨sl,e'⟩:=ss b ob hb
    refine ⟨{ ob with slots:=sl },?_⟩
    rw [Heap.get?_update_ne _ _ _ _ e]
    exact Heap.get?_push_of_some _ e'
 .rcases hp with rfl|⟨_,_,_,_,_,_,_,rfl⟩
  .show _<=_;simp;decide
  .show _<=_;simp;decide
theorem ExcW.nofr (x:ExcW s.heap a C T) (ff:s.heap.FunFrames base (env::outer)):a∉frs (env::outer)/\∀ t,T=some t->t∉frs (env::outer):=by
 obtain ⟨o,vs,ho,_,d,h⟩:=x
 refine ⟨fun z=>?_,fun t et z=>?_⟩
 .obtain ⟨_,o',e1,e2⟩:=ff.mem z
  rw [ho] at e1
  cases e1
  exact e2 _ d
 .subst et
  obtain ⟨_,_,oT,ts,e1,e2,_⟩:=h
  obtain ⟨_,o',f1,f2⟩:=ff.mem z
  rw [e1] at f1
  cases f1
  exact f2 _ e2
theorem yhO {Q:Unit->Shared->Prop}{o oT:Obj}{vs ts:Array Value}{t:Addr}(ho:s.heap.get? a=some o) (d:o.data=.fields vs) (hv:vs[1]?=some (.ref t)) (hT:s.heap.get? t=some oT) (dT:oT.data=.fields ts) (h3:3<ts.size) (k:Q () { s with heap:=s.heap.update t (Obj.mapFields fun x=>x.setIfInBounds 3 .none) }):wpAny M A (setFlight (.ref a) none) Q E s:=wpAny_setFlight_none ho d hv hT dT h3 k
theorem ynb {Q:Unit->Shared->Prop}(hf:A.frames=some (env::outer)) (ff:s.heap.FunFrames base (env::outer)) (hL:env.frame=some L) (x:ExcW s.heap a C T)
  (k:∀ h' t,Exc h' a C (some t)->(s.heap.objs.size<=t\/T=some t)->Lv (frs (env::outer)) a T s.heap h'->Q () { s with heap:=h' }):wpAny M A (noteFrame (.ref a) env) (fun _ s'=>wpAny M A (setFlight (.ref a) none) Q E s') E s:=by
 obtain ⟨na,nt⟩:=x.nofr ff
 obtain ⟨o,vs,ho,hc,d,h⟩:=x
 have s1:∀ {v:Value},vs[1]?=some v->1<vs.size:=fun e=>(Array.getElem?_eq_some_iff.mp e).1
 have nn:s.heap.objs.size<=s.heap.objs.size:=Nat.le_refl _
 have fin:∀ (s1:Shared) (h':Heap) (ts:Array Value),s1.heap.objs.size=s.heap.objs.size->s1.heap.get? a=some o->h'.get? a=some { o with data:=.fields (vs.setIfInBounds 1 (.ref s1.heap.objs.size)) }->h'.get? s1.heap.objs.size=some ⟨.type "traceback",none,.fields ts,#[]⟩->3<ts.size->1<vs.size ->
   (∀ h2,(∀ b,b≠s.heap.objs.size->h2.get? b=h'.get? b)->Exc h2 a C (some s.heap.objs.size)->Q () { s1 with heap:=h2 })->wpAny M A (setFlight (.ref a) none) Q E { s1 with heap:=h' }:=by
  intro s1 h' ts ez ea e1 e2 h3 hv kk
  have hlt:a<s.heap.objs.size:=by rw [<- ez];exact Heap.lt_size ea
  rw [ez] at e1 e2
  refine yhO (s:={ s1 with heap:=h' }) (t:=s.heap.objs.size) (o:={ o with data:=.fields (vs.setIfInBounds 1 (.ref s.heap.objs.size)) }) (vs:=vs.setIfInBounds 1 (.ref s.heap.objs.size)) e1 rfl (by simp [hv]) e2 rfl h3 (kk _ (fun b hb=>Heap.get?_update_ne _ _ _ _ hb) ⟨{ o with data:=.fields (vs.setIfInBounds 1 (.ref s.heap.objs.size)) },vs.setIfInBounds 1 (.ref s.heap.objs.size),by rw [Heap.get?_update_ne _ _ _ _ (ne_of_lt hlt)];exact e1,hc,rfl,by simp [hv],(ne_of_lt hlt).symm,_,_,Heap.get?_update_self _ e2 rfl,rfl,by simp [h3]⟩)
 unfold noteFrame
 rw [hL]
 cases T with
 | none =>
  refine wpAny_bind (wpAny_field ho d h ?_)
  rw [if_neg (by decide)]
  refine ygZ rfl hf ff hL ho d (s1 h) fun h' ts e1 e2 h3 lv=>?_
  refine fin s h' ts rfl ho e1 e2 h3 (s1 h) fun h2 kp x2=>k h2 _ x2 (.inl nn) ⟨fun b ob hb n1 n2 n3=>?_,fun b ob hb n1 n2 n3=>?_,fun b ob hb=>?_⟩
  .rw [kp b (ne_of_lt (Heap.lt_size hb))];exact lv.keep b ob hb n1 n2 n3
  .rw [kp b (ne_of_lt (Heap.lt_size hb))];exact lv.slot b ob hb n1 n2 n3
  .rw [kp b (ne_of_lt (Heap.lt_size hb))];exact lv.there b ob hb
 | some t =>
  obtain ⟨h,hta,oT,tts,hT,dT,h3'⟩:=h
  have h3:tts[3]?=some tts[3]:=Array.getElem?_eq_getElem h3'
  refine wpAny_bind (wpAny_field ho d h ?_)
  rw [if_pos (show (Value.ref t != Value.none)=true from rfl)]
  refine wpAny_bind (wpAny_field hT dT h3 ?_)
  by_cases hfl:(tts[3] == rawInt (L:Int))=true
  .rw [if_pos hfl]
   refine wpAny_pure ?_
   obtain ⟨m1,m2⟩:=yBL (f:=fun x=>x.setIfInBounds 3 .none) dT
   refine yhO ho d h hT dT h3' (k _ t ⟨o,vs,by rw [Heap.get?_update_ne _ _ _ _ hta.symm];exact ho,hc,d,h,hta,_,_,Heap.get?_update_self _ hT m2,by rw [m1],by simp [h3']⟩ (.inr rfl) ⟨fun b ob hb n1 n2 n3=>?_,fun b ob hb n1 n2 n3=>?_,fun b ob hb=>?_⟩)
   .rw [Heap.get?_update_ne _ _ _ _ (fun z=>n2 (by rw [z]))];exact hb
   .exact ⟨ob.slots,by rw [Heap.get?_update_ne _ _ _ _ (fun z=>n2 (by rw [z]))];exact hb⟩
   .by_cases e:b=t
    .exact ⟨_,by rw [e];exact Heap.get?_update_self _ hT m2⟩
    .exact ⟨ob,by rw [Heap.get?_update_ne _ _ _ _ e];exact hb⟩
  rw [if_neg hfl]
  refine wpAny_bind (wpAny_setField hT dT h3' ?_)
  obtain ⟨m1,m2⟩:=yBL (f:=fun x=>x.setIfInBounds 3 .none) dT
  have ho':(s.heap.update t (Obj.mapFields fun x=>x.setIfInBounds 3 .none)).get? a=some o:=by rw [Heap.get?_update_ne _ _ _ _ hta.symm];exact ho
  have ez:(s.heap.update t (Obj.mapFields fun x=>x.setIfInBounds 3 .none)).objs.size=s.heap.objs.size:=by simp [Heap.update]
  refine ygZ (s:={ s with heap:=s.heap.update t (Obj.mapFields fun x=>x.setIfInBounds 3 .none) }) rfl hf (base:=base) ?_ hL ho' d (s1 h) fun h' ts e1 e2 h3 lv=>?_
  .refine ff.of_keeps fun b ob hb nf=>⟨ob,?_,rfl⟩
   rw [Heap.get?_update_ne _ _ _ _ (fun z=>by rw [z,hT] at hb;cases hb;exact nf _ dT)]
   exact hb
  .refine fin { s with heap:=s.heap.update t (Obj.mapFields fun x=>x.setIfInBounds 3 .none) } h' ts ez ho' e1 e2 h3 (s1 h) fun h2 kp x2=>k h2 _ x2 (.inl nn) ⟨fun b ob hb n1 n2 n3=>?_,fun b ob hb n1 n2 n3=>?_,fun b ob hb=>?_⟩
   .rw [kp b (ne_of_lt (Heap.lt_size hb))];exact lv.keep b ob (by rw [Heap.get?_update_ne _ _ _ _ (fun z=>n2 (by rw [z]))];exact hb) n1 (by simp) n3
   .rw [kp b (ne_of_lt (Heap.lt_size hb))];exact lv.slot b ob (by rw [Heap.get?_update_ne _ _ _ _ (fun z=>n2 (by rw [z]))];exact hb) n1 (by simp) n3
   .rw [kp b (ne_of_lt (Heap.lt_size hb))]
    by_cases e:b=t
    .exact lv.there b (oT.mapFields fun x=>x.setIfInBounds 3 .none) (by rw [e];exact Heap.get?_update_self _ hT m2)
    .exact lv.there b ob (by rw [Heap.get?_update_ne _ _ _ _ e];exact hb)
theorem yob {Q:Unit->Shared->Prop}(hf:A.frames=some (env::outer)) (ff:s.heap.FunFrames base (env::outer)) (hL:env.frame=some L) (x:ExcW s.heap a C T)
  (k:∀ h' t,Exc h' a C (some t)->(s.heap.objs.size<=t\/T=some t)->Lv (frs (env::outer)) a T s.heap h'->Q () { s with heap:=h' }):wpAny M A (leaving env (.ref a)) Q E s:=wpAny_bind (ynb hf ff hL x k)
end
end L2
namespace L2
open PySem PySem.Spec PyProof.Rows
def CXr (P:Program) (w:World):CXT:=fun outer H s E e s'=>∃ a C T H',e=.ref a/\Exc s'.heap a C (some T)/\s.heap.get? a=none/\s.heap.get? T=none/\H' a=none/\H' T=none/\s'.os=s.os/\AllBare s'.gens/\Un (frs outer) [] H H' s.heap s'.heap/\HOk P w H' s'.heap/\E C (some a) H'
structure Fly (X:Cx) (a:Addr) (C:Value) (T:Option Addr) (H:Hp) (s:Shared):Prop where
 x:ExcW s.heap a C T
 na:X.s₀.heap.get? a=none
 nt:∀ t,T=some t->X.s₀.heap.get? t=none/\H t=none
 ha:H a=none
 inv:∃ pins σ,Inv X pins σ H s
section
variable {P:Program}{w:World}{K:PySem.W.Frag}{mg:Str->Option Value}{base:Heap}{N:List Str}{qual:Str}{scope:Scope}{f a:Addr}{cd C:Value}{A:Around}{outer:List Env}{s s':Shared}{H H':Hp}{E:XK}{T:Option Addr}
theorem yub (F:Fly (ymW (CXr P w) P w K mg base N qual scope f cd A outer s H E) a C T H' s') (q:E C (some a) H'):(ymW (CXr P w) P w K mg base N qual scope f cd A outer s H E).xe (.ref a) s':=by
 obtain ⟨x,na,nt,ha,pins,σ,I⟩:=F
 have na:s.heap.get? a=none:=na
 have nt:∀ t,T=some t->s.heap.get? t=none/\H' t=none:=nt
 have un:Un (frs outer) [] H H' s.heap s'.heap:=I.base
 have st:s'.heap.FunFrames base (envOfC qual scope s.heap.objs.size f cd::outer):=I.stack
 have sf:∀ b∈frs (envOfC qual scope s.heap.objs.size f cd::outer),H' b=none:=I.stkFree
 have lt:∀ {b:Addr}{o:Obj},s.heap.get? b=some o->b<s.heap.objs.size:=fun e=>Heap.lt_size e
 have sz:s.heap.objs.size<=s'.heap.objs.size:=I.sz
 show wpAny (model P w) (A.deeper (envOfC qual scope s.heap.objs.size f cd)) (leaving (envOfC qual scope s.heap.objs.size f cd) (.ref a)) (fun _ s''=>CXr P w outer H s E (.ref a) s'') _ s'
 refine yob (L:=s.heap.objs.size) (A:=A.deeper (envOfC qual scope s.heap.objs.size f cd)) (by have:=I.ok.frames;exact this) st rfl x fun h' t x' ht lv=>?_
 have hfs:∀ b,b∈frs (envOfC qual scope s.heap.objs.size f cd::outer)->b=s.heap.objs.size\/b∈frs outer:=fun b hb=>by
  rcases mem_cons.mp (show b∈s.heap.objs.size::frs outer from hb) with e|e
  .exact .inl e
  .exact .inr e
 have neT:∀ {b:Addr}{o:Obj},s.heap.get? b=some o->some b≠T:=fun {b o} hb z=>by rw [(nt b z.symm).1] at hb;cases hb
 have nea:∀ {b:Addr}{o:Obj},s.heap.get? b=some o->b≠a:=fun {b o} hb z=>by rw [z,na] at hb;cases hb
 have nt':s.heap.get? t=none/\H' t=none:=by
  rcases ht with ht|ht
  .refine ⟨?_,I.hok.fresh ht⟩
   cases e:s.heap.get? t with
   | none=>rfl
   | some o=>exact absurd (lt e) (Nat.not_lt_of_le (Nat.le_trans sz ht))
  .exact nt t ht
 refine ⟨a,C,t,H',rfl,x',na,nt'.1,ha,nt'.2,I.os,I.bare,⟨?_,?_,?_,?_,un.tups,un.frzs,un.tbls⟩,?_,q⟩
 .intro b o hb n1 n2 n3
  refine lv.keep b o (un.keep b o hb n1 n2 n3) (nea hb) (neT hb) fun z=>?_
  rcases hfs b z with e|e
  .exact ne_of_lt (lt hb) e
  .exact n2 e
 .intro b o hb n1 n2 n3
  obtain ⟨sl,e⟩:=un.slot b o hb n1 n2 n3
  obtain ⟨sl',e'⟩:=lv.slot b _ e (nea hb) (neT hb) (mem_cons_of_mem _ n2)
  exact ⟨sl',e'⟩
 .exact un.free
 .intro b o hb n1
  obtain ⟨o',e⟩:=un.there b o hb n1
  exact lv.there b o' e
 .intro b o hb
  have kp:∀ c u,(∃ v,H' c=some v)->s'.heap.get? c=some u->h'.get? c=some u:=fun c u ⟨v,hv⟩ hc=>lv.keep c u hc (fun z=>by rw [z,ha] at hv;cases hv) (fun z=>by rw [(nt c z.symm).2] at hv;cases hv) fun z=>by rw [sf c z] at hv;cases hv
  refine (I.hok b o hb).stay (fun c u hc=>kp c u ?_) (fun _ q=>q) fun _ _ q=>q
  rcases hc with e|e
  .exact ⟨o,by rw [e];exact hb⟩
  .exact ⟨_,e⟩
theorem yyQ {E':XK}(hE:∀ C a H',E' C a H'->E C a H'):yfa (CXr P w) (ymW (CXr P w) P w K mg base N qual scope f cd A outer s H E) E':=by
 rintro pins σ H1 s1 e s' I ⟨a,C,T,H',rfl,x,na,nt,ha,ht,os,bare,un,hok,q⟩
 have I':=I.call' (s':=s') os un hok bare (fun b z=>absurd z (by simp))
 have un1:Un (frs outer) [] H H1 s.heap s1.heap:=I.base
 have up:∀ b,s1.heap.get? b=none->s.heap.get? b=none:=fun b hb=>by
  cases e:s.heap.get? b with
  | none=>rfl
  | some o =>
   obtain ⟨o',e'⟩:=un1.there b o e (by simp)
   rw [hb] at e';cases e'
 exact yub ⟨x.w,up a na,fun t e=>by cases e;exact ⟨up _ nt,ht⟩,ha,pins,σ,I'⟩ (hE _ _ _ q)
end
end L2
namespace L2
open PySem PySem.Spec PyProof.Rows
structure XCls (K:PySem.W.Frag) (C:Addr):Prop where
 ex:∃ (nm q:Str) (N:Addr) (bs bm bmB:List Value) (hdct:Bool) (sn:List Str) (sub:List Value) (ab:Bool) (col:Option Bool) (dd:Option Addr) (k0 k1 k2 k3 k5:Option Value) (B newId initId:String) (mN:Str->Option Value),
  ExcBaseFacts B newId initId bmB/\bm.contains (.type "BaseException")=true/\mN "__init__" = none/\∀ h:Heap,K.In h->h.get? C=some (excClassObj nm q C N bs bm hdct sn sub ab col dd k0 k1 k2 k3 k5 newId)/\h.Ns N mN/\OwnTail h bmB bm
noncomputable def XEs (X:Cx) (E:XK):Prop:=∀ (a:Addr) (C:Value) (T:Option Addr) (H:Hp) (s:Shared),Fly X a C T H s->E C (some a) H->X.xe (.ref a) s
def yyR (C:Addr) (E:XK) (t:TE):TS:=fun _ σ H=>t σ H fun v H1=>[v].length=1/\∀ a,H1 a=none->E (.ref C) (some a) H1
theorem ObjOk.there {P:Program}{w:World}{H:Hp}{h:Heap}{a:Addr}{o:HO}(x:ObjOk P w H h a o):∃ u,h.get? a=some u:=by
 cases o with
 | lst xs=>obtain ⟨_,_,_,_,e⟩:=x;exact ⟨_,e⟩
 | tup xs=>obtain ⟨_,_,_,p⟩:=x;obtain ⟨_,e⟩:=p;first|exact ⟨_,e⟩|exact ⟨_,e.1⟩
 | dK kvs=>obtain ⟨_,_,_,_,o,_,_,e,_⟩:=x;exact ⟨_,e⟩
 | dT kvs=>obtain ⟨_,_,_,_,o,_,_,e,_⟩:=x;exact ⟨_,e⟩
 | set S n=>obtain ⟨o,_,_,_,e,_⟩:=x;exact ⟨_,e⟩
 | ins C dx fs=>obtain ⟨_,_,_,e,_⟩:=x;exact ⟨_,e⟩
 | own y=>obtain ⟨_,e⟩:=x;exact ⟨_,e⟩
 | xd fs=>obtain ⟨_,⟨_,_,_,e,_⟩,_⟩:=x;exact ⟨_,e⟩
 | rng lo hi=>obtain ⟨_,_,_,e⟩:=x;exact ⟨_,e⟩
 | frz ob u=>obtain ⟨e,_⟩:=x;exact ⟨_,e⟩
 | tbl ps=>exact ⟨_,x⟩
 | met f y=>exact ⟨_,x⟩
 | ext φ=>obtain ⟨_,⟨_,e⟩,_⟩:=x;exact ⟨_,e⟩
section
variable {X:Cx}{pins:List (Addr×Obj)}{σ:St}{H:Hp}{s:Shared}{h':Heap}
theorem Inv.more (I:Inv X pins σ H s) (k:∀ b o,s.heap.get? b=some o->h'.get? b=some o):Inv X pins σ H { s with heap:=h' } :=
 I.call (ch:=[]) (Un.kept k) (I.hok.kept k) I.bare (fun b z=>absurd z (by simp))
theorem ysj {C:Addr}{x:Str}{np cpos pos:Pos}{e:Expr}{t:TE}{E:XK}(c:XCls X.K C) (hE:XEs X E) (hx:X.ex=[]) (hc:X.calm=true) (hg:Gl X x) (hm:X.mg x=some (.ref C)) (ha:PE X e t)
  (hst:starEach [e] X.env=[(false,eval e X.env)]:=by rfl) (hd:(x == ("__debug__":Str))=false:=by decide):PS X (.Raise (some (.Call (.Name x np) [e] [] cpos)) none pos) (yyR C E t):=by
 intro pins s σ H D I h
 obtain ⟨nm,q,N,bs,bm,bmB,hdct,sn,sub,ab,col,dd,k0,k1,k2,k3,k5,B,newId,initId,mN,F,hb,hi,hk⟩:=c.ex
 refine wpAny_Raise_call_subT (nm:=nm) (q:=q) (N:=N) (bs:=bs) (hdct:=hdct) (sn:=sn) (sub:=sub) (ab:=ab) (col:=col) (dd:=dd) (k0:=k0) (k1:=k1) (k2:=k2) (k3:=k3) (k5:=k5) F hb (I.ok.hd hc) (by rw [hst];rfl) hi (yfQ I hg hm ⟨rfl,?_⟩ hd)
 rw [hst]
 refine Calls.evalArgs_plain ?_
 have pa:=yhJ ha ypv (by rw [hst];rfl) cpos pins s σ H (fun vs H1=>vs.length=1/\∀ a,H1 a=none->E (.ref C) (some a) H1) I h
 rw [hst] at pa
 refine thn pa fun us s1 ⟨vs,H1,I1,r,hl,q1⟩=>?_
 have hl:us.length=1:=by rw [<- r.length];exact hl
 obtain ⟨g1,g2,g3⟩:=hk s1.heap I1.kIn
 refine ⟨rfl,by rw [hl];decide,g1,g2,g3,fun h' a me=>?_⟩
 obtain ⟨t',e1,e2,e3⟩:=me.there
 have I2:=I1.more (h':=h') me.keeps
 have hn:H1 a=none:=by
  cases q:H1 a with
  | none=>rfl
  | some o =>
   obtain ⟨u,e⟩:=(I1.hok a o q).there
   rw [me.new] at e;cases e
 have n0:X.s₀.heap.get? a=none:=by
  cases e:X.s₀.heap.get? a with
  | none=>rfl
  | some o =>
   obtain ⟨u,e'⟩:=I1.base.there a o e (by rw [hx];simp)
   rw [me.new] at e';cases e'
 exact hE a (.ref C) none H1 _ ⟨⟨_,_,e1,⟨rfl,rfl⟩,rfl,rfl⟩,n0,(fun t z=>by cases z),hn,pins,σ,I2⟩ (q1 a hn)
end
end L2
namespace L2
open PySem PySem.Spec PyProof.Rows
section
variable {M:Model}{A:Around}{E:Value->Shared->Prop}{s:Shared}
theorem ypK {nm q:Str}{C N:Addr}{bs bm:List Value}{hdct:Bool}{sn:List Str}{sub:List Value}{ab:Bool}{col:Option Bool}{dd:Option Addr}{k0 k1 k2 k3 k5:Option Value}{newId:String}
  {nm' q':Str}{C' N':Addr}{bs' bm':List Value}{hdct':Bool}{sn':List Str}{sub':List Value}{ab':Bool}{col':Option Bool}{dd':Option Addr}{k0' k1' k2' k3' k5':Option Value}{newId':String}{e:Addr}{oe:Obj}{Q:Bool->Shared->Prop}
  (hC:s.heap.get? C=some (excClassObj nm q C N bs bm hdct sn sub ab col dd k0 k1 k2 k3 k5 newId)) (hH:s.heap.get? C'=some (excClassObj nm' q' C' N' bs' bm' hdct' sn' sub' ab' col' dd' k0' k1' k2' k3' k5' newId')) (he:s.heap.get? e=some oe) (hc:oe.cls=.ref C) (hb:bm'.contains (.type "BaseException")=true) (hq:Q ((Value.ref C::bm).contains (.ref C')) s) :
  wpAny M A (excMatches (.ref e) (.ref C')) Q E s:=by
 obtain ⟨h,g,d,t,os⟩:=s
 have hcB:(Value.ref C'::bm').contains (.type "BaseException")=true:=by rw [List.contains_cons,hb,Bool.or_true]
 unfold excMatches isInstance
 refine wpAny_bind (wpAny_bind ?_)
 show wpAny M A (typeOf (.ref C')) _ _ _
 unfold typeOf
 refine wpAny_bind (wpAny_loadPart_at hH (wpAny_pure (wpAny_of_eq tc_notTuple ?_)))
 refine wpAny_ite_false rfl (wpAny_bind (wpAny_pure (wpAny_bind ?_)))
 simp only [List.forIn_cons,List.forIn_nil]
 unfold isExcClass isType
 refine wpAny_bind (wpAny_bind (wpAny_bind (wpAny_bind (wpAny_loadPart_at hH (wpAny_pure (wpAny_ite_true rfl (wpAny_isSubtype_exc hH ?_)))))))
 rw [hcB]
 refine wpAny_ite_false rfl (wpAny_pure (wpAny_pure (wpAny_bind (wpAny_bind (wpAny_loadPart_at he (wpAny_pure (wpAny_bind (wpAny_bind ?_))))))))
 rw [hc]
 refine wpAny_bind (wpAny_isSubtype_exc hC ?_)
 generalize (Value.ref C::bm).contains (Value.ref C')=b at *
 cases b with
 | true=>exact wpAny_ite_true rfl (wpAny_pure (wpAny_pure (wpAny_pure hq)))
 | false=>exact wpAny_ite_false rfl (wpAny_pure (wpAny_pure (wpAny_pure hq)))
end
end L2
namespace L2
open PySem PySem.Spec PyProof.Rows
section
variable {prog:Program}{w:World}{A:Around}{E:Value->Shared->Prop}{s:Shared}{K:PySem.W.Frag}{a D:Addr}{ox:Obj}
theorem yvA:((Manifest.find? "BaseException").bind fun x=>List.lookup "__getattribute__" x.attrs)=some Manifest.AttrKind.slot:=by rfl'
theorem ga_slot:Slot "BaseException" "__getattribute__" "BaseException.__getattribute__" :=
 Slot.of (by rw [typeLookup_type,builtinLookup_eq_fast];rfl) (owner:="BaseException") (n:="__getattribute__") (by rfl) (by rfl) (by rfl) (Or.inl yvA) (by rw [isSubtype_type];rfl) (by rfl')
theorem ysk:entryFor table "BaseException.__getattribute__" = some Builtin.«object.__getattribute__»:=by exact entryFor_alias (id':="object.__getattribute__") (by rfl) (by rfl) (by rfl') (by rfl)
theorem yCx:builtinKind "BaseException.__getattribute__" = some Manifest.AttrKind.slot:=by first|rfl|rfl'
theorem yCy:splitId "BaseException.__getattribute__" = some ("BaseException","__getattribute__"):=by rfl
theorem yvB (x y:Value):argsOk "BaseException.__getattribute__" { pos:=[x,y] }:=by
 unfold argsOk
 first
  | rfl
  | skip
theorem ysl {tk:Tok}{Q:Unit->Shared->Prop}{x:Str}(L:∀ {Q:Bool->Shared->Prop},Q true s->wpAny (model prog w) A (isSubtype (.ref D) (.type "BaseException")) Q E s) (I:PySem.W.InstAt s.heap a ox D none) (hq:Q () s):wpAny (model prog w) A (checkBuiltinCall "BaseException.__getattribute__" { pos:=[.ref a,.str x tk] }) Q E s:=by
 have h:=yvB (.ref a) (.str x tk)
 unfold argsOk at h
 unfold checkBuiltinCall
 rw [yCx,yCy]
 unfold isInstance
 refine wpAny_bind (wpAny_bind ((PySem.W.InstAt.type I).at (L ?_)))
 refine wpAny_ite_false rfl ?_
 exact wpAny_of_eq h hq
theorem yyS {tk:Tok}{R:Result->Shared->Prop}(X:K.In s.heap) (I:PySem.W.InstAt s.heap a ox D none) (L:∀ {A:Around}{E:Value->Shared->Prop}{Q:Bool->Shared->Prop},Q true s->wpAny (model prog w) A (isSubtype (.ref D) (.type "BaseException")) Q E s)
  (hf:PySem.W.findObj K D none "__class__" = some (Builtin.ObjectAttr.Found.bind (.builtin "getset_descriptor.__get__") (.builtin "object.__class__"))) (hm:mroIn K D (.type "object")=some true) (hq:R (.ok (.ret (.ref D))) s) :
  codeAny (model prog w) A (.call (.builtin "BaseException.__getattribute__") { pos:=[.ref a,.str "__class__" tk] }) R s:=by
 refine codeAny_call_builtin ga_slot.plain ysk (ysl L I ?_)
 unfold Builtin.«object.__getattribute__» slotArgs
 refine wpAny_bind (wpAny_ite_false rfl (wpAny_ite_false rfl (wpAny_pure ?_)))
 refine wpAny_bind (wpAny_pure (wpAny_bind ((PySem.W.InstAt.type I).at (wpAny_bind ((PySem.W.looks_find X I hf).at ?_)))))
 show wpAny _ _ (Builtin.ObjectAttr.bindTo _ _ _ _) _ _ _
 unfold Builtin.ObjectAttr.bindTo
 refine wpAny_bind (wpAny_holding (wpAny_call (PySem.W.class_get X I hm ?_)))
 exact wpAny_pure hq
theorem ypL {Q:Option Value->Shared->Prop}(X:K.In s.heap) (I:PySem.W.InstAt s.heap a ox D none) (L:∀ {s:Shared}{A:Around}{E:Value->Shared->Prop}{Q:Bool->Shared->Prop},K.In s.heap->Q true s->wpAny (model prog w) A (isSubtype (.ref D) (.type "BaseException")) Q E s)
  (hga:findIn K (.ref D) "__getattribute__" = some (some (.builtin "BaseException.__getattribute__"))) (hgn:findIn K (.ref D) "__getattr__" = some none)
  (hf:PySem.W.findObj K D none "__class__" = some (Builtin.ObjectAttr.Found.bind (.builtin "getset_descriptor.__get__") (.builtin "object.__class__"))) (hm:mroIn K D (.type "object")=some true)
  (hq:Q (some (.ref D)) { s with toks:=s.toks+1 }):wpAny (model prog w) A (getAttr? (.ref a) "__class__") Q E s:=by
 obtain ⟨hh,g,d,t,os⟩:=s
 have L0:=fun M=>PySem.W.InstAt.type (M:=M) I
 have L1:=fun M=>PySem.W.looks_findIn (M:=M) X hga
 have L2:=fun M=>PySem.W.looks_findIn (M:=M) X hgn
 unfold getAttr? getAttrBy?
 refine wpAny_bind (wpAny_mkText (wpAny_bind (wpAny_attempt ?_)))
 unfold getAttrBy
 refine wpAny_holding (wpAny_bind ((L0 _).at (wpAny_bind ((L1 _).at ?_))))
 refine wpAny_ite_false rfl ?_
 unfold getAttrByItsOwn hookBefore
 refine wpAny_bind (wpAny_ite_true rfl ((L2 _).at (wpAny_bind (wpAny_attempt (wpAny_holding ?_)))))
 unfold callGetattribute boundAndCalled
 refine wpAny_ite_false rfl (wpAny_bind (wpAny_of_eq (ga_slot.bind _) (wpAny_call (yyS X I (fun q=>L X q) hf hm ?_))))
 exact wpAny_pure (wpAny_pure hq)
theorem ysm {c0:Value}{dd:Option Addr}{cd:ClassData}{sl:Array (Option Value)}(lk:K.lookup D=some ⟨c0,dd,.cls cd,sl⟩) (L:∀ {prog:Program}{w:World}{s:Shared}{A:Around}{E:Value->Shared->Prop}{Q:Bool->Shared->Prop},K.In s.heap->Q true s->wpAny (model prog w) A (isSubtype (.ref D) (.type "BaseException")) Q E s)
  (hga:findIn K (.ref D) "__getattribute__" = some (some (.builtin "BaseException.__getattribute__"))) (hgn:findIn K (.ref D) "__getattr__" = some none)
  (hf:PySem.W.findObj K D none "__class__" = some (Builtin.ObjectAttr.Found.bind (.builtin "getset_descriptor.__get__") (.builtin "object.__class__"))) (hm:mroIn K D (.type "object")=some true) :
  PySem.W.KitX K (.ref a) (.ref D) fun h=>∃ ox,PySem.W.InstAt h a ox D none where
 ty:=fun _ _ _ ⟨_,I⟩=>PySem.W.InstAt.type I
 it:=fun _ _ X _ A' Q' E' s' k q=>by
  unfold isType
  exact wpAny_bind (wpAny_loadPart (k D _ (X D _ lk)) (wpAny_pure q))
 ne:=fun h tp _ _ _ _ X htp=>by
  refine Bool.eq_false_iff.mpr fun z=>?_
  have e:D=tp:=Value.ref.inj (beq_iff_eq.mp z)
  have:=X D _ lk
  rw [e,htp] at this
  cases this
 ca:=fun X ⟨_,I⟩ hq=>ypL X I L hga hgn hf hm hq
end
end L2
namespace L2
open PySem PySem.Spec PyProof.Rows
theorem ExO.ok {P:Program}{w:World}{H:Hp}{h:Heap}{a D:Addr}{ox:Obj}(I:PySem.W.InstAt h a ox D none):ObjOk P w H h a (ExO D a) :=
 ⟨⟨ox,I⟩,⟨ox,I.at_⟩,fun _ _ ⟨o,J⟩ k=>⟨o,k o J.at_,J.cls,J.no,by
  have:=J.dict
  revert this
  cases o.dict with
  | none=>exact fun _=>trivial
  | some dx=>exact fun z=>z.elim⟩⟩
noncomputable def yyT (K:PySem.W.Frag):List V->Hp->VK->Prop:=fun vs H Q=>yCu K vs H Q\/∃ (a D:Addr) (c:V) (u:Value) (b:Bool),vs=[.ref a,c]/\H a=some (ExO D a)/\PySem.W.KitX K (.ref a) (.ref D) (fun h=>∃ ox,PySem.W.InstAt h a ox D none)/\cV c=some u/\PySem.W.kitOne K (.ref D) u=some b/\Q (.bl b) H
theorem ycO {X:Cx}:CallR X (.builtin "isinstance") (yyT X.K):=by
 intro pins s σ H xs us Q I r h
 rcases h with h|⟨a,D,c,u',b,rfl,e,kx,hc,hk,q⟩
 .exact yhN pins s σ H xs us Q I r h
 .obtain ⟨u,w',rfl,ru,rc⟩:=vals2 r
  have e1:w'=u':=by
   cases c<;>first|(cases hc;exact rc)|cases hc
  subst e1
  obtain rfl:u=Value.ref a:=ru
  obtain ⟨p,_,_⟩:=(show ObjOk X.prog X.w H s.heap a (ExO D a) from I.hok a _ e)
  exact kia_one kx I.kIn p hk (fun z=>nomatch z) fun tk=>⟨.bl b,H,I.tok tk,rfl,q⟩
end L2
namespace L2
open PySem PySem.Spec PyProof.Rows
section
variable {P:Program}{w:World}{fs:List Addr}{H H':Hp}{h h1 h':Heap}{a D:Addr}{T:Option Addr}{ox:Obj}
theorem Un.noted (un:Un fs [] H H' h h1) (lv:Lv fs a T h1 h') (na:h.get? a=none) (nt:∀ t,T=some t->h.get? t=none) (h0:H a=none) (o:HO):Un fs [] H (upd H' a o) h h':=by
 have nea:∀ {b:Addr}{o:Obj},h.get? b=some o->b≠a:=fun {b o} hb z=>by rw [z,na] at hb;cases hb
 have neT:∀ {b:Addr}{o:Obj},h.get? b=some o->some b≠T:=fun {b o} hb z=>by rw [nt b z.symm] at hb;cases hb
 refine ⟨fun b o hb n1 n2 n3=>lv.keep b o (un.keep b o hb n1 n2 n3) (nea hb) (neT hb) n2,fun b o hb n1 n2 n3=>?_,fun b o hb n1 n3=>?_,fun b o hb n3=>?_,?_,?_,?_⟩
 .obtain ⟨sl,e⟩:=un.slot b o hb n1 n2 n3
  obtain ⟨sl',e'⟩:=lv.slot b _ e (nea hb) (neT hb) n2
  exact ⟨sl',e'⟩
 .rw [yR (nea hb)]
  exact un.free b o hb n1 n3
 .obtain ⟨o',e⟩:=un.there b o hb n3
  exact lv.there b o' e
 .intro b xs q
  rw [yR (fun z=>by rw [z,h0] at q;cases q)]
  exact un.tups b xs q
 .intro b o u q
  rw [yR (fun z=>by rw [z,h0] at q;cases q)]
  exact un.frzs b o u q
 .intro b ps q
  rw [yR (fun z=>by rw [z,h0] at q;cases q)]
  exact un.tbls b ps q
theorem HOk.noted (ok:HOk P w H' h1) (lv:Lv fs a T h1 h') (ha:H' a=none) (hT:∀ t,T=some t->H' t=none) (hfs:∀ b∈fs,H' b=none) (I:PySem.W.InstAt h' a ox D none):HOk P w (upd H' a (ExO D a)) h':=by
 intro b o hb
 by_cases e:b=a
 .rw [e,yba] at hb
  cases hb
  rw [e]
  exact ExO.ok I
 .rw [yR e] at hb
  have kp:∀ c u,(∃ v,H' c=some v)->h1.get? c=some u->h'.get? c=some u:=fun c u ⟨v,hv⟩ hc=>lv.keep c u hc (fun z=>by rw [z,ha] at hv;cases hv) (fun z=>by rw [hT c z.symm] at hv;cases hv) fun z=>by rw [hfs c z] at hv;cases hv
  have ne:∀ c v,H' c=some v->c≠a:=fun c v hv z=>by rw [z,ha] at hv;cases hv
  refine (ok b o hb).stay (fun c u hc=>kp c u ?_) (fun c q=>by rw [yR (ne c _ q)];exact q) fun c xs q=>by rw [yR (ne c _ q)];exact q
  rcases hc with e|e
  .exact ⟨o,by rw [e];exact hb⟩
  .exact ⟨_,e⟩
end
end L2
namespace L2
open PySem PySem.Spec PyProof.Rows
theorem Exc.inst {h:Heap}{a D:Addr}{T:Option Addr}(x:Exc h a (.ref D) T):∃ ox,PySem.W.InstAt h a ox D none:=by
 obtain ⟨o,vs,ho,⟨hc,hd⟩,dd,_⟩:=x
 refine ⟨o,ho,hc,?_,?_⟩
 .unfold PySem.W.notCls
  rw [dd]
 .rw [hd];trivial
theorem ync {K:PySem.W.Frag}{bmB:List Value}{v:Value}(hb:bmB.contains v=true):∀ {l:List Value},PySem.W.tailIn K bmB l=true->l.contains v=true
 | [],e=>by rw [show bmB=[] from (beq_iff_eq.mp e).symm ▸ rfl] at hb;cases hb
 | u::r,e=>by
  unfold PySem.W.tailIn at e
  rcases Bool.or_eq_true_iff.mp e with q|q
  .rw [beq_iff_eq.mp q];exact hb
  .split at q
   .split at q
    .simp only [and_eq_true] at q
     rw [List.contains_cons,ync hb q.2,Bool.or_true]
    .cases q
   .cases q
theorem XCls.of {K:PySem.W.Frag}{C:Addr}(q:PySem.W.excIn K C [.type "ValueError",.type "Exception",.type "BaseException",.type "object"] "ValueError.__new__" = true):XCls K C:=by
 unfold PySem.W.excIn at q
 split at q
 .rename_i dd cd sl ho
  split at q
  .rename_i C' bm k0 k1 k2 k3 n k5 hm hs
   simp only [and_eq_true,beq_iff_eq,Bool.not_eq_true'] at q
   obtain ⟨⟨⟨⟨⟨rfl,rfl⟩,hdel⟩,ht⟩,hok⟩,hni⟩:=q
   obtain ⟨nm,bs,mro,ns,qn,hd,sn,sub,ab,col,del⟩:=cd
   dsimp only at hm hdel hok hni
   subst hm hdel
   have hsl:sl = #[k0,k1,k2,k3,some (.builtin "ValueError.__new__"),k5]:=by
    obtain ⟨l⟩:=sl
    simp only at hs
    rw [hs]
   subst hsl
   have:∃ c d es m sl,K.lookup ns=some ⟨c,d,.dict es m,sl⟩:=by
    unfold PySem.W.nsOkIn at hok
    split at hok
    .rename_i c d es m sl ho
     exact ⟨_,_,_,_,_,ho⟩
    .cases hok
   obtain ⟨c,d,es,m,sl,hl⟩:=this
   have hmap:∀ h:Heap,K.In h->h.nsMap ns=nsFind es:=fun h X=>by
    funext x
    unfold Heap.nsMap
    rw [X _ _ hl]
   refine ⟨⟨nm,qn,ns,bs,bm,_,hd,sn,sub,ab,col,dd,k0,k1,k2,k3,k5,"ValueError","ValueError.__new__","ValueError.__init__",nsFind es,PySem.F.excBase_ValueError,ync (by decide) ht,?_,fun h X=>⟨X _ _ ho,?_,PySem.W.tail_of_in X ht⟩⟩⟩
   .unfold nsIn at hni
    rw [hl] at hni
    dsimp only at hni
    split at hni
    .cases hni
    .rename_i he
     unfold nsFind findBy
     rw [<- Array.find?_toList,he]
     rfl
   .rw [<- hmap h X]
    exact .of_isNs (PySem.W.isNs_of_in X hok)
  .cases q
 .cases q
structure XSub (K:PySem.W.Frag) (D C:Addr):Prop where
 d:XCls K D
 c:XCls K C
 m:mroIn K D (.ref C)=some true
theorem XSub.hit {M:Model}{A:Around}{E:Value->Shared->Prop}{s:Shared}{K:PySem.W.Frag}{D C e:Addr}{Q:Bool->Shared->Prop}{T:Option Addr}(z:XSub K D C) (X:K.In s.heap) (x:Exc s.heap e (.ref D) T) (hq:Q true s):wpAny M A (excMatches (.ref e) (.ref C)) Q E s:=by
 obtain ⟨nm,q,N,bs,bm,bmB,hdct,sn,sub,ab,col,dd,k0,k1,k2,k3,k5,B,newId,initId,mN,F,hb,hi,hk⟩:=z.d.ex
 obtain ⟨nm',q',N',bs',bm',bmB',hdct',sn',sub',ab',col',dd',k0',k1',k2',k3',k5',B',newId',initId',mN',F',hb',hi',hk'⟩:=z.c.ex
 obtain ⟨g1,g2,g3⟩:=hk _ X
 obtain ⟨g1',g2',g3'⟩:=hk' _ X
 obtain ⟨o,vs,ho,⟨hc,hd⟩,_⟩:=x
 have hm:=z.m
 refine ypK g1 g1' ho hc hb' ?_
 have:(Value.ref D::bm).contains (.ref C)=true:=by
  unfold mroIn PySem.W.clsIn at hm
  split at hm
  .rename_i c0 d0 cd sl0 hl
   have:=X _ _ hl
   rw [g1] at this
   cases this
   simpa using hm
  .cases hm
 rw [this]
 exact hq
end L2
namespace L2
open PySem PySem.Spec PyProof.Rows
def Cx.inX (X:Cx) (a:Addr) (xe:Value->Shared->Prop):Cx:={ X with A:=X.A.mark (some (.ref a)),calm:=false,xe:=xe }
def Cx.wX (X:Cx) (xe:Value->Shared->Prop):Cx:={ X with xe:=xe }
section
variable {X:Cx}{pins:List (Addr×Obj)}{σ:St}{H:Hp}{s:Shared}{h':Heap}{a:Addr}{xe:Value->Shared->Prop}
theorem Inv.inX (I:Inv X pins σ H s):Inv (X.inX a xe) pins σ H s :=
 ⟨⟨I.ok.mod,I.ok.kind,I.ok.glob,I.ok.blt,I.ok.above,I.ok.inj,I.ok.has,I.ok.cab,(fun z=>by cases z),I.ok.frames,I.ok.stk,I.ok.exf,I.ok.bs,I.ok.bsz,I.ok.noex,I.ok.exfs,I.ok.funs,I.ok.frf⟩,I.os,I.bare,I.base,I.loc,I.cell,I.free,I.freeC,I.pin,I.hok,I.len⟩
theorem Inv.outX (ok:X.Ok) (I:Inv (X.inX a xe) pins σ H s):Inv X pins σ H s:=⟨ok,I.os,I.bare,I.base,I.loc,I.cell,I.free,I.freeC,I.pin,I.hok,I.len⟩
theorem Inv.wX (I:Inv X pins σ H s):Inv (X.wX xe) pins σ H s :=
 ⟨⟨I.ok.mod,I.ok.kind,I.ok.glob,I.ok.blt,I.ok.above,I.ok.inj,I.ok.has,I.ok.cab,I.ok.hd,I.ok.frames,I.ok.stk,I.ok.exf,I.ok.bs,I.ok.bsz,I.ok.noex,I.ok.exfs,I.ok.funs,I.ok.frf⟩,I.os,I.bare,I.base,I.loc,I.cell,I.free,I.freeC,I.pin,I.hok,I.len⟩
theorem Inv.unX (ok:X.Ok) (I:Inv (X.wX xe) pins σ H s):Inv X pins σ H s:=⟨ok,I.os,I.bare,I.base,I.loc,I.cell,I.free,I.freeC,I.pin,I.hok,I.len⟩
theorem yvC {M:Model}{A:Around}{E:Value->Shared->Prop}{i:Nat}{x:Str}{pos:Pos}{Q:Unit->Shared->Prop}(I:Inv X pins σ H s) (hN:X.N.Nodup) (hi:X.N[i]?=some x) (hk:X.env.scope.names.lookup x=some .local)
  (h:∀ s',Inv X pins (σ.set i none) H s'->Q () s'):wpAny M A (do bindName X.env x .none;unbindBehindTheSuite X.env x pos) Q E s:=by
 obtain ⟨m,hn,hl⟩:=id I.loc
 have hcls:(X.env.scope.kind == .class || (X.env.scope.kind == .module && X.env.locals != X.env.globals))=false:=by rw [I.ok.kind];rfl
 have hiσ:i<σ.length:=by rw [I.len];exact (List.getElem?_eq_some_iff.mp hi).1
 have cne:=I.cne
 have tracked:∀ {a:Addr}{h':Heap},(∃ o,s.heap.get? a=some o/\H a=none)->Heap.SameBut a s.heap h'->HOk X.prog X.w H h':=fun {a h'} ha hs b ob e=>by
  obtain ⟨_,_,hfree⟩:=ha
  refine (I.hok b ob e).stay (fun c w' hc q=>(hs.2 c ?_).trans q) (fun _ q=>q) fun _ _ q=>q
  rintro rfl
  rcases hc with rfl|hc
  .rw [hfree] at e;cases e
  .rw [hfree] at hc;cases hc
 refine wpAny_nameGoes_keeps hk hn hcls fun h' v hn' hs=>?_
 obtain ⟨oL,_,_,hoL,_⟩:=id hn
 refine h _ ⟨I.ok,I.os,I.bare,⟨fun b o e n hb hx=>?_,fun b o e n hb hx=>?_,I.base.free,fun b o e hx=>?_,I.base.tups,I.base.frzs,I.base.tbls⟩,⟨_,hn',fun j y v' e1 e2 e3=>?_⟩,fun y c e=>?_,I.free,I.freeC,fun p hp=>?_,tracked ⟨oL,hoL,I.free⟩ hs,by simpa using I.len⟩
 .exact (hs.2 b (ne_of_lt (lt_of_lt_of_le (Heap.lt_size e) I.ok.above))).trans (I.base.keep b o e n hb hx)
 .obtain ⟨sl,e1⟩:=I.base.slot b o e n hb hx
  exact ⟨sl,(hs.2 b (ne_of_lt (lt_of_lt_of_le (Heap.lt_size e) I.ok.above))).trans e1⟩
 .obtain ⟨o',e1⟩:=I.base.there b o e hx
  exact ⟨o',(hs.2 b (ne_of_lt (lt_of_lt_of_le (Heap.lt_size e) I.ok.above))).trans e1⟩
 .by_cases hj:j=i
  .subst hj
   rw [getElem?_set_self hiσ] at e2
   cases e2
  .rw [getElem?_set_ne (Ne.symm hj)] at e2
   obtain ⟨u',r',q⟩:=hl j y v' e1 e2 e3
   refine ⟨u',r',?_⟩
   rcases q with ⟨k,e⟩|⟨k,c,e,z⟩
   .refine .inl ⟨k,?_⟩
    have:y≠x:=fun e=>hj (yjp hN e1 (e ▸ hi))
    simp [this,e]
   .exact .inr ⟨k,c,e,z.sameBut hs (cne y c e)⟩
 .obtain ⟨w',z⟩:=I.cell y c e
  exact ⟨w',z.sameBut hs (cne y c e)⟩
 .obtain ⟨e,n,ne,nf,d⟩:=I.pin p hp
  exact ⟨(hs.2 p.1 ne).trans e,n,ne,nf,d⟩
theorem yme {M:Model}{A:Around}{E:Value->Shared->Prop}{C:Value}{t:Addr}{Q:Unit->Shared->Prop}(x:Exc s.heap a C (some t)) (k:∀ h',(∀ b,h'.get? b=s.heap.get? b)->Q () { s with heap:=h' }):wpAny M A (setFlight (.ref a) none) Q E s:=by
 obtain ⟨o,vs,ho,_,d,h1,hta,oT,ts,hT,dT,h3⟩:=x
 have h3':3<ts.size:=(Array.getElem?_eq_some_iff.mp h3).1
 refine yhO ho d h1 hT dT h3' (k _ fun b=>?_)
 by_cases e:b=t
 .subst e
  obtain ⟨m1,m2⟩:=yBL (f:=fun x=>x.setIfInBounds 3 .none) dT
  rw [Heap.get?_update_self _ hT m2,m1,hT]
  have:ts.setIfInBounds 3 .none=ts:=by
   apply Array.ext_getElem?
   intro j
   rw [Array.getElem?_setIfInBounds]
   split
   .rename_i q;subst q;rw [h3]
   .rfl
  rw [this]
  obtain ⟨c,dd,da,sl⟩:=oT
  cases dT
  rfl
 .exact Heap.get?_update_ne _ _ _ _ e
end
def BX (X:Cx) (body:List Stmt) (t:XK->St->Hp->Prop):Prop:=∀ (pins:List (Addr×Obj)) (s:Shared) (σ:St) (H:Hp) (E:XK) (XE:Value->Shared->Prop),Inv X pins σ H s->t E σ H ->
 (∀ H1 s1 e s',Inv X pins σ H1 s1->CXr X.prog X.w X.stack H1 s1 E e s'->XE e s')->wpAny (model X.prog X.w) X.A (execs body X.env) (fun _ _=>False) XE s
noncomputable def yFR (K:PySem.W.Frag) (C:Addr) (i:Nat) (t:XK->St->Hp->Prop) (ts:TS):TS:=fun D σ H=>t (fun c oa H'=>∃ D' a,c=.ref D'/\oa=some a/\XSub K D' C/\ts ⟨fun σ' H''=>D.nx (σ'.set i none) H'',fun _ _=>False,fun _ _=>False,fun _ _=>False⟩ (σ.set i (some (.ref a))) (upd H' a (ExO D' a))) σ H
theorem yyU {X:Cx}{C:Addr}{i:Nat}{x n:Str}{np hpos pos:Pos}{body suite:List Stmt}{b₀:Stmt}{t:XK->St->Hp->Prop}{ts:TS}(hb:BX X body t) (hs:∀ a xe,PSs (X.inX a xe) (b₀::suite) ts) (hg:Gl X x) (hm:X.mg x=some (.ref C)) (hN:X.N.Nodup) (hi:X.N[i]?=some n) (hk:X.env.scope.names.lookup n=some .local)
  (hst:X.stack=X.env::X.outer) (hL:X.env.frame=some X.env.locals) (hd:(x == ("__debug__":Str))=false:=by decide) :
  PS X (.Try body [.ExceptHandler (some (.Name x np)) (some n) (b₀::suite) hpos] [] [] pos) (yFR X.K C i t ts):=by
 intro pins s σ H D I h
 refine wpAny_Try_except (wpAny_mono (hb pins s σ H _ (fun e s'=>∃ H1 s1,Inv X pins σ H1 s1/\CXr X.prog X.w X.stack H1 s1 _ e s') I h fun H1 s1 e s' I1 q=>⟨H1,s1,I1,q⟩) (fun _ _ z=>z.elim) ?_)
 rintro e s' ⟨H1,s1,I1,a,C0,T,H',rfl,x0,na,nt,ha,ht,os,bare,un,hok,D',a',rfl,ea,sb,q⟩
 cases ea
 have st:s1.heap.FunFrames X.base X.stack:=I1.stack
 have st':s'.heap.FunFrames X.base X.stack:=(I1.call' (s':=s') os un hok bare (fun b z=>absurd z (by simp))).stack
 rw [hst] at st' un
 have hfs:∀ b∈frs (X.env::X.outer),H' b=none:=by
  have:=(I1.call' (s':=s') os (by rw [hst];exact un) hok bare (fun b z=>absurd z (by simp))).stkFree
  rw [hst] at this
  exact this
 have hf:X.A.frames=some (X.env::X.outer):=by rw [I.ok.frames,hst]
 have h1a:H1 a=none:=by
  cases q:H1 a with
  | none=>rfl
  | some o =>
   obtain ⟨u,e⟩:=(I1.hok a o q).there
   rw [na] at e;cases e
 refine ynb (L:=X.env.locals) hf st' hL x0.w fun h' t' x' ht' lv=>?_
 obtain ⟨ox,J⟩:=x'.inst
 have un2:=Un.noted un lv na (fun t z=>by cases z;exact nt) h1a (ExO D' a)
 have hok2:HOk X.prog X.w (upd H' a (ExO D' a)) h':=HOk.noted hok lv ha (fun t z=>by cases z;exact ht) hfs J
 have I2:Inv X pins σ (upd H' a (ExO D' a)) { s' with heap:=h' }:=I1.call' (s':={ s' with heap:=h' }) os (by rw [hst];exact un2) hok2 bare (fun b z=>absurd z (by simp))
 refine wpAny_handleBy_cons (codeAny_handlers_test ?_) (by intro z;cases z)
 refine yfQ (X:=X.inX a X.xe) I2.inX hg hm ?_ hd
 refine sb.hit (s:={ s' with heap:=h' }) I2.kIn x' ?_
 refine codeAny_handlers_suite_as ?_
 refine yme (s:={ s' with heap:=h' }) x' fun h2 e2=>?_
 have I3:Inv X pins σ (upd H' a (ExO D' a)) { s' with heap:=h2 }:=I2.more (h':=h2) fun b o e=>by rw [e2];exact e
 refine yfZ (X:=X) (v:=.ref a) I3 hN hi (.inl hk) rfl (fun s4 I4=>?_) (.inr hk)
 refine wpAny_mono (hs a _ pins s4 _ _ _ I4.inX q) (fun f s5 h5=>?_) fun _ _ z=>z
 cases f with
 | next =>
  obtain ⟨σ',H'',I5,q5⟩:=h5
  exact yvC (I5.outX I.ok) hN hi hk fun s6 I6=>⟨_,_,I6,q5⟩
 | brk=>obtain ⟨_,_,_,z⟩:=h5;exact z.elim
 | cont=>obtain ⟨_,_,_,z⟩:=h5;exact z.elim
 | ret u=>obtain ⟨_,_,_,_,_,z⟩:=h5;exact z.elim
end L2
namespace L2
open PySem PySem.Spec PyProof.Rows
end L2
namespace L2
open PySem PySem.Spec PyProof.Rows
end L2
namespace L2
open PySem PySem.Spec PyProof.Rows
section
variable {X:Cx}{pl pins:List (Addr×Obj)}{XE:Value->Shared->Prop}{σ:St}{H:Hp}{s:Shared}{E:XK}
end
end L2
namespace PX
open PySem L2
structure Ck where
 K:PySem.W.Frag
 A:Nat->Addr
inductive PV where
 | non|bl (b:Bool)|int (i:Int)|str (s:Str)|ty (n:String)|cls (k:Nat)
 | scr (ns:List Int)
 | lst (xs:List PV)|tup (xs:List PV)
 | ins (k:Nat) (ns:List Str) (xs:List PV)
 | loc (n:Nat)
 | exc (n:Str)|xcl (n:Str)
inductive Nd where
 | lst (xs:List PV)|dct (ks:List Key) (xs:List PV)|fz (ks:List Key) (xs:List PV)|ins (k:Nat) (ns:List Str) (xs:List PV)|dead
abbrev AH:=List Nd
inductive PVar where|no|val (x:PV)|own (d:Nd)
abbrev PSt:=List PVar
inductive Out where|nx (ρ:PSt)|rt (x:PV)|bk (ρ:PSt)|ct (ρ:PSt)
abbrev XE:=PSt->AH->Option (PV×AH)
abbrev XT:=PSt->AH->Option (Bool×AH)
abbrev XA:=PSt->AH->Option (List PV×AH)
abbrev XO:=PSt->AH->Option (Nd×AH)
abbrev XS:=PSt->AH->Option (Out×AH)
abbrev Fn:=List PV->AH->Option (PV×AH)
def KTp (K:PySem.W.Frag) (a:Addr) (xs:List V):Prop:=∃ (o:Obj) (its:Array Value) (n:Nat),K.lookup a=some o/\o.cls=.type "tuple"/\o.data=.seq its n/\its.size<=sizeLine/\Vals xs its.toList
def TpAt (K:PySem.W.Frag) (F:Hp) (a:Addr) (xs:List V):Prop:=F a=some (.tup xs)\/KTp K a xs
theorem TpAt.mono {K:PySem.W.Frag}{F F':Hp}{a:Addr}{xs:List V}(s:Same F F') (h:TpAt K F a xs):TpAt K F' a xs:=h.elim (fun h=>.inl (s _ _ h)) .inr
mutual
noncomputable def Rep (K:Ck) (F:Hp) (m:List Addr):PV->V->Prop
 | .non,v=>v=.non
 | .bl b,v=>v=.bl b
 | .int i,v=>v=.int i
 | .str s,v=>v=.str s
 | .ty n,v=>v=.ty n
 | .cls k,v=>v=.ref (K.A k)
 | .scr ns,v=>∃ a,v=.ref a/\SqL K.K F a (ns.map V.int)
 | .lst xs,v=>∃ a vs,v=.ref a/\F a=some (.lst vs)/\RepL K F m xs vs
 | .tup xs,v=>∃ a vs,v=.ref a/\TpAt K.K F a vs/\RepL K F m xs vs
 | .ins k ns xs,v=>∃ a dx vs,v=.ref a/\F a=some (.ins (K.A k) dx (ns.zip vs))/\vs.length=ns.length/\RepL K F m xs vs
 | .loc n,v=>∃ a,v=.ref a/\m[n]?=some a
 | .exc n,v=>∃ a,v=.ref a/\F a=some (ExO (xAd K.K n) a)
 | .xcl n,v=>v=.ref (xAd K.K n)
noncomputable def RepL (K:Ck) (F:Hp) (m:List Addr):List PV->List V->Prop
 | [],vs=>vs=[]
 | x::xs,vs=>∃ v r,vs=v::r/\Rep K F m x v/\RepL K F m xs r
end
section
variable {K:Ck}{F F' H H':Hp}{m m':List Addr}
theorem yhP {n:Nat}{a:Addr}(p:m <+: m') (h:m[n]?=some a):m'[n]?=some a:=by
 obtain ⟨r,rfl⟩:=p
 rw [getElem?_append_left (List.getElem?_eq_some_iff.mp h).1];exact h
mutual
theorem Rep.mono (s:Same F F') (p:m <+: m'):∀ (x:PV) (v:V),Rep K F m x v->Rep K F' m' x v
 | .non,_,h=>h
 | .bl _,_,h=>h
 | .int _,_,h=>h
 | .str _,_,h=>h
 | .ty _,_,h=>h
 | .cls _,_,h=>h
 | .scr _,_,⟨a,e,h⟩=>⟨a,e,s.seq h⟩
 | .lst xs,_,⟨a,vs,e,h,r⟩=>⟨a,vs,e,s _ _ h,RepL.mono s p xs vs r⟩
 | .tup xs,_,⟨a,vs,e,h,r⟩=>⟨a,vs,e,h.mono s,RepL.mono s p xs vs r⟩
 | .ins _ _ xs,_,⟨a,dx,vs,e,h,l,r⟩=>⟨a,dx,vs,e,s _ _ h,l,RepL.mono s p xs vs r⟩
 | .loc _,_,⟨a,e,h⟩=>⟨a,e,yhP p h⟩
 | .exc _,_,⟨a,e,h⟩=>⟨a,e,s _ _ h⟩
 | .xcl _,_,h=>h
theorem RepL.mono (s:Same F F') (p:m <+: m'):∀ (xs:List PV) (vs:List V),RepL K F m xs vs->RepL K F' m' xs vs
 | [],_,h=>h
 | x::xs,_,⟨v,r,e,h,l⟩=>⟨v,r,e,Rep.mono s p x v h,RepL.mono s p xs r l⟩
end
theorem RepL.len:∀ {xs:List PV}{vs:List V},RepL K F m xs vs->vs.length=xs.length
 | [],_,h=>by rw [show _=[] from h];rfl
 | x::xs,_,⟨v,r,e,h,l⟩=>by rw [e,length_cons,length_cons,RepL.len l]
theorem RepL.get:∀ {xs:List PV}{vs:List V}{i:Nat}{x:PV},RepL K F m xs vs->xs[i]?=some x->∃ v,vs[i]?=some v/\Rep K F m x v
 | x::xs,_,0,y,⟨v,r,e,h,l⟩,q=>by
  simp at q;subst q;subst e;exact ⟨v,rfl,h⟩
 | x::xs,_,i+1,y,⟨v,r,e,h,l⟩,q=>by
  subst e
  obtain ⟨w,h1,h2⟩:=RepL.get (i:=i) l (by simpa using q)
  exact ⟨w,by simpa using h1,h2⟩
theorem RepL.get' {xs:List PV}{vs:List V}{i:Nat}{v:V}(h:RepL K F m xs vs) (e:vs[i]?=some v):∃ x,xs[i]?=some x/\Rep K F m x v:=by
 have hl:=h.len
 have hi:i<vs.length:=(List.getElem?_eq_some_iff.mp e).1
 have hx:xs[i]?=some xs[i]:=List.getElem?_eq_getElem (by omega)
 obtain ⟨w,h1,h2⟩:=h.get hx
 rw [e] at h1;cases h1
 exact ⟨_,hx,h2⟩
theorem RepL.app:∀ {xs ys:List PV}{vs us:List V},RepL K F m xs vs->RepL K F m ys us->RepL K F m (xs++ys) (vs++us)
 | [],_,_,_,h,k=>by rw [show _=[] from h];exact k
 | x::xs,ys,_,us,⟨v,r,e,h,l⟩,k=>by subst e;exact ⟨v,r++us,rfl,h,RepL.app l k⟩
theorem RepL.snoc {xs:List PV}{vs:List V}{x:PV}{v:V}(h:RepL K F m xs vs) (k:Rep K F m x v):RepL K F m (xs++[x]) (vs++[v]):=h.app ⟨v,[],rfl,k,rfl⟩
theorem RepL.drop:∀ {xs:List PV}{vs:List V}(n:Nat),RepL K F m xs vs->RepL K F m (xs.drop n) (vs.drop n)
 | _,_,0,h=>by simpa using h
 | [],_,n+1,h=>by rw [show _=[] from h];rfl
 | x::xs,_,n+1,⟨v,r,e,h,l⟩=>by subst e;simpa using RepL.drop n l
theorem RepL.take:∀ {xs:List PV}{vs:List V}(n:Nat),RepL K F m xs vs->RepL K F m (xs.take n) (vs.take n)
 | _,_,0,h=>by simp;rfl
 | [],_,n+1,h=>by rw [show _=[] from h];rfl
 | x::xs,_,n+1,⟨v,r,e,h,l⟩=>by subst e;exact ⟨v,r.take n,rfl,h,RepL.take n l⟩
theorem RepL.set:∀ {xs:List PV}{vs:List V}{x:PV}{v:V}(i:Nat),RepL K F m xs vs->Rep K F m x v->RepL K F m (xs.set i x) (vs.set i v)
 | [],_,_,_,_,h,_=>by rw [show _=[] from h];rfl
 | y::xs,_,x,v,0,⟨w,r,e,h,l⟩,k=>by subst e;exact ⟨v,r,rfl,k,l⟩
 | y::xs,_,x,v,i+1,⟨w,r,e,h,l⟩,k=>by subst e;exact ⟨w,r.set i v,rfl,h,RepL.set i l k⟩
theorem RepL.of_ints:∀ (ns:List Int),RepL K F m (ns.map PV.int) (ns.map V.int)
 | []=>rfl
 | n::ns=>⟨_,_,rfl,rfl,RepL.of_ints ns⟩
end
noncomputable def NdAt (K:Ck) (F H:Hp) (m:List Addr):Nd->Addr->Prop
 | .dead,a=>∃ o,H a=some o
 | .lst xs,a=>F a=none/\∃ vs,H a=some (.lst vs)/\RepL K F m xs vs
 | .dct ks xs,a=>F a=none/\∃ vs,H a=some (.dK (ks.zip vs))/\vs.length=ks.length/\RepL K F m xs vs
 | .fz ks xs,a=>F a=none/\∃ o vs,H a=some (.frz o (.dK (ks.zip vs)))/\vs.length=ks.length/\RepL K F m xs vs
 | .ins k ns xs,a=>F a=none/\∃ dx vs,H a=some (.ins (K.A k) dx (ns.zip vs))/\vs.length=ns.length/\RepL K F m xs vs
structure Wd where
 F:Hp
 H:Hp
 m:List Addr
 h:AH
structure WOk (K:Ck) (W:Wd):Prop where
 le:Same W.F W.H
 len:W.m.length=W.h.length
 nd:W.m.Nodup
 at_:∀ (n:Nat) (d:Nd) (a:Addr),W.h[n]?=some d->W.m[n]?=some a->NdAt K W.F W.H W.m d a
structure Le (K:Ck) (W W':Wd):Prop where
 ok:WOk K W'
 fs:Same W.F W'.F
 pre:W.m <+: W'.m
 keep:∀ b o,W.H b=some o->b∉W.m->W'.H b=some o
 new:∀ b o,W.H b=some o->b∉W.m->W.F b=none->W'.F b=none
 mn:∀ b∈W'.m,b∉W.m->W.H b=none
 fz:∀ (n:Nat) (ks:List Key) (xs:List PV),W.h[n]?=some (.fz ks xs)->W'.h[n]?=some (.fz ks xs)/\∀ a,W.m[n]?=some a->W'.H a=W.H a
theorem Le.refl {K:Ck}{W:Wd}(h:WOk K W):Le K W W:=⟨h,Same.refl _,prefix_refl _,fun _ _ e _=>e,fun _ _ _ _ e=>e,fun _ h h'=>absurd h h',fun _ _ _ e=>⟨e,fun _ _=>rfl⟩⟩
theorem Le.trans {K:Ck}{W W1 W2:Wd}(a:Le K W W1) (b:Le K W1 W2):Le K W W2 where
 ok:=b.ok
 fs:=a.fs.trans b.fs
 pre:=a.pre.trans b.pre
 keep:=fun c o e n=>b.keep c o (a.keep c o e n) fun z=>by rw [a.mn c z n] at e;cases e
 new:=fun c o e n f=>b.new c o (a.keep c o e n) (fun z=>by rw [a.mn c z n] at e;cases e) (a.new c o e n f)
 mn:=fun c z n=>by
  by_cases hc:c∈W1.m
  .exact a.mn c hc n
  .have:=b.mn c z hc
   cases e:W.H c with
   | none=>rfl
   | some o=>rw [a.keep c o e n] at this;cases this
 fz:=fun n ks xs e=>by
  obtain ⟨e1,q1⟩:=a.fz n ks xs e
  obtain ⟨e2,q2⟩:=b.fz n ks xs e1
  exact ⟨e2,fun c em=>(q2 c (yhP a.pre em)).trans (q1 c em)⟩
abbrev ydb (K:Ck) (W:Wd) (x:PV) (v:V):Prop:=Rep K W.F W.m x v
abbrev ydt (K:Ck) (W:Wd) (x:List PV) (v:List V):Prop:=RepL K W.F W.m x v
theorem Le.rep {K:Ck}{W W':Wd}(l:Le K W W') {x:PV}{v:V}(h:ydb K W x v):ydb K W' x v:=Rep.mono l.fs l.pre x v h
theorem Le.repL {K:Ck}{W W':Wd}(l:Le K W W') {x:List PV}{v:List V}(h:ydt K W x v):ydt K W' x v:=RepL.mono l.fs l.pre x v h
theorem NdAt.mono {K:Ck}{F F' H H':Hp}{m m':List Addr}(s:Same F F') (p:m <+: m') {d:Nd}{a:Addr}(hH:∀ o,H a=some o->H' a=some o) (hF:F a=none->F' a=none) (h:NdAt K F H m d a):NdAt K F' H' m' d a:=by
 cases d with
 | dead=>obtain ⟨o,e⟩:=h;exact ⟨o,hH _ e⟩
 | lst xs=>obtain ⟨f,vs,e,r⟩:=h;exact ⟨hF f,vs,hH _ e,RepL.mono s p _ _ r⟩
 | dct ks xs=>obtain ⟨f,vs,e,l,r⟩:=h;exact ⟨hF f,vs,hH _ e,l,RepL.mono s p _ _ r⟩
 | fz ks xs=>obtain ⟨f,o,vs,e,l,r⟩:=h;exact ⟨hF f,o,vs,hH _ e,l,RepL.mono s p _ _ r⟩
 | ins C ns xs=>obtain ⟨f,dx,vs,e,l,r⟩:=h;exact ⟨hF f,dx,vs,hH _ e,l,RepL.mono s p _ _ r⟩
theorem NdAt.some {K:Ck}{F H:Hp}{m:List Addr}{d:Nd}{a:Addr}(h:NdAt K F H m d a):∃ o,H a=some o:=by
 cases d with
 | dead=>exact h
 | lst xs=>obtain ⟨f,vs,e,r⟩:=h;exact ⟨_,e⟩
 | dct ks xs=>obtain ⟨f,vs,e,r⟩:=h;exact ⟨_,e⟩
 | fz ks xs=>obtain ⟨f,o,vs,e,r⟩:=h;exact ⟨_,e⟩
 | ins C ns xs=>obtain ⟨f,dx,vs,e,r⟩:=h;exact ⟨_,e⟩
structure Good (K:Ck) (W0 W:Wd) (ρ:PSt) (σ:St):Prop where
 le:Le K W0 W
 len:σ.length=ρ.length
 val:∀ (i:Nat) (x:PV),ρ[i]?=some (.val x)->∃ v,σ[i]?=some (some v)/\ydb K W x v
 own:∀ (i:Nat) (d:Nd),ρ[i]?=some (.own d)->∃ p,σ[i]?=some (some (.ref p))/\p∉W.m/\W0.H p=none/\d≠.dead/\NdAt K W.F W.H W.m d p
 ne:∀ (i j:Nat) (d d':Nd),i≠j->ρ[i]?=some (.own d)->ρ[j]?=some (.own d')->σ[i]?≠σ[j]?
theorem Good.ok {K:Ck}{W0 W:Wd}{ρ:PSt}{σ:St}(g:Good K W0 W ρ σ):WOk K W:=g.le.ok
theorem Good.step {K:Ck}{W0 W W':Wd}{ρ:PSt}{σ:St}(g:Good K W0 W ρ σ) (l:Le K W W'):Good K W0 W' ρ σ where
 le:=g.le.trans l
 len:=g.len
 val:=fun i x e=>let ⟨v,h1,h2⟩:=g.val i x e;⟨v,h1,l.rep h2⟩
 own:=fun i d e=>by
  obtain ⟨p,h1,h2,h3,h4,h5⟩:=g.own i d e
  obtain ⟨o,ho⟩:=h5.some
  have n':p∉W'.m:=fun z=>by rw [l.mn p z h2] at ho;cases ho
  refine ⟨p,h1,n',h3,h4,h5.mono l.fs l.pre (fun o e=>l.keep p o e h2) fun f=>l.new p o ho h2 f⟩
 ne:=g.ne
theorem WOk.some {K:Ck}{W:Wd}(w:WOk K W) {a:Addr}(h:a∈W.m):∃ o,W.H a=some o:=by
 obtain ⟨n,hn,e⟩:=getElem_of_mem h
 have hl:n<W.h.length:=by rw [<- w.len];exact hn
 exact (w.at_ n W.h[n] a (List.getElem?_eq_getElem hl) (by rw [List.getElem?_eq_getElem hn,e])).some
theorem Le.fresh {K:Ck}{W W':Wd}(l:Le K W W') {p:Addr}(h:W'.H p=none):W.H p=none:=by
 cases e:W.H p with
 | none=>rfl
 | some o =>
  by_cases hm:p∈W.m
  .obtain ⟨o,q⟩:=l.ok.some (l.pre.subset hm)
   rw [h] at q;cases q
  .rw [l.keep p o e hm] at h;cases h
theorem WOk.out {K:Ck}{W:Wd}(w:WOk K W) {p:Addr}(h:W.H p=none):p∉W.m:=fun z=>by
 obtain ⟨o,q⟩:=w.some z
 rw [h] at q;cases q
theorem WOk.ff {K:Ck}{W:Wd}(w:WOk K W) {p:Addr}(h:W.H p=none):W.F p=none:=Same.free w.le h
structure Lf (K:Ck) (W W':Wd):Prop where
 fs:Same W.F W'.F
 pre:W.m <+: W'.m
 fz:∀ (n:Nat) (ks:List Key) (xs:List PV),W.h[n]?=some (.fz ks xs)->W'.h[n]?=some (.fz ks xs)/\∀ a,W.m[n]?=some a->W'.H a=W.H a
theorem Le.lf {K:Ck}{W W':Wd}(l:Le K W W'):Lf K W W':=⟨l.fs,l.pre,l.fz⟩
theorem Lf.refl {K:Ck}{W:Wd}:Lf K W W:=⟨Same.refl _,prefix_refl _,fun _ _ _ e=>⟨e,fun _ _=>rfl⟩⟩
theorem Lf.trans {K:Ck}{W W1 W2:Wd}(a:Lf K W W1) (b:Lf K W1 W2):Lf K W W2:=⟨a.fs.trans b.fs,a.pre.trans b.pre,fun n ks xs e=>by
  obtain ⟨e1,q1⟩:=a.fz n ks xs e
  obtain ⟨e2,q2⟩:=b.fz n ks xs e1
  exact ⟨e2,fun c em=>(q2 c (yhP a.pre em)).trans (q1 c em)⟩⟩
theorem Lf.rep {K:Ck}{W W':Wd}(l:Lf K W W') {x:PV}{v:V}(h:ydb K W x v):ydb K W' x v:=Rep.mono l.fs l.pre x v h
noncomputable def ycP (K:Ck) (t:TE) (e:XE):Prop:=∀ (W0 W:Wd) (ρ:PSt) (σ:St) (Q:VK) (x:PV) (h':AH),Good K W0 W ρ σ->e ρ W.h=some (x,h') ->
 (∀ v W',W'.h=h'->Le K W W'->ydb K W' x v->Q v W'.H)->t σ W.H Q
noncomputable def ylD (K:Ck) (t:TT) (e:XT):Prop:=∀ (W0 W:Wd) (ρ:PSt) (σ:St) (Q:Bool->Hp->Prop) (x:Bool) (h':AH),Good K W0 W ρ σ->e ρ W.h=some (x,h') ->
 (∀ W',W'.h=h'->Le K W W'->Q x W'.H)->t σ W.H Q
noncomputable def ylE (K:Ck) (t:TA) (e:XA):Prop:=∀ (W0 W:Wd) (ρ:PSt) (σ:St) (Q:List V->Hp->Prop) (x:List PV) (h':AH),Good K W0 W ρ σ->e ρ W.h=some (x,h') ->
 (∀ v W',W'.h=h'->Le K W W'->ydt K W' x v->Q v W'.H)->t σ W.H Q
def yoc (K:Ck) (t:TE) (e:XO):Prop:=∀ (W0 W:Wd) (ρ:PSt) (σ:St) (Q:VK) (d:Nd) (h':AH),Good K W0 W ρ σ->e ρ W.h=some (d,h') ->
 (∀ p W',W'.h=h'->Le K W W'->p∉W'.m->W.H p=none->d≠.dead->NdAt K W'.F W'.H W'.m d p->Q (.ref p) W'.H)->t σ W.H Q
noncomputable def Ends.Ok (K:Ck) (W0 W:Wd) (D:Ends) (h':AH):Out->Prop
 | .nx ρ'=>∀ W' σ',W'.h=h'->Lf K W W'->Good K W0 W' ρ' σ'->D.nx σ' W'.H
 | .bk ρ'=>∀ W' σ',W'.h=h'->Lf K W W'->Good K W0 W' ρ' σ'->D.bk σ' W'.H
 | .ct ρ'=>∀ W' σ',W'.h=h'->Lf K W W'->Good K W0 W' ρ' σ'->D.ct σ' W'.H
 | .rt x=>∀ W' v,W'.h=h'->Le K W0 W'->ydb K W' x v->D.rt v W'.H
def yha (K:Ck) (t:TS) (s:XS):Prop:=∀ (W0 W:Wd) (ρ:PSt) (σ:St) (D:Ends) (o:Out) (h':AH),Good K W0 W ρ σ->s ρ W.h=some (o,h')->Ends.Ok K W0 W D h' o->t D σ W.H
noncomputable def ob {α β:Type}(o:Option (α×AH)) (f:α->AH->Option β):Option β:=o.bind fun q=>f q.1 q.2
theorem yj {α β:Type}{o:Option (α×AH)}{f:α->AH->Option β}{b:β}(h:ob o f=some b):∃ x h',o=some (x,h')/\f x h'=some b:=by
 obtain ⟨⟨x,h'⟩,e,k⟩:=Option.bind_eq_some_iff.mp h
 exact ⟨x,h',e,k⟩
end PX
namespace PX
open PySem L2
variable {K:Ck}
def ye (i:Nat):XE:=fun ρ h=>match ρ[i]? with|some (.val x)=>some (x,h)|_=>none
def xC (x:PV):XE:=fun _ h=>some (x,h)
abbrev P2:=PV->PV->AH->Option (PV×AH)
abbrev P2O:=PV->PV->AH->Option (Nd×AH)
def xOp (p:P2) (a b:XE):XE:=fun ρ h=>ob (a ρ h) fun x h1=>ob (b ρ h1) fun y h2=>p x y h2
def ykJ (p:P2O) (a b:XE):XO:=fun ρ h=>ob (a ρ h) fun x h1=>ob (b ρ h1) fun y h2=>p x y h2
def xUn (p:PV->AH->Option (PV×AH)) (a:XE):XE:=fun ρ h=>ob (a ρ h) fun x h1=>p x h1
def oB (x:PV) (h:AH):Option (Bool×AH):=match x with|.bl b=>some (b,h)|_=>none
def yiN (p p':P2) (a b c:XE):XE:=fun ρ h=>ob (a ρ h) fun x h1=>ob (b ρ h1) fun y h2=>ob (p x y h2) fun z h3=>ob (oB z h3) fun k h3=>if k=true then ob (c ρ h3) fun w h4=>p' y w h4 else some (.bl false,h3)
def yH (a:XE):XT:=fun ρ h=>ob (a ρ h) oB
def yod (a b:XE):XE:=fun ρ h=>ob (a ρ h) fun x h1=>ob (oB x h1) fun k h1=>if k=true then b ρ h1 else some (.bl false,h1)
def yyV (a b:XT):XT:=fun ρ h=>ob (a ρ h) fun k h1=>if k=true then b ρ h1 else some (false,h1)
def xOr (a b:XT):XT:=fun ρ h=>ob (a ρ h) fun k h1=>if k=true then some (true,h1) else b ρ h1
def ymf (a:XT):XT:=fun ρ h=>ob (a ρ h) fun k h1=>some (!k,h1)
def xIf (c:XT) (a b:XE):XE:=fun ρ h=>ob (c ρ h) fun k h1=>if k=true then a ρ h1 else b ρ h1
def yk:XA:=fun _ h=>some ([],h)
def yb (a:XE) (r:XA):XA:=fun ρ h=>ob (a ρ h) fun x h1=>ob (r ρ h1) fun xs h2=>some (x::xs,h2)
def yiO (a:XA):XE:=fun ρ h=>ob (a ρ h) fun xs h1=>if xs.length<=1000 then some (.tup xs,h1) else none
def ydR (a:XA):XO:=fun ρ h=>ob (a ρ h) fun xs h1=>if xs.length<=1000 then some (.lst xs,h1) else none
def xFz (e:XO):XE:=fun ρ h=>ob (e ρ h) fun d h1=>match d with|.lst xs=>some (.lst xs,h1)|.ins k ns xs=>some (.ins k ns xs,h1)|_=>none
def yvD (e:XO):XE:=fun ρ h=>ob (e ρ h) fun d h1=>some (.loc h1.length,h1++[d])
def yP (f:Fn) (a:XA):XE:=fun ρ h=>ob (a ρ h) f
def xCB (p:List PV->AH->Option (PV×AH)) (a:XA):XE:=fun ρ h=>ob (a ρ h) p
def ysn (p:List PV->AH->Option (Nd×AH)) (a:XA):XO:=fun ρ h=>ob (a ρ h) p
abbrev PM:=PV->List PV->AH->Option (PV×AH)
def xBM (c:PV->AH->Bool) (p:PM) (o:XE) (a:XA):XE:=fun ρ h=>ob (o ρ h) fun x h1=>if c x h1=true then ob (a ρ h1) fun xs h2=>p x xs h2 else none
def ygf (e:XE):PSt->AH->Option (Option Int×AH):=fun ρ h=>ob (e ρ h) fun x h1=>match x with|.int i=>some (some i,h1)|_=>none
def yfd:PSt->AH->Option (Option Int×AH):=fun _ h=>some (none,h)
def xSl (p:PV->Option Int->Option Int->AH->Option (PV×AH)) (e:XE) (lo hi:PSt->AH->Option (Option Int×AH)):XE:=fun ρ h=>ob (e ρ h) fun x h1=>ob (lo ρ h1) fun l h2=>ob (hi ρ h2) fun u h3=>p x l u h3
def yrC (p:PV->Option Int->Option Int->AH->Option (Nd×AH)) (e:XE) (lo hi:PSt->AH->Option (Option Int×AH)):XO:=fun ρ h=>ob (e ρ h) fun x h1=>ob (lo ρ h1) fun l h2=>ob (hi ρ h2) fun u h3=>p x l u h3
noncomputable def ycE (K:Ck) (r:R2) (p:P2):Prop:=∀ (W:Wd) (x y:PV) (v u:V) (Q:VK) (z:PV) (h':AH),WOk K W->ydb K W x v->ydb K W y u->p x y W.h=some (z,h')->(∀ w W',W'.h=h'->Le K W W'->ydb K W' z w->Q w W'.H)->r v u W.H Q
def yoe (K:Ck) (W:Wd) (d:Nd) (h':AH) (Q:VK):Prop:=∀ p W',W'.h=h'->Le K W W'->p∉W'.m->W.H p=none->d≠.dead->NdAt K W'.F W'.H W'.m d p->Q (.ref p) W'.H
def ynd (K:Ck) (r:R2) (p:P2O):Prop:=∀ (W:Wd) (x y:PV) (v u:V) (Q:VK) (d:Nd) (h':AH),WOk K W->ydb K W x v->ydb K W y u->p x y W.h=some (d,h')->yoe K W d h' Q->r v u W.H Q
noncomputable def yvE (K:Ck) (r:V->Hp->VK->Prop) (p:PV->AH->Option (PV×AH)):Prop:=∀ (W:Wd) (x:PV) (v:V) (Q:VK) (z:PV) (h':AH),WOk K W->ydb K W x v->p x W.h=some (z,h')->(∀ w W',W'.h=h'->Le K W W'->ydb K W' z w->Q w W'.H)->r v W.H Q
noncomputable def ygg (K:Ck) (r:List V->Hp->VK->Prop) (p:List PV->AH->Option (PV×AH)):Prop:=∀ (W:Wd) (xs:List PV) (vs:List V) (Q:VK) (z:PV) (h':AH),WOk K W->ydt K W xs vs->p xs W.h=some (z,h')->(∀ w W',W'.h=h'->Le K W W'->ydb K W' z w->Q w W'.H)->r vs W.H Q
def ypM (K:Ck) (r:List V->Hp->VK->Prop) (p:List PV->AH->Option (Nd×AH)):Prop:=∀ (W:Wd) (xs:List PV) (vs:List V) (Q:VK) (d:Nd) (h':AH),WOk K W->ydt K W xs vs->p xs W.h=some (d,h')->yoe K W d h' Q->r vs W.H Q
def yof (K:Ck) (T:String) (c:PV->AH->Bool) (r:V->List V->Hp->VK->Prop) (p:PM):Prop :=
 (∀ (W:Wd) (x:PV) (v:V),WOk K W->ydb K W x v->c x W.h=true->tyV K.K T v W.H) /\
 ∀ (W:Wd) (x:PV) (v:V) (xs:List PV) (vs:List V) (Q:VK) (z:PV) (h':AH),WOk K W->ydb K W x v->ydt K W xs vs->p x xs W.h=some (z,h')->(∀ w W',W'.h=h'->Le K W W'->ydb K W' z w->Q w W'.H)->r v vs W.H Q
theorem yvF (i:Nat):ycP K (yvc i) (ye i):=by
 intro W0 W ρ σ Q x h' g e q
 unfold ye at e
 split at e
 .rename_i y hy
  cases e
  obtain ⟨v,h1,h2⟩:=g.val i _ hy
  exact ⟨v,h1,q v W rfl (.refl g.ok) h2⟩
 .cases e
theorem ypN {v:V}{x:PV}(h:∀ W:Wd,ydb K W x v):ycP K (tC v) (xC x):=by
 intro W0 W ρ σ Q y h' g e q
 cases e
 exact q v W rfl (.refl g.ok) (h W)
theorem ypO {i:Int}:ycP K (tC (.int i)) (xC (.int i)):=ypN fun _=>rfl
theorem ypP {i:Str}:ycP K (tC (.str i)) (xC (.str i)):=ypN fun _=>rfl
theorem yyW {i:Bool}:ycP K (tC (.bl i)) (xC (.bl i)):=ypN fun _=>rfl
theorem yvG:ycP K (tC .non) (xC .non):=ypN fun _=>rfl
theorem yyX {n:String}:ycP K (tC (.ty n)) (xC (.ty n)):=ypN fun _=>rfl
section
variable {ta tb tc:TE}{ea eb ec:XE}{t:TA}{e:XA}
theorem yne {r:R2}{p:P2}(o:ycE K r p) (a:ycP K ta ea) (b:ycP K tb eb):ycP K (tOp r ta tb) (xOp p ea eb):=by
 intro W0 W ρ σ Q z h' g e q
 obtain ⟨x,h1,e1,f1⟩:=yj e
 obtain ⟨y,h2,e2,f2⟩:=yj f1
 refine a W0 W ρ σ _ x h1 g e1 fun v W1 w1 l1 r1=>?_
 subst w1
 refine b W0 W1 ρ σ _ y h2 (g.step l1) e2 fun u W2 w2 l2 r2=>?_
 subst w2
 exact o W2 x y v u Q z h' l2.ok (l2.rep r1) r2 f2 fun w W3 w3 l3 r3=>q w W3 w3 (l1.trans (l2.trans l3)) r3
theorem yfB {W W1:Wd}{d:Nd}{h':AH}{Q:VK}(l:Le K W W1) (q:yoe K W d h' Q):yoe K W1 d h' Q:=fun p W' e l' n f=>q p W' e (l.trans l') n (l.fresh f)
theorem yvH {r:R2}{p:P2O}(o:ynd K r p) (a:ycP K ta ea) (b:ycP K tb eb):yoc K (tOp r ta tb) (ykJ p ea eb):=by
 intro W0 W ρ σ Q z h' g e q
 obtain ⟨x,h1,e1,f1⟩:=yj e
 obtain ⟨y,h2,e2,f2⟩:=yj f1
 refine a W0 W ρ σ _ x h1 g e1 fun v W1 w1 l1 r1=>?_
 subst w1
 refine b W0 W1 ρ σ _ y h2 (g.step l1) e2 fun u W2 w2 l2 r2=>?_
 subst w2
 exact o W2 x y v u Q z h' l2.ok (l2.rep r1) r2 f2 (yfB (l1.trans l2) q)
theorem yyY {r} {p} (o:yvE K r p) (a:ycP K ta ea):ycP K (tUn r ta) (xUn p ea):=by
 intro W0 W ρ σ Q z h' g e q
 obtain ⟨x,h1,e1,f1⟩:=yj e
 refine a W0 W ρ σ _ x h1 g e1 fun v W1 w1 l1 r1=>?_
 subst w1
 exact o W1 x v Q z h' l1.ok r1 f1 fun w W3 w3 l3 r3=>q w W3 w3 (l1.trans l3) r3
theorem ymg {x:PV}{h:AH}{k:Bool}{h':AH}(e:oB x h=some (k,h')):x=.bl k/\h'=h:=by
 unfold oB at e
 split at e
 .cases e;exact ⟨rfl,rfl⟩
 .cases e
theorem ykK {r r':R2}{p p':P2}(o:ycE K r p) (o':ycE K r' p') (a:ycP K ta ea) (b:ycP K tb eb) (c:ycP K tc ec):ycP K (ypr r r' ta tb tc) (yiN p p' ea eb ec):=by
 intro W0 W ρ σ Q z h' g e q
 obtain ⟨x,h1,e1,f1⟩:=yj e
 obtain ⟨y,h2,e2,f2⟩:=yj f1
 obtain ⟨z',h3,e3,f3⟩:=yj f2
 obtain ⟨k,h3',e3',f4⟩:=yj f3
 obtain ⟨rfl,rfl⟩:=ymg e3'
 refine a W0 W ρ σ _ x h1 g e1 fun v W1 w1 l1 r1=>?_
 subst w1
 refine b W0 W1 ρ σ _ y h2 (g.step l1) e2 fun u W2 w2 l2 r2=>?_
 subst w2
 refine o W2 x y v u _ _ _ l2.ok (l2.rep r1) r2 e3 fun w W3 w3 l3 r3=>⟨k,r3,?_⟩
 subst w3
 have l:=l1.trans (l2.trans l3)
 cases k with
 | false =>
  rw [if_neg (by decide)] at f4 ⊢
  cases f4
  exact q _ W3 rfl l rfl
 | true =>
  rw [if_pos rfl] at f4 ⊢
  obtain ⟨w',h4,e4,f5⟩:=yj f4
  refine c W0 W3 ρ σ _ w' h4 (g.step l) e4 fun u' W4 w4 l4 r4=>?_
  subst w4
  exact o' W4 y w' u u' Q z h' l4.ok ((l3.trans l4).rep r2) r4 f5 fun w W5 w5 l5 r5=>q w W5 w5 (l.trans (l4.trans l5)) r5
theorem yjD (a:ycP K ta ea):ylD K (yvk ta) (yH ea):=by
 intro W0 W ρ σ Q k h' g e q
 obtain ⟨x,h1,e1,f1⟩:=yj e
 obtain ⟨rfl,rfl⟩:=ymg f1
 exact a W0 W ρ σ _ _ _ g e1 fun v W1 w1 l1 r1=>⟨k,r1,q W1 w1 l1⟩
theorem yyZ (a:ycP K ta ea):ylD K (tB ta) (yH ea):=yjD a
theorem yso (a:ycP K ta ea) (b:ycP K tb eb):ycP K (yyj ta tb) (yod ea eb):=by
 intro W0 W ρ σ Q z h' g e q
 obtain ⟨x,h1,e1,f1⟩:=yj e
 obtain ⟨k,h1',e1',f2⟩:=yj f1
 obtain ⟨rfl,rfl⟩:=ymg e1'
 refine a W0 W ρ σ _ _ _ g e1 fun v W1 w1 l1 r1=>⟨k,r1,?_⟩
 subst w1
 cases k with
 | false =>
  rw [if_neg (by decide)] at f2 ⊢
  cases f2
  exact q _ W1 rfl l1 rfl
 | true =>
  rw [if_pos rfl] at f2 ⊢
  exact b W0 W1 ρ σ _ z h' (g.step l1) f2 fun v W2 w2 l2 r2=>q v W2 w2 (l1.trans l2) r2
section
variable {tA tB':TT}{eA eB:XT}
theorem yvI (a:ylD K tA eA) (b:ylD K tB' eB):ylD K (yEO tA tB') (yyV eA eB):=by
 intro W0 W ρ σ Q z h' g e q
 obtain ⟨k,h1,e1,f1⟩:=yj e
 refine a W0 W ρ σ _ _ _ g e1 fun W1 w1 l1=>?_
 subst w1
 cases k with
 | false =>
  rw [if_neg (by decide)] at f1 ⊢
  cases f1
  exact q W1 rfl l1
 | true =>
  rw [if_pos rfl] at f1 ⊢
  exact b W0 W1 ρ σ _ z h' (g.step l1) f1 fun W2 w2 l2=>q W2 w2 (l1.trans l2)
theorem yza (a:ylD K tA eA) (b:ylD K tB' eB):ylD K (tOr tA tB') (xOr eA eB):=by
 intro W0 W ρ σ Q z h' g e q
 obtain ⟨k,h1,e1,f1⟩:=yj e
 refine a W0 W ρ σ _ _ _ g e1 fun W1 w1 l1=>?_
 subst w1
 cases k with
 | true =>
  rw [if_pos rfl] at f1 ⊢
  cases f1
  exact q W1 rfl l1
 | false =>
  rw [if_neg (by decide)] at f1 ⊢
  exact b W0 W1 ρ σ _ z h' (g.step l1) f1 fun W2 w2 l2=>q W2 w2 (l1.trans l2)
theorem yvJ (a:ylD K tA eA):ylD K (yBX tA) (ymf eA):=by
 intro W0 W ρ σ Q z h' g e q
 obtain ⟨k,h1,e1,f1⟩:=yj e
 cases f1
 exact a W0 W ρ σ _ _ _ g e1 fun W1 w1 l1=>q W1 w1 l1
theorem yzb (c:ylD K tA eA) (a:ycP K ta ea) (b:ycP K tb eb):ycP K (tIf tA ta tb) (xIf eA ea eb):=by
 intro W0 W ρ σ Q z h' g e q
 obtain ⟨k,h1,e1,f1⟩:=yj e
 refine c W0 W ρ σ _ _ _ g e1 fun W1 w1 l1=>?_
 subst w1
 cases k with
 | true =>
  rw [if_pos rfl] at f1 ⊢
  exact a W0 W1 ρ σ _ z h' (g.step l1) f1 fun v W2 w2 l2 r2=>q v W2 w2 (l1.trans l2) r2
 | false =>
  rw [if_neg (by decide)] at f1 ⊢
  exact b W0 W1 ρ σ _ z h' (g.step l1) f1 fun v W2 w2 l2 r2=>q v W2 w2 (l1.trans l2) r2
end
theorem ypQ:ylE K yBK yk:=by
 intro W0 W ρ σ Q z h' g e q
 cases e
 exact q [] W rfl (.refl g.ok) rfl
theorem ysp (a:ycP K ta ea) (r:ylE K t e):ylE K (yvp ta t) (yb ea e):=by
 intro W0 W ρ σ Q z h' g e q
 obtain ⟨x,h1,e1,f1⟩:=yj e
 obtain ⟨xs,h2,e2,f2⟩:=yj f1
 cases f2
 refine a W0 W ρ σ _ x h1 g e1 fun v W1 w1 l1 r1=>?_
 subst w1
 exact r W0 W1 ρ σ _ xs _ (g.step l1) e2 fun vs W2 w2 l2 r2=>q (v::vs) W2 w2 (l1.trans l2) ⟨v,vs,rfl,l2.rep r1,r2⟩
def yuc (W:Wd) (p:Addr) (o:HO):Wd:=⟨upd W.F p o,upd W.H p o,W.m,W.h⟩
theorem ymh {W:Wd}{p:Addr}{o:HO}(w:WOk K W) (h:W.H p=none):Le K W (yuc W p o):=by
 have hm:=w.out h
 have hf:=w.ff h
 have sF:Same W.F (upd W.F p o):=ydS hf o
 refine ⟨⟨?_,w.len,w.nd,fun n d a e1 e2=>?_⟩,sF,prefix_refl _,fun b u e _=>ydS h o b u e,fun b u e _ f=>?_,fun b z n=>absurd z n,fun n ks xs e1=>⟨e1,fun a e2=>yR fun z=>hm (z ▸ mem_of_getElem? e2)⟩⟩
 .intro b u e
  show upd W.H p o b=some u
  by_cases hb:b=p
  .subst hb;rw [show (yuc W b o).F b=upd W.F b o b from rfl,yba] at e;rw [yba];exact e
  .rw [show (yuc W p o).F b=upd W.F p o b from rfl,yR hb] at e;rw [yR hb];exact w.le _ _ e
 .have ha:a≠p:=fun z=>hm (z ▸ mem_of_getElem? e2)
  exact (w.at_ n d a e1 e2).mono sF (prefix_refl _) (fun u e=>by rw [show (yuc W p o).H a=upd W.H p o a from rfl,yR ha];exact e) fun f=>(yR ha).trans f
 .have:b≠p:=ybU e h
  rw [show (yuc W p o).F b=upd W.F p o b from rfl,yR this];exact f
def ykh (W:Wd) (p:Addr) (o:HO):Wd:=⟨W.F,upd W.H p o,W.m,W.h⟩
theorem yfS {W:Wd}{p:Addr}{o:HO}(w:WOk K W) (h:W.H p=none):Le K W (ykh W p o):=by
 have hm:=w.out h
 refine ⟨⟨?_,w.len,w.nd,fun n d a e1 e2=>?_⟩,Same.refl _,prefix_refl _,fun b u e _=>ydS h o b u e,fun b u e _ f=>f,fun b z n=>absurd z n,fun n ks xs e1=>⟨e1,fun a e2=>yR fun z=>hm (z ▸ mem_of_getElem? e2)⟩⟩
 .exact fun b u e=>ydS h o b u (w.le _ _ e)
 .exact (w.at_ n d a e1 e2).mono (Same.refl _) (prefix_refl _) (fun u e=>ydS h o _ _ e) id
theorem small {n:Nat}(h:n<=1000):n<=sizeLine:=le_of_lt (ypF h)
theorem yvK (a:ylE K t e):ycP K (yFb t) (yiO e):=by
 intro W0 W ρ σ Q z h' g e q
 obtain ⟨xs,h1,e1,f1⟩:=yj e
 split at f1
 .rename_i hl
  cases f1
  refine a W0 W ρ σ _ xs _ g e1 fun vs W1 w1 l1 r1=>⟨small (by rw [r1.len];exact hl),fun p hp=>?_⟩
  have l2:=ymh (o:=.tup vs) l1.ok hp
  exact q (.ref p) (yuc W1 p (.tup vs)) w1 (l1.trans l2) ⟨p,vs,rfl,.inl yba,l2.repL r1⟩
 .cases f1
theorem yvL (a:ylE K t e):yoc K (yFc t) (ydR e):=by
 intro W0 W ρ σ Q z h' g e q
 obtain ⟨xs,h1,e1,f1⟩:=yj e
 split at f1
 .rename_i hl
  cases f1
  refine a W0 W ρ σ _ xs _ g e1 fun vs W1 w1 l1 r1=>⟨small (by rw [r1.len];exact hl),fun p hp=>?_⟩
  have l2:=yfS (o:=.lst vs) l1.ok hp
  exact q p (ykh W1 p (.lst vs)) w1 (l1.trans l2) (l1.ok.out hp) (l1.fresh hp) (fun z=>by cases z) ⟨l1.ok.ff hp,vs,yba,r1⟩
 .cases f1
def ysq (W:Wd) (p:Addr) (o:HO):Wd:=⟨upd W.F p o,W.H,W.m,W.h⟩
theorem ypR {W:Wd}{p:Addr}{o:HO}(w:WOk K W) (h:W.H p=some o) (hm:p∉W.m) (hf:W.F p=none):WOk K (ysq W p o)/\Same W.F (upd W.F p o):=by
 have sF:Same W.F (upd W.F p o):=ydS hf o
 refine ⟨⟨?_,w.len,w.nd,fun n d a e1 e2=>?_⟩,sF⟩
 .intro b u e
  by_cases hb:b=p
  .subst hb;rw [show (ysq W b o).F b=upd W.F b o b from rfl,yba] at e;cases e;exact h
  .rw [show (ysq W p o).F b=upd W.F p o b from rfl,yR hb] at e;exact w.le _ _ e
 .have ha:a≠p:=fun z=>hm (z ▸ mem_of_getElem? e2)
  exact (w.at_ n d a e1 e2).mono sF (prefix_refl _) (fun u e=>e) fun f=>(yR ha).trans f
theorem ymi {W W1:Wd}{p:Addr}{o:HO}(l:Le K W W1) (h:W1.H p=some o) (hm:p∉W1.m) (hf:W1.F p=none) (hn:W.H p=none):Le K W (ysq W1 p o):=by
 obtain ⟨k,sF⟩:=ypR l.ok h hm hf
 refine ⟨k,l.fs.trans sF,l.pre,l.keep,fun b u e n f=>?_,l.mn,l.fz⟩
 have:b≠p:=ybU e hn
 rw [show (ysq W1 p o).F b=upd W1.F p o b from rfl,yR this];exact l.new b u e n f
theorem yud {o:XO}(a:yoc K ta o):ycP K ta (xFz o):=by
 intro W0 W ρ σ Q z h' g e q
 obtain ⟨d,h1,e1,f1⟩:=yj e
 refine a W0 W ρ σ _ d h1 g e1 fun p W1 w1 l1 hm hn hd at_=>?_
 split at f1
 .rename_i xs
  cases f1
  obtain ⟨hf,vs,hp,r⟩:=at_
  have l2:=ymi l1 hp hm hf hn
  exact q (.ref p) (ysq W1 p (.lst vs)) w1 l2 ⟨p,vs,rfl,yba,RepL.mono (ydS hf _) (prefix_refl _) _ _ r⟩
 .rename_i k ns xs
  cases f1
  obtain ⟨hf,dx,vs,hp,hl,r⟩:=at_
  have l2:=ymi l1 hp hm hf hn
  exact q (.ref p) (ysq W1 p _) w1 l2 ⟨p,dx,vs,rfl,yba,hl,RepL.mono (ydS hf _) (prefix_refl _) _ _ r⟩
 .cases f1
theorem yvM {o:XO}(a:yoc K ta o):ycP K ta (yvD o):=by
 intro W0 W ρ σ Q z h' g e q
 obtain ⟨d,h1,e1,f1⟩:=yj e
 cases f1
 refine a W0 W ρ σ _ d h1 g e1 fun p W1 w1 l1 hm hn hd at_=>?_
 subst w1
 have pre:W1.m <+: W1.m++[p]:=List.prefix_append _ _
 refine q (.ref p) ⟨W1.F,W1.H,W1.m++[p],W1.h++[d]⟩ rfl ⟨⟨l1.ok.le,?_,?_,fun n d' a e1 e2=>?_⟩,l1.fs,l1.pre.trans pre,l1.keep,l1.new,fun b z n=>?_,fun n ks xs e1=>⟨by
  have:=(l1.fz n ks xs e1).1
  show (W1.h++[d])[n]?=_
  rw [getElem?_append_left (List.getElem?_eq_some_iff.mp this).1];exact this,(l1.fz n ks xs e1).2⟩⟩ ⟨p,rfl,?_⟩
 .show (W1.m++[p]).length=(W1.h++[d]).length
  rw [length_append,length_append,l1.ok.len];rfl
 .show (W1.m++[p]).Nodup
  rw [List.nodup_append]
  refine ⟨l1.ok.nd,by simp,?_⟩
  intro a ha b hb
  simp at hb
  subst hb
  exact fun z=>hm (z ▸ ha)
 .have e1:(W1.h++[d])[n]?=some d':=e1
  have e2:(W1.m++[p])[n]?=some a:=e2
  by_cases hlt:n<W1.h.length
  .rw [getElem?_append_left hlt] at e1
   rw [getElem?_append_left (by rw [l1.ok.len];exact hlt)] at e2
   exact (l1.ok.at_ n d' a e1 e2).mono (Same.refl _) pre (fun _ f1=>f1) id
  .rw [getElem?_append_right (by omega)] at e1
   rw [getElem?_append_right (by rw [l1.ok.len];omega)] at e2
   rw [l1.ok.len] at e2
   cases hk:n-W1.h.length with
   | zero =>
    rw [hk] at e1 e2
    simp at e1 e2
    subst e1 e2
    exact at_.mono (Same.refl _) pre (fun _ f1=>f1) id
   | succ k=>rw [hk] at e1;simp at e1
 .have z:b∈W1.m++[p]:=z
  rcases List.mem_append.mp z with z|z
  .exact l1.mn b z n
  .simp at z;subst z;exact hn
 .show (W1.m++[p])[W1.h.length]?=some p
  rw [<- l1.ok.len];simp
noncomputable def spE (K:Ck) (n:Nat) (f:Fn):Sp:=fun vs H Q _=>∃ (W:Wd) (xs:List PV) (x:PV) (h':AH),W.H=H/\WOk K W/\ydt K W xs vs/\xs.length=n/\f xs W.h=some (x,h')/\∀ v W',W'.h=h'->Le K W W'->ydb K W' x v->Q v W'.H
theorem ysr {n:Nat}{f:Fn}{ex:XK}(a:ylE K t e) (hn:∀ ρ h xs h',e ρ h=some (xs,h')->xs.length=n):ycP K (yyA (spE K n f) [] ex t) (yP f e):=by
 intro W0 W ρ σ Q z h' g e' q
 obtain ⟨xs,h1,e1,e2⟩:=yj e'
 refine a W0 W ρ σ _ xs h1 g e1 fun vs W1 w1 l1 r1=>?_
 subst w1
 rw [append_nil]
 exact ⟨W1,xs,z,h',rfl,l1.ok,r1,hn _ _ _ _ e1,e2,fun v W2 w2 l2 r2=>q v W2 w2 (l1.trans l2) r2⟩
theorem ypS:∀ ρ h xs h',yk ρ h=some (xs,h')->xs.length=0:=fun ρ h xs h' e=>by cases e;rfl
theorem yss {n:Nat}(l:∀ ρ h xs h',e ρ h=some (xs,h')->xs.length=n):∀ ρ h xs h',yb ea e ρ h=some (xs,h')->xs.length=n+1:=fun ρ h xs h' q=>by
 obtain ⟨x,h1,e1,q⟩:=yj q
 obtain ⟨ys,h2,e2,q⟩:=yj q
 cases q
 rw [length_cons,l _ _ _ _ e2]
theorem yue {r} {p} (o:ygg K r p) (a:ylE K t e):ycP K (tCB r t) (xCB p e):=by
 intro W0 W ρ σ Q z h' g e' q
 obtain ⟨xs,h1,e1,e2⟩:=yj e'
 refine a W0 W ρ σ _ xs h1 g e1 fun vs W1 w1 l1 r1=>?_
 subst w1
 exact o W1 xs vs Q z h' l1.ok r1 e2 fun v W2 w2 l2 r2=>q v W2 w2 (l1.trans l2) r2
theorem yvN {r} {p} (o:ypM K r p) (a:ylE K t e):yoc K (tCB r t) (ysn p e):=by
 intro W0 W ρ σ Q z h' g e' q
 obtain ⟨xs,h1,e1,e2⟩:=yj e'
 refine a W0 W ρ σ _ xs h1 g e1 fun vs W1 w1 l1 r1=>?_
 subst w1
 exact o W1 xs vs Q z h' l1.ok r1 e2 (yfB l1 q)
theorem yzc {T:String}{c} {r} {p} (o:yof K T c r p) (b:ycP K ta ea) (a:ylE K t e):ycP K (tBM K.K T r ta t) (xBM c p ea e):=by
 intro W0 W ρ σ Q z h' g e' q
 obtain ⟨x,h1,e1,f1⟩:=yj e'
 split at f1
 .rename_i hc
  obtain ⟨xs,h2,e2,f2⟩:=yj f1
  refine b W0 W ρ σ _ x h1 g e1 fun v W1 w1 l1 r1=>⟨o.1 W1 x v l1.ok r1 (by rw [w1];exact hc),?_⟩
  subst w1
  refine a W0 W1 ρ σ _ xs h2 (g.step l1) e2 fun vs W2 w2 l2 r2=>?_
  subst w2
  exact o.2 W2 x v xs vs Q z h' l2.ok (l2.rep r1) r2 f2 fun w W3 w3 l3 r3=>q w W3 w3 (l1.trans (l2.trans l3)) r3
 .cases f1
end
noncomputable def yuf (K:Ck) (t:TO) (e:PSt->AH->Option (Option Int×AH)):Prop:=∀ (W0 W:Wd) (ρ:PSt) (σ:St) (Q:Option Int->Hp->Prop) (x:Option Int) (h':AH),Good K W0 W ρ σ->e ρ W.h=some (x,h') ->
 (∀ W',W'.h=h'->Le K W W'->Q x W'.H)->t σ W.H Q
theorem yog:yuf K ypz yfd:=by
 intro W0 W ρ σ Q z h' g e q
 cases e
 exact q W rfl (.refl g.ok)
theorem yst {ta:TE}{ea:XE}(a:ycP K ta ea):yuf K (yyD ta) (ygf ea):=by
 intro W0 W ρ σ Q z h' g e q
 obtain ⟨x,h1,e1,f1⟩:=yj e
 split at f1
 .rename_i i
  cases f1
  exact a W0 W ρ σ _ _ _ g e1 fun v W1 w1 l1 r1=>⟨i,r1,q W1 w1 l1⟩
 .cases f1
noncomputable def yvO (K:Ck) (r:V->Option Int->Option Int->Hp->VK->Prop) (p:PV->Option Int->Option Int->AH->Option (PV×AH)):Prop:=∀ (W:Wd) (x:PV) (v:V) (lo hi:Option Int) (Q:VK) (z:PV) (h':AH),WOk K W->ydb K W x v->p x lo hi W.h=some (z,h')->(∀ w W',W'.h=h'->Le K W W'->ydb K W' z w->Q w W'.H)->r v lo hi W.H Q
def ypT (K:Ck) (r:V->Option Int->Option Int->Hp->VK->Prop) (p:PV->Option Int->Option Int->AH->Option (Nd×AH)):Prop:=∀ (W:Wd) (x:PV) (v:V) (lo hi:Option Int) (Q:VK) (d:Nd) (h':AH),WOk K W->ydb K W x v->p x lo hi W.h=some (d,h')->yoe K W d h' Q->r v lo hi W.H Q
theorem yzd {r} {p} {ta:TE}{ea:XE}{tl th:TO}{el eh} (o:yvO K r p) (a:ycP K ta ea) (b:yuf K tl el) (c:yuf K th eh):ycP K (tSl r ta tl th) (xSl p ea el eh):=by
 intro W0 W ρ σ Q z h' g e q
 obtain ⟨x,h1,e1,f1⟩:=yj e
 obtain ⟨l,h2,e2,f2⟩:=yj f1
 obtain ⟨u,h3,e3,f3⟩:=yj f2
 refine a W0 W ρ σ _ x h1 g e1 fun v W1 w1 l1 r1=>?_
 subst w1
 refine b W0 W1 ρ σ _ l h2 (g.step l1) e2 fun W2 w2 l2=>?_
 subst w2
 refine c W0 W2 ρ σ _ u h3 (g.step (l1.trans l2)) e3 fun W3 w3 l3=>?_
 subst w3
 exact o W3 x v l u Q z h' l3.ok ((l2.trans l3).rep r1) f3 fun w W4 w4 l4 r4=>q w W4 w4 (l1.trans (l2.trans (l3.trans l4))) r4
theorem yvP {r} {p} {ta:TE}{ea:XE}{tl th:TO}{el eh} (o:ypT K r p) (a:ycP K ta ea) (b:yuf K tl el) (c:yuf K th eh):yoc K (tSl r ta tl th) (yrC p ea el eh):=by
 intro W0 W ρ σ Q z h' g e q
 obtain ⟨x,h1,e1,f1⟩:=yj e
 obtain ⟨l,h2,e2,f2⟩:=yj f1
 obtain ⟨u,h3,e3,f3⟩:=yj f2
 refine a W0 W ρ σ _ x h1 g e1 fun v W1 w1 l1 r1=>?_
 subst w1
 refine b W0 W1 ρ σ _ l h2 (g.step l1) e2 fun W2 w2 l2=>?_
 subst w2
 refine c W0 W2 ρ σ _ u h3 (g.step (l1.trans l2)) e3 fun W3 w3 l3=>?_
 subst w3
 exact o W3 x v l u Q z h' l3.ok ((l2.trans l3).rep r1) f3 (yfB (l1.trans (l2.trans l3)) q)
end PX
namespace PX
open PySem L2
variable {K:Ck}
def ybm:XS:=fun ρ h=>some (.nx ρ,h)
def yw (s u:XS):XS:=fun ρ h=>ob (s ρ h) fun o h1=>match o with|.nx ρ'=>u ρ' h1|.rt x=>some (.rt x,h1)|.bk ρ'=>some (.bk ρ',h1)|.ct ρ'=>some (.ct ρ',h1)
def yeh (e:XE):XS:=fun ρ h=>ob (e ρ h) fun _ h1=>some (.nx ρ,h1)
def ybq (e:XE):XS:=fun ρ h=>ob (e ρ h) fun x h1=>some (.rt x,h1)
def yck (c:XT) (s u:XS):XS:=fun ρ h=>ob (c ρ h) fun k h1=>if k=true then s ρ h1 else u ρ h1
abbrev XG:=PV->PSt->Option PSt
abbrev XGs:=List PV->PSt->Option PSt
def yl (i:Nat):XG:=fun x ρ=>some (ρ.set i (.val x))
def yvQ:XGs:=fun xs ρ=>match xs with|[]=>some ρ|_=>none
def yhn (g:XG) (r:XGs):XGs:=fun xs ρ=>match xs with|[]=>none|x::xs=>(g x ρ).bind fun ρ'=>r xs ρ'
def ysu (n:Nat) (g:XGs):XG:=fun x ρ=>match x with|.tup xs=>if xs.length=n then g xs ρ else none|_=>none
def ybc (e:XE) (g:XG):XS:=fun ρ h=>ob (e ρ h) fun x h1=>(g x ρ).bind fun ρ'=>some (.nx ρ',h1)
def yoh (e:XO) (i:Nat):XS:=fun ρ h=>ob (e ρ h) fun d h1=>some (.nx (ρ.set i (.own d)),h1)
def ysv:PVar->PVar
 | .own (.lst xs)=>.val (.lst xs)
 | .own (.ins k ns xs)=>.val (.ins k ns xs)
 | v=>v
def ymj (i:Nat) (ρ:PSt):PSt:=ρ.modify i ysv
def yze (i:Nat) (s:XS):XS:=fun ρ h=>s (ymj i ρ) h
def yfF (i:Nat) (e:XE):XS:=fun ρ h=>match ρ[i]? with
 | some (.own (.lst xs))=>ob (e ρ h) fun x h1=>if xs.length<100000 then some (.nx (ρ.set i (.own (.lst (xs++[x])))),h1) else none
 | _=>none
def yeZ (g:XG) (s:XS):List PV->PSt->AH->Option (Out×AH)
 | [],ρ,h=>some (.nx ρ,h)
 | x::xs,ρ,h=>(g x ρ).bind fun ρ1=>ob (s ρ1 h) fun o h1=>match o with|.nx ρ'=>yeZ g s xs ρ' h1|.ct ρ'=>yeZ g s xs ρ' h1|.bk ρ'=>some (.nx ρ',h1)|.rt y=>some (.rt y,h1)
def ylF (it:XA) (g:XG) (s:XS):XS:=fun ρ h=>ob (it ρ h) fun xs h1=>yeZ g s xs ρ h1
def whl (c:XT) (s:XS):Nat->PSt->AH->Option (Out×AH)
 | 0,_,_=>none
 | n+1,ρ,h=>ob (c ρ h) fun k h1=>if k=true then ob (s ρ h1) fun o h2=>(match o with|.nx ρ'=>whl c s n ρ' h2|.ct ρ'=>whl c s n ρ' h2|.bk ρ'=>some (.nx ρ',h2)|.rt y=>some (.rt y,h2)) else some (.nx ρ,h1)
def yiP (fuel:Nat) (c:XT) (s:XS):XS:=fun ρ h=>whl c s fuel ρ h
def yda (N:Nat) (s:XS):Fn:=fun xs h=>ob (s (xs.map .val++replicate (N-xs.length) .no) h) fun o h1=>match o with|.rt x=>some (x,h1)|.nx _=>some (.non,h1)|_=>none
def yrD (ρ:PSt) (i:Nat):PVar:=match ρ[i]? with|some (.val y)=>.val y|_=>.no
def yiw (ix:List Nat) (ρ:PSt) (x:PV):PSt:=.val x::ix.map (yrD ρ)
def yki (e:XE) (inn:PV->PSt):List PV->AH->Option (List PV×AH)
 | [],h=>some ([],h)
 | x::xs,h=>ob (e (inn x) h) fun y h1=>ob (yki e inn xs h1) fun ys h2=>some (y::ys,h2)
def yho (it:XA) (ix:List Nat) (e:XE):XO:=fun ρ h=>ob (it ρ h) fun xs h1=>if xs.length<=100000 then ob (yki e (yiw ix ρ) xs h1) fun ys h2=>some (.lst ys,h2) else none
theorem Ends.Ok.from_ {W0 W W1:Wd}{D:Ends}{h':AH}{o:Out}(l:Lf K W W1) (k:Ends.Ok K W0 W D h' o):Ends.Ok K W0 W1 D h' o:=by
 cases o with
 | nx ρ=>exact fun W' σ' e l' g=>k W' σ' e (l.trans l') g
 | bk ρ=>exact fun W' σ' e l' g=>k W' σ' e (l.trans l') g
 | ct ρ=>exact fun W' σ' e l' g=>k W' σ' e (l.trans l') g
 | rt x=>exact k
section
variable {ta tb:TE}{ea eb:XE}{t u:TS}{s s':XS}{tA:TT}{eA:XT}
theorem ysw:yha K yym ybm:=by
 intro W0 W ρ σ D o h' g e q
 cases e
 exact q W σ rfl .refl g
theorem yvR (a:yha K t s) (b:yha K u s'):yha K (yBZ t u) (yw s s'):=by
 intro W0 W ρ σ D o h' g e q
 obtain ⟨o1,h1,e1,f1⟩:=yj e
 refine a W0 W ρ σ _ o1 h1 g e1 ?_
 cases o1 with
 | nx ρ'=>exact fun W' σ' w l g'=>b W0 W' ρ' σ' D o h' g' (by rw [w];exact f1) (q.from_ l)
 | rt x=>cases f1;exact q
 | bk ρ'=>cases f1;exact q
 | ct ρ'=>cases f1;exact q
theorem ysx (a:ycP K ta ea):yha K (yvf ta) (yeh ea):=by
 intro W0 W ρ σ D o h' g e q
 obtain ⟨x,h1,e1,f1⟩:=yj e
 cases f1
 exact a W0 W ρ σ _ x _ g e1 fun v W1 w1 l1 r1=>q W1 σ w1 l1.lf (g.step l1)
theorem yvS (a:ycP K ta ea):yha K (yEP ta) (ybq ea):=by
 intro W0 W ρ σ D o h' g e q
 obtain ⟨x,h1,e1,f1⟩:=yj e
 cases f1
 exact a W0 W ρ σ _ x _ g e1 fun v W1 w1 l1 r1=>q W1 v w1 (g.le.trans l1) r1
theorem yvT (c:ylD K tA eA) (a:yha K t s) (b:yha K u s'):yha K (yEQ tA t u) (yck eA s s'):=by
 intro W0 W ρ σ D o h' g e q
 obtain ⟨k,h1,e1,f1⟩:=yj e
 refine c W0 W ρ σ _ k h1 g e1 fun W1 w1 l1=>?_
 subst w1
 cases k with
 | true =>
  rw [if_pos rfl] at f1 ⊢
  exact a W0 W1 ρ σ D o h' (g.step l1) f1 (q.from_ l1.lf)
 | false =>
  rw [if_neg (by decide)] at f1 ⊢
  exact b W0 W1 ρ σ D o h' (g.step l1) f1 (q.from_ l1.lf)
theorem Good.set {W0 W:Wd}{ρ:PSt}{σ:St}(g:Good K W0 W ρ σ) (i:Nat) {x:PV}{v:V}(r:ydb K W x v):Good K W0 W (ρ.set i (.val x)) (σ.set i (some v)) where
 le:=g.le
 len:=by simp [g.len]
 val:=fun j y e=>by
  by_cases hj:i=j
  .subst hj
   by_cases hl:i<ρ.length
   .rw [getElem?_set_self hl] at e
    cases e
    exact ⟨v,getElem?_set_self (by rw [g.len];exact hl),r⟩
   .rw [getElem?_eq_none (by simp;omega)] at e;cases e
  .rw [getElem?_set_ne hj] at e
   obtain ⟨w,h1,h2⟩:=g.val j y e
   exact ⟨w,by rw [getElem?_set_ne hj];exact h1,h2⟩
 own:=fun j d e=>by
  by_cases hj:i=j
  .subst hj
   by_cases hl:i<ρ.length
   .rw [getElem?_set_self hl] at e;cases e
   .rw [getElem?_eq_none (by simp;omega)] at e;cases e
  .rw [getElem?_set_ne hj] at e
   obtain ⟨p,h1,h2⟩:=g.own j d e
   exact ⟨p,by rw [getElem?_set_ne hj];exact h1,h2⟩
 ne:=fun j k d d' hjk e1 e2=>by
  have f:∀ {j:Nat}{d:Nd},(ρ.set i (.val x))[j]?=some (.own d)->i≠j/\ρ[j]?=some (.own d):=fun {j d} e=>by
   by_cases hj:i=j
   .subst hj
    by_cases hl:i<ρ.length
    .rw [getElem?_set_self hl] at e;cases e
    .rw [getElem?_eq_none (by simp;omega)] at e;cases e
   .rw [getElem?_set_ne hj] at e;exact ⟨hj,e⟩
  obtain ⟨a1,a2⟩:=f e1
  obtain ⟨b1,b2⟩:=f e2
  rw [getElem?_set_ne a1,getElem?_set_ne b1]
  exact g.ne j k d d' hjk a2 b2
theorem Good.setO {W0 W:Wd}{ρ:PSt}{σ:St}(g:Good K W0 W ρ σ) (i:Nat) {d:Nd}{p:Addr}(hm:p∉W.m) (h0:W0.H p=none) (hd:d≠.dead) (at_:NdAt K W.F W.H W.m d p)
  (ne:∀ j d',i≠j->ρ[j]?=some (.own d')->σ[j]?≠some (some (.ref p))):Good K W0 W (ρ.set i (.own d)) (σ.set i (some (.ref p))) where
 le:=g.le
 len:=by simp [g.len]
 val:=fun j y e=>by
  by_cases hj:i=j
  .subst hj
   by_cases hl:i<ρ.length
   .rw [getElem?_set_self hl] at e;cases e
   .rw [getElem?_eq_none (by simp;omega)] at e;cases e
  .rw [getElem?_set_ne hj] at e
   obtain ⟨w,h1,h2⟩:=g.val j y e
   exact ⟨w,by rw [getElem?_set_ne hj];exact h1,h2⟩
 own:=fun j d' e=>by
  by_cases hj:i=j
  .subst hj
   by_cases hl:i<ρ.length
   .rw [getElem?_set_self hl] at e
    cases e
    exact ⟨p,getElem?_set_self (by rw [g.len];exact hl),hm,h0,hd,at_⟩
   .rw [getElem?_eq_none (by simp;omega)] at e;cases e
  .rw [getElem?_set_ne hj] at e
   obtain ⟨p,h1,h2⟩:=g.own j d' e
   exact ⟨p,by rw [getElem?_set_ne hj];exact h1,h2⟩
 ne:=fun j k d1 d2 hjk e1 e2=>by
  have self:∀ {j:Nat}{d':Nd},i=j->(ρ.set i (.own d))[j]?=some (.own d')->(σ.set i (some (.ref p)))[j]?=some (some (.ref p)):=fun {j d'} hj e=>by
   subst hj
   by_cases hl:i<ρ.length
   .exact getElem?_set_self (by rw [g.len];exact hl)
   .rw [getElem?_eq_none (by simp;omega)] at e;cases e
  by_cases hj:i=j
  .have hk:i≠k:=fun z=>hjk (hj.symm.trans z)
   rw [self hj e1,getElem?_set_ne hk]
   rw [getElem?_set_ne hk] at e2
   exact (ne k d2 hk e2).symm
  .rw [getElem?_set_ne hj]
   rw [getElem?_set_ne hj] at e1
   by_cases hk:i=k
   .rw [self hk e2]
    exact ne j d1 hj e1
   .rw [getElem?_set_ne hk] at e2 ⊢
    exact g.ne j k d1 d2 hjk e1 e2
noncomputable def yvU (K:Ck) (g:TG) (y:XG):Prop:=∀ (W0 W:Wd) (ρ ρ':PSt) (σ:St) (x:PV) (v:V) (Q:St->Hp->Prop),Good K W0 W ρ σ->ydb K W x v->y x ρ=some ρ'->(∀ σ',Good K W0 W ρ' σ'->Q σ' W.H)->g v σ W.H Q
noncomputable def yoi (K:Ck) (g:TGs) (y:XGs):Prop:=∀ (W0 W:Wd) (ρ ρ':PSt) (σ:St) (x:List PV) (v:List V) (Q:St->Hp->Prop),Good K W0 W ρ σ->ydt K W x v->y x ρ=some ρ'->(∀ σ',Good K W0 W ρ' σ'->Q σ' W.H)->g v σ W.H Q
theorem yhQ (i:Nat):yvU K (ynP i) (yl i):=by
 intro W0 W ρ ρ' σ x v Q g r e q
 cases e
 exact q _ (g.set i r)
theorem ysy:yoi K yES yvQ:=by
 intro W0 W ρ ρ' σ x v Q g r e q
 cases x with
 | nil=>cases e;exact ⟨r,q _ g⟩
 | cons _ _=>cases e
theorem ypU {g:TG}{gs:TGs}{y:XG}{ys:XGs}(a:yvU K g y) (b:yoi K gs ys):yoi K (yyo g gs) (yhn y ys):=by
 intro W0 W ρ ρ' σ x v Q gd r e q
 cases x with
 | nil=>cases e
 | cons x xs =>
  obtain ⟨v1,vs,rfl,r1,r2⟩:=r
  obtain ⟨ρ1,e1,e2⟩:=Option.bind_eq_some_iff.mp e
  exact ⟨v1,vs,rfl,a W0 W ρ ρ1 σ x v1 _ gd r1 e1 fun σ' g'=>b W0 W ρ1 ρ' σ' xs vs Q g' r2 e2 q⟩
theorem ysz {n:Nat}{gs:TGs}{ys:XGs}(b:yoi K gs ys):yvU K (yET K.K n gs) (ysu n ys):=by
 intro W0 W ρ ρ' σ x v Q g r e q
 unfold ysu at e
 split at e
 .rename_i xs
  split at e
  .rename_i hl
   obtain ⟨a,vs,rfl,hs,rs⟩:=r
   exact ⟨a,vs,rfl,(hs.elim (fun h=>SqT.of (g.ok.le _ _ h)) .inr),by rw [rs.len];exact hl,b W0 W ρ ρ' σ xs vs Q g rs e q⟩
  .cases e
 .cases e
theorem ymk {g:TG}{y:XG}(a:ycP K ta ea) (b:yvU K g y):yha K (ytR ta g) (ybc ea y):=by
 intro W0 W ρ σ D o h' gd e q
 obtain ⟨x,h1,e1,f1⟩:=yj e
 obtain ⟨ρ',e2,f2⟩:=Option.bind_eq_some_iff.mp f1
 cases f2
 exact a W0 W ρ σ _ x _ gd e1 fun v W1 w1 l1 r1=>b W0 W1 ρ ρ' σ x v _ (gd.step l1) r1 e2 fun σ' g'=>q W1 σ' w1 l1.lf g'
theorem ysA {o:XO}(i:Nat) (a:yoc K ta o):yha K (ytR ta (ynP i)) (yoh o i):=by
 intro W0 W ρ σ D o h' gd e q
 obtain ⟨d,h1,e1,f1⟩:=yj e
 cases f1
 refine a W0 W ρ σ _ d _ gd e1 fun p W1 w1 l1 hm hn hd at_=>q W1 _ w1 l1.lf ((gd.step l1).setO i hm (gd.le.fresh hn) hd at_ fun j d' hj e hs=>?_)
 obtain ⟨p',h1,h2,_,_,h5⟩:=gd.own j d' e
 rw [h1] at hs
 cases hs
 obtain ⟨o,ho⟩:=h5.some
 rw [hn] at ho;cases ho
theorem Good.frz {W0 W:Wd}{ρ:PSt}{σ:St}(g:Good K W0 W ρ σ) (i:Nat):∃ W',W'.h=W.h/\W'.H=W.H/\Lf K W W'/\Good K W0 W' (ymj i ρ) σ:=by
 unfold ymj
 cases e:ρ[i]? with
 | none=>exact ⟨W,rfl,rfl,.refl,by rw [List.modify_eq_self (by simpa using e)];exact g⟩
 | some v =>
  have hl:i<ρ.length:=(List.getElem?_eq_some_iff.mp e).1
  have em:ρ.modify i ysv=ρ.set i (ysv v):=by
   apply List.ext_getElem?
   intro j
   rw [List.getElem?_modify,List.getElem?_set]
   by_cases hj:i=j
   .subst hj
    obtain ⟨_,ev⟩:=List.getElem?_eq_some_iff.mp e
    simp [hl,ev]
   .simp [hj]
  have same:ysv v=v->∃ W',W'.h=W.h/\W'.H=W.H/\Lf K W W'/\Good K W0 W' (ρ.modify i ysv) σ:=fun z=>⟨W,rfl,rfl,.refl,by
   rw [em,z]
   have:ρ.set i v=ρ:=by
    apply List.ext_getElem?
    intro j
    by_cases hj:i=j
    .subst hj;rw [getElem?_set_self hl,e]
    .rw [getElem?_set_ne hj]
   rw [this];exact g⟩
  have go:∀ (d:Nd) (x:PV) (p:Addr) (o:HO),v=.own d->ysv v=.val x->σ[i]?=some (some (.ref p))->p∉W.m->W0.H p=none->W.H p=some o->W.F p=none->(∀ (F':Hp),Same W.F F'->F' p=some o->Rep K F' W.m x (.ref p)) ->
    ∃ W',W'.h=W.h/\W'.H=W.H/\Lf K W W'/\Good K W0 W' (ρ.modify i ysv) σ:=fun d x p o hv hx hs hm h0 hp hf hr=>by
   obtain ⟨k,sF⟩:=ypR (K:=K) g.ok hp hm hf
   have lf:Lf K W (ysq W p o):=⟨sF,prefix_refl _,fun _ _ _ e=>⟨e,fun _ _=>rfl⟩⟩
   refine ⟨ysq W p o,rfl,rfl,lf,⟨ymi g.le hp hm hf h0,by rw [List.length_modify];exact g.len,fun j y e'=>?_,fun j d' e'=>?_,fun j1 j2 d1 d2 hj e1 e2=>?_⟩⟩
   .rw [em,hx] at e'
    by_cases hj:i=j
    .subst hj
     rw [getElem?_set_self hl] at e'
     cases e'
     exact ⟨_,hs,hr _ sF yba⟩
    .rw [getElem?_set_ne hj] at e'
     obtain ⟨w,a1,a2⟩:=g.val j y e'
     exact ⟨w,a1,lf.rep a2⟩
   .rw [em,hx] at e'
    by_cases hj:i=j
    .subst hj
     rw [getElem?_set_self hl] at e'
     cases e'
    .rw [getElem?_set_ne hj] at e'
     obtain ⟨q,a1,a2,a3,a4,a5⟩:=g.own j d' e'
     have hq:q≠p:=fun z=>g.ne j i d' d (fun z=>hj z.symm) e' (hv ▸ e) (by rw [a1,hs,z])
     exact ⟨q,a1,a2,a3,a4,a5.mono sF (prefix_refl _) (fun _ e=>e) fun f=>(yR hq).trans f⟩
   .rw [em,hx] at e1 e2
    have f:∀ {j:Nat}{d:Nd},(ρ.set i (.val x))[j]?=some (.own d)->ρ[j]?=some (.own d):=fun {j d} e=>by
     by_cases hj:i=j
     .subst hj;rw [getElem?_set_self hl] at e;cases e
     .rw [getElem?_set_ne hj] at e;exact e
    exact g.ne j1 j2 d1 d2 hj (f e1) (f e2)
  cases v with
  | no=>exact same rfl
  | val x=>exact same rfl
  | own d =>
   obtain ⟨p,a1,a2,a3,a4,a5⟩:=g.own i d e
   cases d with
   | lst xs =>
    obtain ⟨hf,vs,hp,r⟩:=a5
    exact go _ (.lst xs) p _ rfl rfl a1 a2 a3 hp hf fun F' s hF=>⟨p,vs,rfl,hF,RepL.mono s (prefix_refl _) _ _ r⟩
   | dct ks xs=>exact same rfl
   | fz ks xs=>exact same rfl
   | ins k ns xs =>
    obtain ⟨hf,dx,vs,hp,hl,r⟩:=a5
    exact go _ (.ins k ns xs) p _ rfl rfl a1 a2 a3 hp hf fun F' s hF=>⟨p,dx,vs,rfl,hF,hl,RepL.mono s (prefix_refl _) _ _ r⟩
   | dead=>exact same rfl
theorem yvV (i:Nat) (a:yha K t s):yha K t (yze i s):=by
 intro W0 W ρ σ D o h' g e q
 obtain ⟨W',e1,e2,l,g'⟩:=g.frz i
 rw [<- e2]
 exact a W0 W' _ σ D o h' g' (by rw [e1];exact e) (q.from_ l)
end
end PX
namespace PX
open PySem L2
variable {K:Ck}
section
variable {ta tb:TE}{ea eb:XE}{t u:TS}{s s':XS}{tA:TT}{eA:XT}
def yvW (W:Wd) (p:Addr) (o:HO):Wd:=⟨W.F,upd W.H p o,W.m,W.h⟩
theorem yvX {W:Wd}{p:Addr}{o:HO}(w:WOk K W) (hm:p∉W.m) (hf:W.F p=none):WOk K (yvW W p o):=by
 refine ⟨fun b u e=>?_,w.len,w.nd,fun n d a e1 e2=>?_⟩
 .have:b≠p:=ybU e hf
  exact (yR this).trans (w.le _ _ e)
 .have ha:a≠p:=fun z=>hm (z ▸ mem_of_getElem? e2)
  exact (w.at_ n d a e1 e2).mono (Same.refl _) (prefix_refl _) (fun u e=>(yR ha).trans e) id
theorem ypV {W W1:Wd}{p:Addr}{o:HO}(l:Le K W W1) (hm:p∉W1.m) (hf:W1.F p=none) (hn:W.H p=none):Le K W (yvW W1 p o) :=
 ⟨yvX l.ok hm hf,l.fs,l.pre,fun b u e n=>(yR (ybU e hn)).trans (l.keep b u e n),l.new,l.mn,fun n ks xs e1=>⟨(l.fz n ks xs e1).1,fun a e2=>(yR (fun (z:a=p)=>hm (z ▸ mem_of_getElem? (yhP l.pre e2)))).trans ((l.fz n ks xs e1).2 a e2)⟩⟩
theorem yug {W W1:Wd}{p:Addr}{o:HO}(l:Le K W W1) (hm:p∉W1.m):Lf K W (yvW W1 p o) :=
 ⟨l.fs,l.pre,fun n ks xs e1=>⟨(l.fz n ks xs e1).1,fun a e2=>(yR (fun (z:a=p)=>hm (z ▸ mem_of_getElem? (yhP l.pre e2)))).trans ((l.fz n ks xs e1).2 a e2)⟩⟩
theorem Good.mut {W0 W:Wd}{ρ:PSt}{σ:St}(g:Good K W0 W ρ σ) {i:Nat}{d d':Nd}{p:Addr}{o:HO}(e:ρ[i]?=some (.own d)) (hs:σ[i]?=some (some (.ref p))) (hm:p∉W.m) (h0:W0.H p=none) (hf:W.F p=none) (hd:d'≠.dead)
  (at_:NdAt K W.F (upd W.H p o) W.m d' p):Good K W0 (yvW W p o) (ρ.set i (.own d')) σ:=by
 have hl:i<ρ.length:=(List.getElem?_eq_some_iff.mp e).1
 refine ⟨ypV g.le hm hf h0,by rw [length_set];exact g.len,fun j y e'=>?_,fun j d1 e'=>?_,fun j1 j2 d1 d2 hj e1 e2=>?_⟩
 .by_cases hj:i=j
  .subst hj;rw [getElem?_set_self hl] at e';cases e'
  .rw [getElem?_set_ne hj] at e';exact g.val j y e'
 .by_cases hj:i=j
  .subst hj;rw [getElem?_set_self hl] at e';cases e';exact ⟨p,hs,hm,h0,hd,at_⟩
  .rw [getElem?_set_ne hj] at e'
   obtain ⟨q,a1,a2,a3,a4,a5⟩:=g.own j d1 e'
   have hq:q≠p:=fun z=>g.ne j i d1 d (fun z=>hj z.symm) e' e (by rw [a1,hs,z])
   exact ⟨q,a1,a2,a3,a4,a5.mono (Same.refl _) (prefix_refl _) (fun u e=>(yR hq).trans e) id⟩
 .have f:∀ {j:Nat}{d1:Nd},(ρ.set i (.own d'))[j]?=some (.own d1)->∃ d2,ρ[j]?=some (.own d2):=fun {j d1} e'=>by
   by_cases hj:i=j
   .subst hj;exact ⟨d,e⟩
   .rw [getElem?_set_ne hj] at e';exact ⟨_,e'⟩
  obtain ⟨_,f1⟩:=f e1
  obtain ⟨_,f2⟩:=f e2
  exact g.ne j1 j2 _ _ hj f1 f2
theorem big {n:Nat}(h:n<100000):n<sizeLine:=lt_of_lt_of_le h (by decide)
theorem yxG {n:Nat}(h:n<=100000):n<=sizeLine:=Nat.le_trans h (by decide)
theorem ysB (i:Nat) (a:ycP K ta ea):yha K (yvf (tBM K.K "list" ypC (yvc i) (yvp ta yBK))) (yfF i ea):=by
 intro W0 W ρ σ D o h' g e q
 unfold yfF at e
 split at e
 .rename_i xs0 hx
  obtain ⟨x,h1,e1,f1⟩:=yj e
  split at f1
  .rename_i hlen
   cases f1
   obtain ⟨p,a1,a2,a3,a4,hf,vs,hp,r⟩:=g.own i _ hx
   refine ⟨.ref p,a1,.inl ⟨rfl,_,SqL.of hp⟩,?_⟩
   refine a W0 W ρ σ _ x _ g e1 fun v W1 w1 l1 r1=>⟨p,vs,v,rfl,rfl,l1.keep _ _ hp a2,by rw [r.len];exact big hlen,?_⟩
   have g1:=g.step l1
   obtain ⟨p',b1,b2,b3,b4,b5,vs',b6,b7⟩:=g1.own i _ hx
   rw [a1] at b1
   cases b1
   rw [l1.keep _ _ hp a2] at b6
   cases b6
   exact q (yvW W1 p (.lst (vs++[v]))) σ w1 (yug l1 b2) (g1.mut hx a1 b2 b3 b5 (fun z=>by cases z) ⟨b5,_,yba,b7.snoc r1⟩)
  .cases f1
 .cases e
structure yCz (K:Ck) (W:Wd) (J:It) (xs:List PV):Prop where
 go:∀ (i:Nat) (W':Wd),Lf K W W'->WOk K W'->i<xs.length->J.go i W'.H
 yld:∀ (i:Nat) (W':Wd) (v:V) (H2:Hp),Lf K W W'->WOk K W'->i<xs.length->J.yld i W'.H v H2->H2=W'.H/\∃ x,xs[i]?=some x/\ydb K W' x v
 stop:∀ (W':Wd),Lf K W W'->WOk K W'->J.stop xs.length W'.H
noncomputable def yuh (K:Ck) (wi:TI) (e:XA):Prop:=∀ (W0 W:Wd) (ρ:PSt) (σ:St) (R:It->Hp->Prop) (xs:List PV) (h':AH),Good K W0 W ρ σ->e ρ W.h=some (xs,h')->(∀ J W',W'.h=h'->Le K W W'->yCz K W' J xs->R J W'.H)->wi σ W.H R
def xIL (e:XE):XA:=fun ρ h=>ob (e ρ h) fun x h1=>match x with|.lst xs=>some (xs,h1)|.scr ns=>some (ns.map .int,h1)|_=>none
def xIT (e:XE):XA:=fun ρ h=>ob (e ρ h) fun x h1=>match x with|.tup xs=>some (xs,h1)|_=>none
def sgn (c:Nat):PV:=.str ⟨#[c]⟩
def xIS (e:XE):XA:=fun ρ h=>ob (e ρ h) fun x h1=>match x with|.str z=>if z.length<=100000 then some (z.cps.toList.map sgn,h1) else none|_=>none
def ykj (lo:Int) (n:Nat):List PV:=(List.range n).map fun (k:Nat)=>.int (lo+(k:Int))
def ysC (a:XA):XA:=fun ρ h=>ob (a ρ h) fun xs h1=>match xs with|[.int j]=>if -1000000000<=j/\j<=1000000000 then some (ykj 0 j.toNat,h1) else none|_=>none
theorem yfT {W:Wd}(w:WOk K W) {a:Addr}{vs:List V}(h:SqL K.K W.F a vs):SqL K.K W.H a vs:=Same.seq w.le h
theorem ycF {W:Wd}(w:WOk K W) {a:Addr}{vs:List V}(h:TpAt K.K W.F a vs):SqT K.K W.H a vs:=h.elim (fun h=>SqT.of (w.le _ _ h)) .inr
theorem ypW (a:ycP K ta ea):yuh K (yys K.K ta) (xIL ea):=by
 intro W0 W ρ σ R xs h' g e q
 obtain ⟨x,h1,e1,f1⟩:=yj e
 refine a W0 W ρ σ _ x h1 g e1 fun v W1 w1 l1 r1=>?_
 have key:∀ (a:Addr) (vs:List V),v=.ref a->SqL K.K W1.F a vs->RepL K W1.F W1.m xs vs->h1=h'->∃ a,v=.ref a/\(∃ xs,SqL K.K W1.H a xs)/\R (Itl K.K a) W1.H:=fun a vs ev hs rs eh=>by
  subst eh
  refine ⟨a,ev,⟨vs,yfT l1.ok hs⟩,q _ W1 w1 l1 ⟨fun i W' l w hi=>?_,fun i W' v' H2 l w hi hy=>?_,fun W' l w=>?_⟩⟩
  .obtain ⟨v',h1,_⟩:=rs.get (List.getElem?_eq_getElem hi)
   exact ⟨vs,v',yfT w (Same.seq l.fs hs),h1⟩
  .obtain ⟨h1,h2⟩:=hy
   have:=h2 vs (yfT w (Same.seq l.fs hs))
   obtain ⟨x,h3,h4⟩:=rs.get' this
   exact ⟨h1,x,h3,l.rep h4⟩
  .exact ⟨vs,yfT w (Same.seq l.fs hs),by rw [rs.len];exact Nat.le_refl _⟩
 split at f1
 .cases f1
  obtain ⟨a,vs,ev,hs,rs⟩:=r1
  exact key a vs ev (SqL.of hs) rs rfl
 .rename_i ns
  cases f1
  obtain ⟨a,ev,hs⟩:=r1
  exact key a _ ev hs (RepL.of_ints ns) rfl
 .cases f1
theorem ysD (a:ycP K ta ea):yuh K (yEW K.K ta) (xIT ea):=by
 intro W0 W ρ σ R xs h' g e q
 obtain ⟨x,h1,e1,f1⟩:=yj e
 refine a W0 W ρ σ _ x h1 g e1 fun v W1 w1 l1 r1=>?_
 split at f1
 .cases f1
  obtain ⟨a,vs,ev,hs,rs⟩:=r1
  refine ⟨a,ev,⟨vs,ycF l1.ok hs⟩,q _ W1 w1 l1 ⟨fun i W' l w hi=>?_,fun i W' v' H2 l w hi hy=>?_,fun W' l w=>?_⟩⟩
  .obtain ⟨v',h1,_⟩:=rs.get (List.getElem?_eq_getElem hi)
   exact ⟨vs,v',ycF w (hs.mono l.fs),h1⟩
  .obtain ⟨h1,h2⟩:=hy
   have:=h2 vs (ycF w (hs.mono l.fs))
   obtain ⟨x,h3,h4⟩:=rs.get' this
   exact ⟨h1,x,h3,l.rep h4⟩
  .exact ⟨vs,ycF w (hs.mono l.fs),by rw [rs.len];exact Nat.le_refl _⟩
 .cases f1
theorem ysE (a:ycP K ta ea):yuh K (yFn ta) (xIS ea):=by
 intro W0 W ρ σ R xs h' g e q
 obtain ⟨x,h1,e1,f1⟩:=yj e
 refine a W0 W ρ σ _ x h1 g e1 fun v W1 w1 l1 r1=>?_
 split at f1
 .rename_i z
  split at f1
  .rename_i hz
   cases f1
   have hl:z.length=z.cps.toList.length:=by simp [Str.length]
   refine ⟨z,r1,yxG hz,q _ W1 w1 l1 ⟨fun i W' l w hi=>?_,fun i W' v' H2 l w hi hy=>?_,fun W' l w=>?_⟩⟩
   .show i<z.length
    rw [hl];simpa using hi
   .obtain ⟨h1,c,h2,h3⟩:=hy
    exact ⟨h1,sgn c,by rw [getElem?_map,h2];rfl,h3⟩
   .show _=z.length
    rw [hl];simp
  .cases f1
 .cases f1
theorem yzf (W:Wd) (lo:Int) (n:Nat):yCz K W (Itr lo n) (ykj lo n):=by
 refine ⟨fun i W' l w hi=>?_,fun i W' v' H2 l w hi hy=>?_,fun W' l w=>?_⟩
 .show i<n
  simpa [ykj] using hi
 .obtain ⟨h1,h2⟩:=hy
  have hi:i<n:=by simpa [ykj] using hi
  exact ⟨h1,.int (lo+(i:Int)),by simp [ykj,hi],h2⟩
 .show n<=_
  simp [ykj]
theorem ypX {t:TA}{e:XA}(a:ylE K t e):yuh K (yyu t) (ysC e):=by
 intro W0 W ρ σ R xs h' g e q
 obtain ⟨ys,h1,e1,f1⟩:=yj e
 split at f1
 .rename_i j
  split at f1
  .rename_i hj
   cases f1
   refine a W0 W ρ σ _ _ _ g e1 fun vs W1 w1 l1 r1=>?_
   obtain ⟨v,r,rfl,rv,rr⟩:=r1
   obtain rfl:r=[]:=rr
   exact ⟨j,by rw [show v=.int j from rv],by omega,by omega,q _ W1 w1 l1 (yzf W1 0 _)⟩
  .cases f1
 .cases f1
theorem yvY {wi:TI}{it:XA}{g:TG}{y:XG}(a:yuh K wi it) (b:yvU K g y) (c:yha K t s):yha K (yEX wi g t) (ylF it y s):=by
 intro W0 W ρ σ D o h' gd e q
 obtain ⟨xs,h1,e1,f1⟩:=yj e
 refine a W0 W ρ σ _ xs h1 gd e1 fun J W1 w1 l1 J1=>?_
 subst w1
 have q1:=q.from_ l1.lf
 refine ⟨fun i m σ H=>m=xs.length-i/\i<=xs.length/\∃ W' ρ',W'.H=H/\Lf K W1 W'/\Good K W0 W' ρ' σ/\yeZ y s (xs.drop i) ρ' W'.h=some (o,h'),⟨_,rfl,zero_le _,W1,ρ,rfl,.refl,gd.step l1,by simpa using f1⟩,?_⟩
 rintro i m σ _ ⟨rfl,hi,W',ρ',rfl,l,g',f⟩
 by_cases hlt:i<xs.length
 .rw [List.drop_eq_getElem_cons hlt] at f
  obtain ⟨ρ1,k1,f⟩:=Option.bind_eq_some_iff.mp f
  obtain ⟨o1,h2,k2,f3⟩:=yj f
  refine .inr ⟨J1.go i W' l g'.ok hlt,fun σ2 H2=>i+1<=xs.length/\∃ W2 ρ2,W2.H=H2/\Lf K W1 W2/\Good K W0 W2 ρ2 σ2/\yeZ y s (xs.drop (i+1)) ρ2 W2.h=some (o,h'),fun σ2 H2 ⟨n1,n2⟩=>⟨xs.length-(i+1),by omega,rfl,n1,n2⟩,fun v H2 hy=>?_⟩
  obtain ⟨rfl,x,hx,rx⟩:=J1.yld i W' v H2 l g'.ok hlt hy
  rw [List.getElem?_eq_getElem hlt] at hx
  cases hx
  refine b W0 W' ρ' ρ1 σ _ v _ g' rx k1 fun σ2 g2=>?_
  refine c W0 W' ρ1 σ2 _ o1 h2 g2 k2 ?_
  cases o1 with
  | nx ρ2=>exact fun W2 σ3 w2 l2 g3=>⟨hlt,W2,ρ2,rfl,l.trans l2,g3,by rw [w2];exact f3⟩
  | ct ρ2=>exact fun W2 σ3 w2 l2 g3=>⟨hlt,W2,ρ2,rfl,l.trans l2,g3,by rw [w2];exact f3⟩
  | bk ρ2=>cases f3;exact fun W2 σ3 w2 l2 g3=>q1 W2 σ3 w2 (l.trans l2) g3
  | rt x=>cases f3;exact q1
 .have ei:i=xs.length:=by omega
  subst ei
  refine .inl ⟨J1.stop W' l g'.ok,?_⟩
  rw [List.drop_length] at f
  cases f
  exact q1 W' σ rfl l g'
theorem ypY (n:Nat) (c:ylD K tA eA) (a:yha K t s):yha K (ytT tA t) (yiP n eA s):=by
 intro W0 W ρ σ D o h' gd e q
 refine ⟨fun m σ H=>∃ W' ρ',W'.H=H/\Lf K W W'/\Good K W0 W' ρ' σ/\whl eA s m ρ' W'.h=some (o,h'),⟨n,W,ρ,rfl,.refl,gd,e⟩,?_⟩
 rintro m σ _ ⟨W',ρ',rfl,l,g',f⟩
 cases m with
 | zero=>cases f
 | succ m =>
  obtain ⟨k,h1,e1,f1⟩:=yj f
  refine c W0 W' ρ' σ _ k h1 g' e1 fun W1 w1 l1=>?_
  subst w1
  cases k with
  | false =>
   rw [if_neg (by decide)] at f1 ⊢
   cases f1
   exact q W1 σ rfl (l.trans l1.lf) (g'.step l1)
  | true =>
   rw [if_pos rfl] at f1 ⊢
   obtain ⟨o1,h2,k2,f3⟩:=yj f1
   refine ⟨fun σ2 H2=>∃ W2 ρ2,W2.H=H2/\Lf K W W2/\Good K W0 W2 ρ2 σ2/\whl eA s m ρ2 W2.h=some (o,h'),fun σ2 H2 z=>⟨m,Nat.lt_succ_self _,z⟩,?_⟩
   refine a W0 W1 ρ' σ _ o1 h2 (g'.step l1) k2 ?_
   have l':=l.trans l1.lf
   cases o1 with
   | nx ρ2=>exact fun W2 σ3 w2 l2 g3=>⟨W2,ρ2,rfl,l'.trans l2,g3,by rw [w2];exact f3⟩
   | ct ρ2=>exact fun W2 σ3 w2 l2 g3=>⟨W2,ρ2,rfl,l'.trans l2,g3,by rw [w2];exact f3⟩
   | bk ρ2=>cases f3;exact fun W2 σ3 w2 l2 g3=>q W2 σ3 w2 (l'.trans l2) g3
   | rt x=>cases f3;exact q
theorem ypZ {e:XE}{inn:PV->PSt}:∀ {xs:List PV}{h:AH}{ys:List PV}{h':AH},yki e inn xs h=some (ys,h')->ys.length=xs.length
 | [],_,_,_,e=>by cases e;rfl
 | x::xs,_,_,_,e=>by
  obtain ⟨y,h1,e1,f1⟩:=yj e
  obtain ⟨ys,h2,e2,f2⟩:=yj f1
  cases f2
  rw [length_cons,length_cons,ypZ e2]
theorem ysF {W0 W W':Wd}{ρ:PSt}{σ:St}(g:Good K W0 W ρ σ) (l:Le K W W') (ix:List Nat) {x:PV}{v:V}(r:ydb K W' x v):Good K W' W' (yiw ix ρ x) (inner ix σ v) where
 le:=.refl l.ok
 len:=by simp [yiw,inner]
 val:=fun j y e=>by
  cases j with
  | zero=>simp [yiw] at e;subst e;exact ⟨v,rfl,r⟩
  | succ j =>
   have e:(ix.map (yrD ρ))[j]?=some (.val y):=e
   rw [getElem?_map] at e
   cases ei:ix[j]? with
   | none=>rw [ei] at e;cases e
   | some i =>
    rw [ei] at e
    have e:yrD ρ i=.val y:=Option.some.inj e
    unfold yrD at e
    split at e
    .rename_i z hz
     cases e
     obtain ⟨w,h1,h2⟩:=g.val i _ hz
     exact ⟨w,by show (ix.map fun i=>(σ[i]?).getD none)[j]?=_;rw [getElem?_map,ei];simp [h1],l.rep h2⟩
    .cases e
 own:=fun j d e=>by
  cases j with
  | zero=>simp [yiw] at e
  | succ j =>
   have e:(ix.map (yrD ρ))[j]?=some (.own d):=e
   rw [getElem?_map] at e
   cases ei:ix[j]? with
   | none=>rw [ei] at e;cases e
   | some i =>
    rw [ei] at e
    have e:yrD ρ i=.own d:=Option.some.inj e
    unfold yrD at e
    split at e<;>cases e
 ne:=fun j k d d' _ e _=>by
  cases j with
  | zero=>simp [yiw] at e
  | succ j =>
   have e:(ix.map (yrD ρ))[j]?=some (.own d):=e
   rw [getElem?_map] at e
   cases ei:ix[j]? with
   | none=>rw [ei] at e;cases e
   | some i =>
    rw [ei] at e
    have e:yrD ρ i=.own d:=Option.some.inj e
    unfold yrD at e
    split at e<;>cases e
theorem ynf {wi:TI}{it:XA}(ix:List Nat) (a:yuh K wi it) (b:ycP K ta ea):yoc K (ysd wi ix ta) (yho it ix ea):=by
 intro W0 W ρ σ Q d h' gd e q
 obtain ⟨xs,h1,e1,f1⟩:=yj e
 split at f1
 .rename_i hlen
  obtain ⟨zs,h2,e2,f2⟩:=yj f1
  cases f2
  have hz:=ypZ e2
  refine a W0 W ρ σ _ xs h1 gd e1 fun J W1 w1 l1 J1=>?_
  subst w1
  intro D hD
  have nm:=l1.ok.out hD
  have nf:=l1.ok.ff hD
  refine ⟨fun i m H=>m=xs.length-i/\i<=xs.length/\∃ W' acc done rest,W'.H=H/\Le K W1 W'/\D∉W'.m/\W'.F D=none/\H D=some (.lst acc)/\ydt K W' done acc/\done.length=i/\zs=done++rest/\yki ea (yiw ix ρ) (xs.drop i) W'.h=some (rest,h'),⟨_,rfl,zero_le _,ykh W1 D (.lst []),[],[],zs,rfl,yfS l1.ok hD,nm,nf,yba,rfl,rfl,rfl,by rw [List.drop_zero];exact e2⟩,?_⟩
  rintro i m _ ⟨rfl,hi,W',acc,done,rest,rfl,l,n1,n2,hd,rd,ld,ez,f⟩
  by_cases hlt:i<xs.length
  .rw [List.drop_eq_getElem_cons hlt] at f
   obtain ⟨y,h3,k1,f3⟩:=yj f
   obtain ⟨ys,h4,k2,f4⟩:=yj f3
   cases f4
   refine .inr ⟨J1.go i W' l.lf l.ok hlt,fun v H2 hy=>?_⟩
   obtain ⟨rfl,x,hx,rx⟩:=J1.yld i W' v H2 l.lf l.ok hlt hy
   rw [List.getElem?_eq_getElem hlt] at hx
   cases hx
   refine b W' W' _ _ _ y h3 (ysF gd (l1.trans l) ix rx) k1 fun w W2 w2 l2 r2=>?_
   obtain ⟨o2,n2'⟩:∃ o,W'.H D=some o:=⟨_,hd⟩
   have nm2:D∉W2.m:=fun z=>by rw [l2.mn D z n1] at hd;cases hd
   have nf2:W2.F D=none:=l2.new D _ hd n1 n2
   refine ⟨acc,l2.keep _ _ hd n1,?_,xs.length-(i+1),by omega,rfl,hlt,yvW W2 D (.lst (acc++[w])),acc++[w],done++[y],ys,rfl,ypV (l.trans l2) nm2 nf2 hD,nm2,nf2,yba,(l2.repL rd).snoc r2,by simp [ld],by simp [ez],?_⟩
   .rw [rd.len,ld];exact big (by omega)
   .show yki ea (yiw ix ρ) (xs.drop (i+1)) W2.h=some (ys,h')
    rw [w2];exact k2
  .have ei:i=xs.length:=by omega
   subst ei
   rw [List.drop_length] at f
   cases f
   refine .inl ⟨J1.stop W' l.lf l.ok,?_⟩
   rw [append_nil] at ez
   subst ez
   exact q D W' rfl (l1.trans l) n1 (l1.fresh hD) (fun z=>by cases z) ⟨n2,acc,hd,rd⟩
 .cases f1
theorem ygD {W:Wd}(w:WOk K W) {N:List Str}{xs:List PV}{vs:List V}(r:ydt K W xs vs):Good K W W (xs.map .val++replicate (N.length-xs.length) .no) (L2.start N vs) where
 le:=.refl w
 len:=by simp [L2.start,r.len]
 val:=fun j y e=>by
  by_cases hj:j<xs.length
  .rw [getElem?_append_left (by simpa using hj),getElem?_map,List.getElem?_eq_getElem hj] at e
   cases e
   obtain ⟨v,h1,h2⟩:=r.get (List.getElem?_eq_getElem hj)
   refine ⟨v,?_,h2⟩
   unfold L2.start
   rw [getElem?_append_left (by simp [r.len,hj]),getElem?_map,h1];rfl
  .rw [getElem?_append_right (by simp;omega),getElem?_replicate] at e
   split at e<;>cases e
 own:=fun j d e=>by
  by_cases hj:j<xs.length
  .rw [getElem?_append_left (by simpa using hj),getElem?_map,List.getElem?_eq_getElem hj] at e
   cases e
  .rw [getElem?_append_right (by simp;omega),getElem?_replicate] at e
   split at e<;>cases e
 ne:=fun j k d d' _ e _=>by
  by_cases hj:j<xs.length
  .rw [getElem?_append_left (by simpa using hj),getElem?_map,List.getElem?_eq_getElem hj] at e
   cases e
  .rw [getElem?_append_right (by simp;omega),getElem?_replicate] at e
   split at e<;>cases e
theorem ysG {N:List Str}{n:Nat}{vs:List V}{H:Hp}{Q:VK}{E:XK}{bk ct:St->Hp->Prop}(a:yha K t s) (h:spE K n (yda N.length s) vs H Q E):t ⟨fun _ H'=>Q .non H',Q,bk,ct⟩ (L2.start N vs) H:=by
 obtain ⟨W,xs,x,h',rfl,w,r,_,e,q⟩:=h
 obtain ⟨o,h1,e1,f1⟩:=yj e
 refine a W W _ _ _ o h1 (ygD w r) e1 ?_
 cases o with
 | rt y=>cases f1;exact fun W' v ew l rv=>q v W' ew l rv
 | nx ρ=>cases f1;exact fun W' σ' ew _ g=>q .non W' ew g.le rfl
 | bk ρ=>cases f1
 | ct ρ=>cases f1
theorem yvZ {n:Nat}{f:Fn}{vs:List V}{H:Hp}{Q:VK}{E:XK}(h:spE K n f vs H Q E):vs.length=n:=by
 obtain ⟨W,xs,x,h',rfl,w,r,hn,_⟩:=h
 rw [r.len,hn]
end
end PX
namespace PX
open PySem L2
variable {K:Ck}
def oI (g:Int->Int->PV):P2:=fun x y h=>match x,y with|.int i,.int j=>some (g i j,h)|_,_=>none
noncomputable def oIc (C:Int->Int->Prop) [∀ i j,Decidable (C i j)] (g:Int->Int->PV):P2:=fun x y h=>match x,y with|.int i,.int j=>if C i j then some (g i j,h) else none|_,_=>none
abbrev yfe:P2:=oI fun i j=>.int (i+j)
abbrev yzg:P2:=oI fun i j=>.int (i-j)
noncomputable def MulOk (i j:Int):Prop:=(-18446744073709551616<i/\i<18446744073709551616)\/(-18446744073709551616<j/\j<18446744073709551616)
instance (i j:Int):Decidable (MulOk i j):=by unfold MulOk;infer_instance
def yqa (i j:Int):Prop:=(0<=i/\i<18446744073709551616)/\0<=j/\j<=1000000
instance (i j:Int):Decidable (yqa i j):=by unfold yqa;infer_instance
abbrev yzh:P2:=oIc MulOk fun i j=>.int (i*j)
abbrev oDiv:P2:=oIc (fun _ j=>0<j/\j<1073741824) fun i j=>.int (i/j)
abbrev oMod:P2:=oIc (fun _ j=>0<j) fun i j=>.int (i%j)
abbrev ywa:P2:=oIc yqa fun i j=>.int (i ^ j.toNat)
abbrev oLt:P2:=oI fun i j=>.bl (decide (i<j))
abbrev oLe:P2:=oI fun i j=>.bl (decide (i<=j))
abbrev oGt:P2:=oI fun i j=>.bl (decide (j<i))
abbrev yCA:PV->AH->Option (PV×AH):=fun x h=>match x with|.int i=>some (.int (-i),h)|_=>none
theorem yzi {g:Int->Int->PV}{gV:Int->Int->V}(h:∀ (W:Wd) i j,ydb K W (g i j) (gV i j)):ycE K (rI0 gV) (oI g):=by
 intro W x y v u Q z h' w rx ry e q
 unfold oI at e
 split at e
 .rename_i i j
  cases e
  exact ⟨i,j,rx,ry,q _ W rfl (.refl w) (h W i j)⟩
 .cases e
theorem ysH {C:Int->Int->Prop} [∀ i j,Decidable (C i j)] {C':Int->Int->Prop}{g:Int->Int->PV}{gV:Int->Int->V}(hc:∀ i j,C i j->C' i j) (h:∀ (W:Wd) i j,ydb K W (g i j) (gV i j)):ycE K (rI C' gV) (oIc C g):=by
 intro W x y v u Q z h' w rx ry e q
 unfold oIc at e
 split at e
 .rename_i i j
  split at e
  .rename_i c
   cases e
   exact ⟨i,j,rx,ry,hc i j c,q _ W rfl (.refl w) (h W i j)⟩
  .cases e
 .cases e
theorem ycU:ycE K yCi yfe:=yzi fun _ _ _=>rfl
theorem ysI:ycE K yCj yzg:=yzi fun _ _ _=>rfl
theorem ysJ:ycE K yCk yzh:=ysH (fun i j h=>by unfold CMul;rw [show (2:Int) ^ 64=18446744073709551616 by decide];exact h) fun _ _ _=>rfl
theorem ycS:ycE K yCl oDiv:=ysH (fun i j h=>h) fun _ _ _=>rfl
theorem ycc:ycE K yCm oMod:=ysH (fun i j h=>h) fun _ _ _=>rfl
theorem yoj:ycE K yCn ywa:=ysH (fun i j h=>by unfold yCe;rw [show 2 ^ 64=18446744073709551616 by decide];unfold yqa at h;omega) fun _ _ _=>rfl
theorem ywb:ycE K yFN oLt:=yzi fun _ _ _=>rfl
theorem yBM:ycE K yFO oLe:=yzi fun _ _ _=>rfl
theorem ysK:ycE K yFP oGt:=yzi fun _ _ _=>rfl
theorem yCB:yvE K yCo yCA:=by
 intro W x v Q z h' w rx e q
 unfold yCA at e
 split at e
 .rename_i i
  cases e
  exact ⟨i,rx,q _ W rfl (.refl w) rfl⟩
 .cases e
def sv:PV->Option V
 | .non=>some .non
 | .bl b=>some (.bl b)
 | .int i=>some (.int i)
 | .str s=>some (.str s)
 | _=>none
theorem yfL {W:Wd}{x:PV}{v u:V}(e:sv x=some u) (r:ydb K W x v):v=u:=by
 cases x<;>cases e<;>exact r
def oEq:P2:=fun x y h=>match sv x,sv y with|some v,some u=>if yvi v u=true then some (.bl (decide (v=u)),h) else none|_,_=>none
def oNe:P2:=fun x y h=>match sv x,sv y with|some v,some u=>if yvi v u=true then some (.bl (!decide (v=u)),h) else none|_,_=>none
theorem ydy:ycE K rEq oEq:=by
 intro W x y v u Q z h' w rx ry e q
 unfold oEq at e
 split at e
 .rename_i v' u' e1 e2
  obtain rfl:=yfL e1 rx
  obtain rfl:=yfL e2 ry
  split at e
  .rename_i c
   cases e
   exact ⟨c,q _ W rfl (.refl w) rfl⟩
  .cases e
 .cases e
theorem yBN:ycE K rNe oNe:=by
 intro W x y v u Q z h' w rx ry e q
 unfold oNe at e
 split at e
 .rename_i v' u' e1 e2
  obtain rfl:=yfL e1 rx
  obtain rfl:=yfL e2 ry
  split at e
  .rename_i c
   cases e
   exact ⟨c,q _ W rfl (.refl w) rfl⟩
  .cases e
 .cases e
def isN:PV->Bool
 | .non=>true
 | _=>false
def ysL:P2:=fun x y h=>match y with|.non=>some (.bl (isN x),h)|_=>none
def yqb:P2:=fun x y h=>match y with|.non=>some (.bl (!isN x),h)|_=>none
theorem yqc {W:Wd}{x:PV}{v:V}(r:ydb K W x v):decide (v=.non)=isN x:=by
 cases x with
 | non=>rw [show v=.non from r];rfl
 | bl b=>rw [show v=.bl b from r];rfl
 | int b=>rw [show v=.int b from r];rfl
 | str b=>rw [show v=.str b from r];rfl
 | ty b=>rw [show v=.ty b from r];rfl
 | cls b=>rw [show v=.ref _ from r];rfl
 | scr b=>obtain ⟨a,e,_⟩:=r;rw [e];rfl
 | lst b=>obtain ⟨a,_,e,_⟩:=r;rw [e];rfl
 | tup b=>obtain ⟨a,_,e,_⟩:=r;rw [e];rfl
 | ins k n b=>obtain ⟨a,_,_,e,_⟩:=r;rw [e];rfl
 | loc n=>obtain ⟨a,e,_⟩:=r;rw [e];rfl
 | exc n=>obtain ⟨a,e,_⟩:=r;rw [e];rfl
 | xcl n=>rw [show v=.ref _ from r];rfl
theorem yok:ycE K yFQ ysL:=by
 intro W x y v u Q z h' w rx ry e q
 unfold ysL at e
 split at e
 .cases e
  exact ⟨ry,by rw [yqc rx];exact q _ W rfl (.refl w) rfl⟩
 .cases e
theorem yui:ycE K yCq yqb:=by
 intro W x y v u Q z h' w rx ry e q
 unfold yqb at e
 split at e
 .cases e
  exact ⟨ry,by rw [yqc rx];exact q _ W rfl (.refl w) rfl⟩
 .cases e
noncomputable def ybJ:P2:=fun x y h=>match x,y with|.str i,.str j=>if i.length+j.length<=100000 then some (.str (i++j),h) else none|_,_=>none
theorem ycn:ycE K yCp ybJ:=by
 intro W x y v u Q z h' w rx ry e q
 unfold ybJ at e
 split at e
 .rename_i i j
  split at e
  .rename_i c
   cases e
   exact ⟨i,j,rx,ry,yxG c,q _ W rfl (.refl w) rfl⟩
  .cases e
 .cases e
noncomputable def yzj:P2:=fun x y h=>match x,y with|.str s,.str j=>(match s.cps.toList with|[c]=>some (.bl (decide (c∈j.cps.toList)),h)|_=>none)|_,_=>none
theorem one_sign {s:Str}{c:Nat}(h:s.cps.toList=[c]):s=⟨#[c]⟩:=by
 obtain ⟨⟨l⟩⟩:=s
 have:l=[c]:=h
 rw [this]
theorem yzk:ycE K yFj yzj:=by
 intro W x y v u Q z h' w rx ry e q
 unfold yzj at e
 split at e
 .rename_i s j
  split at e
  .rename_i c hc
   cases e
   exact ⟨c,j,by rw [<- one_sign hc];exact rx,ry,q _ W rfl (.refl w) rfl⟩
  .cases e
 .cases e
def yfM:P2:=fun x y h=>match y with
 | .int i=>(match x with
  | .lst xs=>(match atI xs i with|some v=>some (v,h)|none=>none)
  | .scr ns=>(match atI ns i with|some v=>some (.int v,h)|none=>none)
  | .loc n=>(match h[n]? with|some (.lst xs)=>(match atI xs i with|some v=>some (v,h)|none=>none)|_=>none)
  | _=>none)
 | _=>none
def yei:P2:=fun x y h=>match x,y with|.tup xs,.int i=>(match atI xs i with|some v=>some (v,h)|none=>none)|_,_=>none
def ywc:P2:=fun x y h=>match x,y with|.str s,.int i=>(match atI s.cps.toList i with|some c=>if s.length<=100000 then some (sgn c,h) else none|none=>none)|_,_=>none
theorem RepL.at {F:Hp}{m:List Addr}{xs:List PV}{vs:List V}(r:RepL K F m xs vs) {i:Int}{x:PV}(e:atI xs i=some x):∃ v,atI vs i=some v/\Rep K F m x v:=by
 unfold atI at e ⊢
 rw [r.len]
 obtain ⟨j,e1,e2⟩:=Option.bind_eq_some_iff.mp e
 rw [e1]
 exact r.get e2
theorem WOk.loc {W:Wd}(w:WOk K W) {n:Nat}{d:Nd}{v:V}(e:W.h[n]?=Option.some d) (r:ydb K W (.loc n) v):∃ a,v=.ref a/\W.m[n]?=Option.some a/\NdAt K W.F W.H W.m d a:=by
 obtain ⟨a,ea,h⟩:=r
 exact ⟨a,ea,h,w.at_ n d a e h⟩
theorem yhp:ycE K (yFd K.K) yfM:=by
 intro W x y v u Q z h' w rx ry e q
 unfold yfM at e
 split at e
 .rename_i i
  split at e
  .rename_i xs
   split at e
   .rename_i y hy
    cases e
    obtain ⟨a,vs,ev,hs,rs⟩:=rx
    obtain ⟨v',h1,h2⟩:=rs.at hy
    exact ⟨a,vs,i,v',ev,ry,SqL.of (w.le _ _ hs),h1,q _ W rfl (.refl w) h2⟩
   .cases e
  .rename_i ns
   split at e
   .rename_i y hy
    cases e
    obtain ⟨a,ev,hs⟩:=rx
    refine ⟨a,_,i,.int y,ev,ry,yfT w hs,?_,q _ W rfl (.refl w) rfl⟩
    unfold atI at hy ⊢
    rw [length_map]
    obtain ⟨j,e1,e2⟩:=Option.bind_eq_some_iff.mp hy
    rw [e1]
    show (ns.map V.int)[j]?=_
    rw [getElem?_map,e2];rfl
   .cases e
  .rename_i n
   split at e
   .rename_i xs hn
    split at e
    .rename_i y hy
     cases e
     obtain ⟨a,ev,hm,hf,vs,hp,rs⟩:=w.loc hn rx
     obtain ⟨v',h1,h2⟩:=rs.at hy
     exact ⟨a,vs,i,v',ev,ry,SqL.of hp,h1,q _ W rfl (.refl w) h2⟩
    .cases e
   .cases e
  .cases e
 .cases e
theorem ydI:ycE K (yFe K.K) yei:=by
 intro W x y v u Q z h' w rx ry e q
 unfold yei at e
 split at e
 .rename_i xs i
  split at e
  .rename_i y hy
   cases e
   obtain ⟨a,vs,ev,hs,rs⟩:=rx
   obtain ⟨v',h1,h2⟩:=rs.at hy
   exact ⟨a,vs,i,v',ev,ry,ycF w hs,h1,q _ W rfl (.refl w) h2⟩
  .cases e
 .cases e
theorem ywd:ycE K yFf ywc:=by
 intro W x y v u Q z h' w rx ry e q
 unfold ywc at e
 split at e
 .rename_i s i
  split at e
  .rename_i c hc
   split at e
   .rename_i hl
    cases e
    exact ⟨s,i,c,rx,ry,yxG hl,hc,q _ W rfl (.refl w) rfl⟩
   .cases e
  .cases e
 .cases e
def yBO:PV->Option Int->Option Int->AH->Option (PV×AH):=fun x lo hi h=>match x with|.str z=>if z.length<=100000 then some (.str (yxF z lo hi),h) else none|_=>none
theorem yCC:yvO K yFk yBO:=by
 intro W x v lo hi Q z h' w rx e q
 unfold yBO at e
 split at e
 .rename_i s
  split at e
  .rename_i hl
   cases e
   exact ⟨s,rx,by omega,q _ W rfl (.refl w) rfl⟩
  .cases e
 .cases e
noncomputable def yol {α:Type}(xs:List α) (lo hi:Option Int):List α:=(xs.drop (HT.sIx xs.length 0 lo)).take (HT.sIx xs.length xs.length hi-HT.sIx xs.length 0 lo)
noncomputable def listOf (x:PV) (h:AH):Option (List PV):=match x with|.lst xs=>some xs|.scr ns=>some (ns.map .int)|.loc n=>(match h[n]? with|some (.lst xs)=>some xs|_=>none)|_=>none
theorem ygE {W:Wd}(w:WOk K W) {x:PV}{v:V}{xs:List PV}(e:listOf x W.h=some xs) (r:ydb K W x v):∃ a vs,v=.ref a/\SqL K.K W.H a vs/\ydt K W xs vs:=by
 unfold listOf at e
 split at e
 .cases e
  obtain ⟨a,vs,ev,hs,rs⟩:=r
  exact ⟨a,vs,ev,SqL.of (w.le _ _ hs),rs⟩
 .rename_i ns
  cases e
  obtain ⟨a,ev,hs⟩:=r
  exact ⟨a,_,ev,yfT w hs,RepL.of_ints ns⟩
 .rename_i n
  split at e
  .rename_i ys hn
   cases e
   obtain ⟨a,ev,hm,hf,vs,hp,rs⟩:=w.loc hn r
   exact ⟨a,vs,ev,SqL.of hp,rs⟩
  .cases e
 .cases e
noncomputable def ycd (x:PV) (h:AH):Option (List PV):=match x with|.lst xs=>some xs|.loc n=>(match h[n]? with|some (.lst xs)=>some xs|_=>none)|_=>none
theorem ybi {W:Wd}(w:WOk K W) {x:PV}{v:V}{xs:List PV}(e:ycd x W.h=some xs) (r:ydb K W x v):∃ a vs,v=.ref a/\W.H a=some (.lst vs)/\ydt K W xs vs:=by
 unfold ycd at e
 split at e
 .cases e
  obtain ⟨a,vs,ev,hs,rs⟩:=r
  exact ⟨a,vs,ev,w.le _ _ hs,rs⟩
 .rename_i n
  split at e
  .rename_i ys hn
   cases e
   obtain ⟨a,ev,hm,hf,vs,hp,rs⟩:=w.loc hn r
   exact ⟨a,vs,ev,hp,rs⟩
  .cases e
 .cases e
theorem yxH {W:Wd}(w:WOk K W) {p:Addr}(hp:W.H p=none) {xs:List PV}{vs:List V}(r:ydt K W xs vs) {Q:VK}(q:yoe K W (.lst xs) W.h Q):Q (.ref p) (upd W.H p (.lst vs)) :=
 q p (ykh W p (.lst vs)) rfl (yfS w hp) (w.out hp) hp (fun z=>by cases z) ⟨w.ff hp,vs,yba,r⟩
def yom:PV->Option Int->Option Int->AH->Option (Nd×AH):=fun x lo hi h=>match listOf x h with|some xs=>some (.lst (yol xs lo hi),h)|none=>none
theorem yon:ypT K (yFg K.K) yom:=by
 intro W x v lo hi Q d h' w rx e q
 unfold yom at e
 split at e
 .rename_i xs hx
  cases e
  obtain ⟨a,vs,ev,hs,rs⟩:=ygE w hx rx
  refine ⟨a,vs,ev,hs,fun p hp=>yxH w hp ?_ q⟩
  have:=(rs.drop (HT.sIx xs.length 0 lo)).take (HT.sIx xs.length xs.length hi-HT.sIx xs.length 0 lo)
  unfold yol yyE
  rw [rs.len]
  exact this
 .cases e
def yiQ:P2O:=fun x y h=>match ycd x h,ycd y h with|some xs,some ys=>if xs.length+ys.length<=100000 then some (.lst (xs++ys),h) else none|_,_=>none
theorem ygF:ynd K yFh yiQ:=by
 intro W x y v u Q d h' w rx ry e q
 unfold yiQ at e
 split at e
 .rename_i xs ys hx hy
  split at e
  .rename_i hl
   cases e
   obtain ⟨a,vs,ev,hs,rs⟩:=ybi w hx rx
   obtain ⟨b,us,eu,ht,ru⟩:=ybi w hy ry
   refine ⟨a,b,vs,us,ev,eu,hs,ht,by rw [rs.len,ru.len];exact yxG hl,fun p hp=>yxH w hp (rs.app ru) q⟩
  .cases e
 .cases e
def repL {α:Type}(k:Nat) (xs:List α):List α:=(replicate k xs).flatten
theorem RepL.rep {F:Hp}{m:List Addr}{xs:List PV}{vs:List V}(r:RepL K F m xs vs):∀ k:Nat,RepL K F m (repL k xs) (repL k vs)
 | 0=>rfl
 | k+1=>by
  show RepL K F m ((replicate (k+1) xs).flatten) ((replicate (k+1) vs).flatten)
  rw [List.replicate_succ,List.replicate_succ,List.flatten_cons,List.flatten_cons]
  exact r.app (RepL.rep r k)
def yzl:P2O:=fun x y h=>match ycd x h,y with|some xs,.int k=>if -1000000<=k/\k<=100000/\xs.length*k.toNat<=100000 then some (.lst (repL k.toNat xs),h) else none|_,_=>none
theorem yCD:ynd K yFi yzl:=by
 intro W x y v u Q d h' w rx ry e q
 unfold yzl at e
 split at e
 .rename_i xs k hx
  split at e
  .rename_i hl
   cases e
   obtain ⟨a,vs,ev,hs,rs⟩:=ybi w hx rx
   refine ⟨a,k,vs,ev,ry,hs,by omega,by omega,by rw [rs.len];exact yxG hl.2.2,fun p hp=>yxH w hp (rs.rep _) q⟩
  .cases e
 .cases e
noncomputable def yqd (x:PV) (h:AH):Option Nat:=match x with|.tup xs=>some xs.length|.lst xs=>some xs.length|.scr ns=>some ns.length|.loc n=>(match h[n]? with|some (.lst xs)=>some xs.length|_=>none)|_=>none
def yhq:List PV->AH->Option (PV×AH):=fun xs h=>match xs with|[x]=>(match yqd x h with|some n=>some (.int n,h)|none=>none)|_=>none
noncomputable def yoo:List PV->AH->Option (PV×AH):=fun xs h=>match xs with|[.str z]=>if z.length<=100000 then some (.int z.length,h) else none|_=>none
theorem ykL {W:Wd}{x:PV}{vs:List V}(r:ydt K W [x] vs):∃ v,vs=[v]/\ydb K W x v:=by
 obtain ⟨v,r',e,h,l⟩:=r
 exact ⟨v,by rw [e,show r'=[] from l],h⟩
theorem yzm {W:Wd}{x y:PV}{vs:List V}(r:ydt K W [x,y] vs):∃ v u,vs=[v,u]/\ydb K W x v/\ydb K W y u:=by
 obtain ⟨v,r',e,h,l⟩:=r
 obtain ⟨u,e2,h2⟩:=ykL l
 exact ⟨v,u,by rw [e,e2],h,h2⟩
theorem ykM:ygg K (yCt K.K) yhq:=by
 intro W xs vs Q z h' w r e q
 unfold yhq at e
 split at e
 .rename_i x
  split at e
  .rename_i n hn
   cases e
   obtain ⟨v,rfl,rx⟩:=ykL r
   have fin:∀ (ys:List V),ys.length=n->Q (.int ys.length) W.H:=fun ys hl=>by rw [hl];exact q _ W rfl (.refl w) rfl
   unfold yqd at hn
   split at hn
   .cases hn
    obtain ⟨a,us,rfl,hs,rs⟩:=rx
    exact ⟨a,us,rfl,.inr (ycF w hs),fin _ rs.len⟩
   .rename_i ys
    cases hn
    obtain ⟨a,us,rfl,hs,rs⟩:=rx
    exact ⟨a,us,rfl,.inl (SqL.of (w.le _ _ hs)),fin _ rs.len⟩
   .rename_i ns
    cases hn
    obtain ⟨a,rfl,hs⟩:=rx
    exact ⟨a,_,rfl,.inl (yfT w hs),fin _ (by simp)⟩
   .split at hn
    .rename_i ys hy
     cases hn
     obtain ⟨a,rfl,hm,hf,us,hp,rs⟩:=w.loc hy rx
     exact ⟨a,us,rfl,.inl (SqL.of hp),fin _ rs.len⟩
    .cases hn
   .cases hn
  .cases e
 .cases e
theorem yqe:ygg K yCs yoo:=by
 intro W xs vs Q z h' w r e q
 unfold yoo at e
 split at e
 .rename_i s
  split at e
  .rename_i hl
   cases e
   obtain ⟨v,rfl,rx⟩:=ykL r
   exact ⟨s,by rw [show v=_ from rx],yxG hl,q _ W rfl (.refl w) rfl⟩
  .cases e
 .cases e
noncomputable def ykN:List PV->AH->Option (PV×AH):=fun xs h=>match xs with|[.int i]=>some (.int i,h)|[.bl k]=>some (.int (if k then 1 else 0),h)|_=>none
theorem yqf:ygg K yCr ykN:=by
 intro W xs vs Q z h' w r e q
 unfold ykN at e
 split at e
 .rename_i i
  cases e
  obtain ⟨v,rfl,rx⟩:=ykL r
  exact .inl ⟨i,by rw [show v=_ from rx],q _ W rfl (.refl w) rfl⟩
 .rename_i k
  cases e
  obtain ⟨v,rfl,rx⟩:=ykL r
  exact .inr ⟨k,by rw [show v=_ from rx],q _ W rfl (.refl w) rfl⟩
 .cases e
noncomputable def yop:List PV->AH->Option (PV×AH):=fun xs h=>match xs with|[.int i]=>if i.natAbs.log2<1920 then some (.str (toString i:String),h) else none|_=>none
theorem yzn:ygg K yyJ yop:=by
 intro W xs vs Q z h' w r e q
 unfold yop at e
 split at e
 .rename_i i
  split at e
  .rename_i hl
   cases e
   obtain ⟨v,rfl,rx⟩:=ykL r
   exact ⟨i,by rw [show v=_ from rx],hl,q _ W rfl (.refl w) rfl⟩
  .cases e
 .cases e
noncomputable def yqg:List PV->AH->Option (PV×AH):=fun xs h=>match xs with|[.str z]=>if z.cps.toList≠[]/\(∀ c∈z.cps.toList,48<=c/\c<=57)/\z.length<=640 then some (.int (yoU z.cps.toList),h) else none|_=>none
theorem yzo:ygg K yyK yqg:=by
 intro W xs vs Q z h' w r e q
 unfold yqg at e
 split at e
 .rename_i i
  split at e
  .rename_i hl
   cases e
   obtain ⟨v,rfl,rx⟩:=ykL r
   exact ⟨i,by rw [show v=_ from rx],hl.1,hl.2.1,hl.2.2,q _ W rfl (.refl w) rfl⟩
  .cases e
 .cases e
def yeA:List PV->AH->Option (Nd×AH):=fun xs h=>match xs with|[.tup ys]=>some (.lst ys,h)|[x]=>(match listOf x h with|some ys=>some (.lst ys,h)|none=>none)|_=>none
theorem yeB:ypM K (yvu K.K) yeA:=by
 intro W xs vs Q d h' w r e q
 unfold yeA at e
 split at e
 .rename_i ys
  cases e
  obtain ⟨v,rfl,a,us,rfl,hs,rs⟩:=ykL r
  exact ⟨a,us,rfl,.inr (ycF w hs),fun p hp=>yxH w hp rs q⟩
 .rename_i x _
  split at e
  .rename_i ys hy
   cases e
   obtain ⟨v,rfl,rx⟩:=ykL r
   obtain ⟨a,us,rfl,hs,rs⟩:=ygE w hy rx
   exact ⟨a,us,rfl,.inl hs,fun p hp=>yxH w hp rs q⟩
  .cases e
 .cases e
def strsOf:List PV->Option (List Str)
 | []=>some []
 | .str s::r=>(strsOf r).map (s::·)
 | _=>none
def intsOf:List PV->Option (List Int)
 | []=>some []
 | .int s::r=>(intsOf r).map (s::·)
 | _=>none
def yqh:List PV->Option (List Bool)
 | []=>some []
 | .bl s::r=>(yqh r).map (s::·)
 | _=>none
theorem yej:∀ ss:List Str,strsOf (ss.map .str)=some ss
 | []=>rfl
 | s::ss=>by show (strsOf (ss.map .str)).map _=_;rw [yej ss];rfl
theorem yfC:∀ ss:List Int,intsOf (ss.map .int)=some ss
 | []=>rfl
 | s::ss=>by show (intsOf (ss.map .int)).map _=_;rw [yfC ss];rfl
theorem ykO:∀ ss:List Bool,yqh (ss.map .bl)=some ss
 | []=>rfl
 | s::ss=>by show (yqh (ss.map .bl)).map _=_;rw [ykO ss];rfl
theorem yiR {F:Hp}{m:List Addr}:∀ {xs:List PV}{ss:List Str}{vs:List V},strsOf xs=some ss->RepL K F m xs vs->vs=ss.map V.str
 | [],_,_,e,r=>by cases e;exact r
 | x::xs,ss,_,e,⟨v,r',ev,h,l⟩=>by
  cases x<;>try cases e
  rename_i s
  obtain ⟨ts,e1,e2⟩:=Option.map_eq_some_iff.mp e
  subst e2
  rw [ev,show v=_ from h,yiR e1 l];rfl
theorem yiS {F:Hp}{m:List Addr}:∀ {xs:List PV}{ss:List Int}{vs:List V},intsOf xs=some ss->RepL K F m xs vs->vs=ss.map V.int
 | [],_,_,e,r=>by cases e;exact r
 | x::xs,ss,_,e,⟨v,r',ev,h,l⟩=>by
  cases x<;>try cases e
  rename_i s
  obtain ⟨ts,e1,e2⟩:=Option.map_eq_some_iff.mp e
  subst e2
  rw [ev,show v=_ from h,yiS e1 l];rfl
theorem ykP {F:Hp}{m:List Addr}:∀ {xs:List PV}{ss:List Bool}{vs:List V},yqh xs=some ss->RepL K F m xs vs->vs=ss.map V.bl
 | [],_,_,e,r=>by cases e;exact r
 | x::xs,ss,_,e,⟨v,r',ev,h,l⟩=>by
  cases x<;>try cases e
  rename_i s
  obtain ⟨ts,e1,e2⟩:=Option.map_eq_some_iff.mp e
  subst e2
  rw [ev,show v=_ from h,ykP e1 l];rfl
def yoV:List PV->AH->Option (PV×AH):=fun xs h=>match xs with|[x]=>(match ycd x h with|some ys=>(match intsOf ys with|some ns=>some (.int ns.sum,h)|none=>none)|none=>none)|_=>none
theorem ywe:ygg K yFm yoV:=by
 intro W xs vs Q z h' w r e q
 unfold yoV at e
 split at e
 .split at e
  .rename_i ys hy
   split at e
   .rename_i ns hn
    cases e
    obtain ⟨v,rfl,rx⟩:=ykL r
    obtain ⟨a,us,rfl,hs,rs⟩:=ybi w hy rx
    have:=yiS hn rs
    subst this
    exact ⟨a,ns,rfl,hs,q _ W rfl (.refl w) rfl⟩
   .cases e
  .cases e
 .cases e
def yzp:List PV->AH->Option (PV×AH):=fun xs h=>match xs with|[x]=>(match ycd x h with|some ys=>(match yqh ys with|some ns=>some (.bl (ns.all id),h)|none=>none)|none=>none)|_=>none
theorem yCE:ygg K yFl yzp:=by
 intro W xs vs Q z h' w r e q
 unfold yzp at e
 split at e
 .split at e
  .rename_i ys hy
   split at e
   .rename_i ns hn
    cases e
    obtain ⟨v,rfl,rx⟩:=ykL r
    obtain ⟨a,us,rfl,hs,rs⟩:=ybi w hy rx
    have:=ykP hn rs
    subst this
    exact ⟨a,ns,rfl,hs,q _ W rfl (.refl w) rfl⟩
   .cases e
  .cases e
 .cases e
def isStr:PV->AH->Bool:=fun x _=>match x with|.str _=>true|_=>false
def yeC:PM:=fun x xs h=>match x,xs with|.str sep,[y]=>(match ycd y h with|some ys=>(match strsOf ys with|some ts=>if sep.length<=16/\(ts.map (·.length)).sum+ts.length<=1048576 then some (.str (Str.join sep ts),h) else none|none=>none)|none=>none)|_,_=>none
theorem yhb:yof K "str" isStr rJoin yeC:=by
 refine ⟨fun W x v w r c=>?_,fun W x v xs vs Q z h' w rx r e q=>?_⟩
 .unfold isStr at c
  split at c
  .rw [show v=_ from r];rfl
  .cases c
 .unfold yeC at e
  split at e
  .rename_i sep y
   split at e
   .rename_i ys hy
    split at e
    .rename_i ts ht
     split at e
     .rename_i c
      cases e
      obtain ⟨u,rfl,ru⟩:=ykL r
      obtain ⟨a,us,rfl,hs,rs⟩:=ybi w hy ru
      have:=yiR ht rs
      subst this
      exact ⟨sep,a,ts,rx,rfl,hs,c.1,c.2,q _ W rfl (.refl w) rfl⟩
     .cases e
    .cases e
   .cases e
  .cases e
end PX
namespace PX
open PySem L2
variable {K:Ck}
noncomputable def putN (f:Str) (x:PV) (ns:List Str) (xs:List PV):List Str×List PV:=if f∈ns then (ns,xs.set (ns.idxOf f) x) else (ns++[f],xs++[x])
theorem yng (f:Str) (y:V):∀ (ns:List Str) (vs:List V),vs.length=ns.length->yiL f y (ns.zip vs)=if f∈ns then ns.zip (vs.set (ns.idxOf f) y) else (ns++[f]).zip (vs++[y])
 | [],[],_=>by simp [yiL]
 | n::ns,v::vs,hl=>by
  have ih:=yng f y ns vs (by simpa using hl)
  show (if n=f then (n,y)::ns.zip vs else (n,v)::yiL f y (ns.zip vs))=_
  by_cases h:n=f
  .subst h
   simp [List.idxOf_cons_self]
  .have h':¬ f=n:=fun z=>h z.symm
   have hb:(n == f)=false:=by simpa using h
   rw [if_neg h,ih]
   by_cases hm:f∈ns
   .simp [hm,h',List.idxOf_cons,hb]
   .simp [hm,h']
theorem yiT {f:Str}:∀ {ns:List Str}{vs:List V},vs.length=ns.length->f∈ns->(ns.zip vs).lookup f=vs[ns.idxOf f]?
 | [],_,_,h=>by simp at h
 | n::ns,v::vs,hl,h=>by
  show List.lookup f ((n,v)::ns.zip vs)=_
  by_cases hn:f=n
  .subst hn
   rw [yCw,List.idxOf_cons_self];rfl
  .rw [yyL hn,yiT (by simpa using hl) (by simpa [hn] using h)]
   have hb:(n == f)=false:=by simpa using fun z:n=f=>hn z.symm
   simp [List.idxOf_cons,hb]
theorem yct {f:Str}:∀ {ns:List Str}{vs:List V},f∉ns->(ns.zip vs).lookup f=none
 | [],_,_=>by simp
 | n::ns,[],_=>by simp
 | n::ns,v::vs,h=>by
  show List.lookup f ((n,v)::ns.zip vs)=_
  rw [yyL (fun z:f=n=>h (by rw [z];exact mem_cons_self)),yct fun z=>h (mem_cons_of_mem _ z)]
noncomputable def yfG (x:PV) (h:AH):Option (Nat×List Str×List PV):=match x with|.ins k ns xs=>some (k,ns,xs)|.loc n=>(match h[n]? with|some (.ins k ns xs)=>some (k,ns,xs)|_=>none)|_=>none
theorem yek {W:Wd}(w:WOk K W) {x:PV}{v:V}{k:Nat}{ns:List Str}{xs:List PV}(e:yfG x W.h=some (k,ns,xs)) (r:ydb K W x v):∃ a dx vs,v=.ref a/\W.H a=some (.ins (K.A k) dx (ns.zip vs))/\vs.length=ns.length/\ydt K W xs vs:=by
 unfold yfG at e
 split at e
 .cases e
  obtain ⟨a,dx,vs,ev,hs,hl,rs⟩:=r
  exact ⟨a,dx,vs,ev,w.le _ _ hs,hl,rs⟩
 .rename_i n
  split at e
  .rename_i hn
   cases e
   obtain ⟨a,ev,hm,hf,dx,vs,hp,hl,rs⟩:=w.loc hn r
   exact ⟨a,dx,vs,ev,hp,hl,rs⟩
  .cases e
 .cases e
def ynh (cs:List Nat) (f:Str) (e:XE):XE:=fun ρ h=>ob (e ρ h) fun x h1=>match yfG x h1 with|some (k,ns,xs)=>if k∈cs/\f∈ns then (match xs[ns.idxOf f]? with|some y=>some (y,h1)|none=>none) else none|none=>none
theorem ywf {cs:List Nat}{f:Str}{ta:TE}{ea:XE}(hc:∀ k∈cs,Cls K.K (K.A k)/\NoAttr K.K (K.A k) f) (a:ycP K ta ea):ycP K (yFa K.K ta f) (ynh cs f ea):=by
 intro W0 W ρ σ Q z h' g e q
 obtain ⟨x,h1,e1,f1⟩:=yj e
 refine a W0 W ρ σ _ x h1 g e1 fun v W1 w1 l1 r1=>?_
 subst w1
 split at f1
 .rename_i k ns xs hi
  split at f1
  .rename_i c
   split at f1
   .rename_i y hy
    cases f1
    obtain ⟨a,dx,vs,ev,hp,hl,rs⟩:=yek l1.ok hi r1
    obtain ⟨u,h2,h3⟩:=rs.get hy
    exact ⟨a,_,dx,_,u,ev,hp,(hc k c.1).1,(hc k c.1).2,by rw [yiT hl c.2];exact h2,q _ W1 rfl l1 h3⟩
   .cases f1
  .cases f1
 .cases f1
def ydu (cs:List Nat) (i:Nat) (f:Str) (e:XE):XS:=fun ρ h=>ob (e ρ h) fun x h1=>match ρ[i]? with
 | some (.own (.ins k ns xs))=>if k∈cs/\ns.length<1000 then some (.nx (ρ.set i (.own (.ins k (putN f x ns xs).1 (putN f x ns xs).2))),h1) else none
 | _=>none
theorem RepL.putN {F:Hp}{m:List Addr}{f:Str}{x:PV}{v:V}{ns:List Str}{xs:List PV}{vs:List V}(r:RepL K F m xs vs) (hl:vs.length=ns.length) (rx:Rep K F m x v) :
  ∃ us,yiL f v (ns.zip vs)=(PX.putN f x ns xs).1.zip us/\us.length=(PX.putN f x ns xs).1.length/\RepL K F m (PX.putN f x ns xs).2 us:=by
 rw [yng f v ns vs hl]
 unfold PX.putN
 by_cases h:f∈ns
 .rw [if_pos h,if_pos h]
  exact ⟨_,rfl,by rw [length_set];exact hl,r.set _ rx⟩
 .rw [if_neg h,if_neg h]
  exact ⟨_,rfl,by rw [length_append,length_append,hl];rfl,r.snoc rx⟩
noncomputable def yuj (K:Ck) (t:TS) (s:XS):Prop:=∀ (W0 W:Wd) (ρ ρ':PSt) (σ:St) (D:Ends) (h':AH),Good K W0 W ρ σ->s ρ W.h=some (.nx ρ',h')->(∀ W',W'.h=h'->Lf K W W'->Good K W0 W' ρ' σ->D.nx σ W'.H)->t D σ W.H
theorem ysM {cs:List Nat}{i:Nat}{f:Str}{ta:TE}{ea:XE}(hc:∀ k∈cs,Cls K.K (K.A k)/\NoAttr K.K (K.A k) f) (a:ycP K ta ea):yuj K (yCf K.K (yvc i) ta f) (ydu cs i f ea):=by
 intro W0 W ρ ρ' σ D h' g e q
 obtain ⟨x,h1,e1,f1⟩:=yj e
 split at f1
 .rename_i k ns xs hi
  split at f1
  .rename_i c
   cases f1
   refine a W0 W ρ σ _ x _ g e1 fun v W1 w1 l1 r1=>?_
   have g1:=g.step l1
   obtain ⟨p,b1,b2,b3,b4,b5,dx,vs,b6,b7,b8⟩:=g1.own i _ hi
   obtain ⟨us,p1,p2,p3⟩:=b8.putN (f:=f) b7 r1
   refine ⟨_,b1,p,_,dx,_,rfl,b6,(hc k c.1).1,(hc k c.1).2,by rw [List.length_zip,b7];simpa using c.2,?_⟩
   rw [p1]
   exact q (yvW W1 p _) w1 (yug l1 b2) (g1.mut hi b1 b2 b3 b5 (fun z=>by cases z) ⟨b5,dx,us,yba,p2,p3⟩)
  .cases f1
 .cases f1
theorem ysN {t u:TS}{s s':XS}(a:yuj K t s) (b:yuj K u s'):yuj K (yBZ t u) (yw s s'):=by
 intro W0 W ρ ρ' σ D h' g e q
 obtain ⟨o1,h1,e1,f1⟩:=yj e
 cases o1 with
 | nx ρ1=>exact a W0 W ρ ρ1 σ _ h1 g e1 fun W1 w1 l1 g1=>b W0 W1 ρ1 ρ' σ D h' g1 (by rw [w1];exact f1) fun W2 w2 l2 g2=>q W2 w2 (l1.trans l2) g2
 | rt y=>cases f1
 | bk y=>cases f1
 | ct y=>cases f1
def yqi (N:Nat) (k:Nat) (s:XS):List PV->AH->Option (Nd×AH):=fun xs h=>ob (s (.own (.ins k [] [])::(xs.map .val++replicate (N-(xs.length+1)) .no)) h) fun o h1=>match o with|.nx ρ=>(match ρ[0]? with|some (PVar.own d)=>some (d,h1)|_=>none)|_=>none
def spI (K:Ck) (n k:Nat) (f:List PV->AH->Option (Nd×AH)):Sp:=fun vs H Q _=>∃ (W:Wd) (x dx:Addr) (args:List V) (xs:List PV) (d:Nd) (h':AH),vs=.ref x::args/\W.H x=none/\W.H dx=none/\dx≠x/\H=upd (upd W.H dx (.own x)) x (.ins (K.A k) dx []) /\
 WOk K W/\ydt K W xs args/\xs.length=n/\f xs W.h=some (d,h')/\∀ W',W'.h=h'->Le K W W'->x∉W'.m->d≠.dead->NdAt K W'.F W'.H W'.m d x->Q .non W'.H
theorem ywg {n k:Nat}{f} {vs:List V}{H:Hp}{Q:VK}{E:XK}(h:spI K n k f vs H Q E):vs.length=n+1:=by
 obtain ⟨W,x,dx,args,xs,d,h',rfl,_,_,_,_,w,r,hn,_⟩:=h
 rw [length_cons,r.len,hn]
theorem ysO {N:List Str}{n k:Nat}{t:TS}{s:XS}{vs:List V}{H:Hp}{Q:VK}{E:XK}{bk ct:St->Hp->Prop}(hN:n+1<=N.length) (a:yuj K t s) (h:spI K n k (yqi N.length k s) vs H Q E):t ⟨fun _ H'=>Q .non H',Q,bk,ct⟩ (L2.start N vs) H:=by
 obtain ⟨W,x,dx,args,xs,d,h',rfl,hx,hd,hne,rfl,w,r,hn,e,q⟩:=h
 obtain ⟨o,h1,e1,f1⟩:=yj e
 have l1:Le K W (ykh W dx (.own x)):=yfS w hd
 have hx1:(ykh W dx (.own x)).H x=none:=(yR hne.symm).trans hx
 have l2:Le K (ykh W dx (.own x)) (ykh (ykh W dx (.own x)) x (.ins (K.A k) dx [])):=yfS l1.ok hx1
 have l:=l1.trans l2
 have gs:=ygD (K:=K) (N:=N.drop 1) w r
 have g:Good K W (ykh (ykh W dx (.own x)) x (.ins (K.A k) dx [])) (.own (.ins k [] [])::(xs.map .val++replicate (N.length-(xs.length+1)) .no)) (L2.start N (.ref x::args)):=by
  have es:L2.start N (.ref x::args)=some (.ref x)::L2.start (N.drop 1) args:=by
   have e3:N.length-(args.length+1)=(N.drop 1).length-args.length:=by rw [length_drop];omega
   unfold L2.start
   rw [map_cons,List.cons_append,length_cons,e3]
  have eN:N.length-(xs.length+1)=(N.drop 1).length-xs.length:=by rw [length_drop];omega
  rw [es,eN]
  have gs':=gs.step l
  have noown:∀ (j:Nat) (d:Nd),(xs.map PVar.val++replicate ((N.drop 1).length-xs.length) .no)[j]?≠some (.own d):=fun j d z=>by
   by_cases hj:j<xs.length
   .rw [getElem?_append_left (by simpa using hj),getElem?_map,List.getElem?_eq_getElem hj] at z
    cases z
   .rw [getElem?_append_right (by simp;omega),getElem?_replicate] at z
    split at z<;>cases z
  refine ⟨l,by rw [length_cons,length_cons,gs.len],fun j y z=>?_,fun j d z=>?_,fun i j d d' hij z z'=>?_⟩
  .cases j with
   | zero=>cases z
   | succ j=>exact gs'.val j y z
  .cases j with
   | zero=>cases z;exact ⟨x,rfl,w.out hx,hx,(fun z=>by cases z),w.ff hx,dx,[],yba,rfl,rfl⟩
   | succ j=>exact absurd z (noown j d)
  .cases i with
   | zero =>
    cases j with
    | zero=>exact absurd rfl hij
    | succ j=>exact absurd z' (noown j d')
   | succ i=>exact absurd z (noown i d)
 cases o with
 | rt y=>cases f1
 | bk ρ=>cases f1
 | ct ρ=>cases f1
 | nx ρ =>
  refine a W _ _ ρ _ _ h1 g e1 fun W' ew lf g'=>?_
  dsimp only at f1
  split at f1
  .rename_i d' hd'
   cases f1
   obtain ⟨p,b1,b2,b3,b4,b5⟩:=g'.own 0 _ hd'
   have b1:some (some (V.ref x))=some (some (V.ref p)):=b1
   cases b1
   exact q W' ew g'.le b2 b4 b5
  .cases f1
def ygG (f:List PV->AH->Option (Nd×AH)) (a:XA):XO:=fun ρ h=>ob (a ρ h) f
theorem ysP {n k:Nat}{f} {ex:XK}{t:TA}{e:XA}(a:ylE K t e) (hn:∀ ρ h xs h',e ρ h=some (xs,h')->xs.length=n):yoc K (yyB (K.A k) (spI K n k f) [] ex t) (ygG f e):=by
 intro W0 W ρ σ Q d h' g e' q
 obtain ⟨xs,h1,e1,e2⟩:=yj e'
 refine a W0 W ρ σ _ xs h1 g e1 fun vs W1 w1 l1 r1=>?_
 subst w1
 intro x dx hx hd hne
 rw [append_nil]
 exact ⟨W1,x,dx,vs,xs,d,h',rfl,hx,hd,hne,rfl,l1.ok,r1,hn _ _ _ _ e1,e2,fun W2 w2 l2 hm hdd at_=>⟨rfl,q x W2 w2 (l1.trans l2) hm (l1.fresh hx) hdd at_⟩⟩
def yni (k:Nat):XO:=fun _ h=>some (.ins k [] [],h)
theorem yqj {k:Nat}:yoc K (ytZ (K.A k)) (yni k):=by
 intro W0 W ρ σ Q d h' g e q
 cases e
 intro x dx hx hd hne
 have w:=g.ok
 have l1:Le K W (ykh W dx (.own x)):=yfS w hd
 have hx1:(ykh W dx (.own x)).H x=none:=(yR hne.symm).trans hx
 have l2:Le K (ykh W dx (.own x)) (ykh (ykh W dx (.own x)) x (.ins (K.A k) dx [])):=yfS l1.ok hx1
 exact q x (ykh (ykh W dx (.own x)) x (.ins (K.A k) dx [])) rfl (l1.trans l2) (w.out hx) hx (fun z=>by cases z) ⟨w.ff hx,dx,[],yba,rfl,rfl⟩
def yhr (m:Str) (f:Nat->Fn) (e:XE):XE:=fun ρ h=>ob (e ρ h) fun x h1=>match yfG x h1 with|some (k,ns,_)=>if m∈ns then none else f k [x] h1|none=>none
theorem ysQ {m:Str}{f:Nat->Fn}{ta:TE}{ea:XE}(a:ycP K ta ea):ycP K (yua K.A m (fun k=>spE K 1 (f k)) ta) (yhr m f ea):=by
 intro W0 W ρ σ Q z h' g e q
 obtain ⟨x,h1,e1,f1⟩:=yj e
 refine a W0 W ρ σ _ x h1 g e1 fun v W1 w1 l1 r1=>?_
 subst w1
 split at f1
 .rename_i k ns xs hi
  split at f1
  .cases f1
  .rename_i hm
   obtain ⟨b,dx,vs,ev,hp,hl,rs⟩:=yek l1.ok hi r1
   exact ⟨b,k,dx,_,ev,hp,yct hm,W1,[x],z,h',rfl,l1.ok,⟨v,[],rfl,r1,rfl⟩,rfl,f1,fun u W2 w2 l2 r2=>q u W2 w2 (l1.trans l2) r2⟩
 .cases f1
def yzq (tb:List (Nat×Nat×Bool)) (x c:PV) (h:AH):Option Bool:=match c with
 | .ty n=>(match x with
  | .int _=>if n = "int" then some true else if n = "bool"\/n = "str"\/n = "list"\/n = "tuple"\/n = "dict" then some false else none
  | .bl _=>if n = "int"\/n = "bool" then some true else if n = "str"\/n = "list"\/n = "tuple"\/n = "dict" then some false else none
  | .str _=>if n = "str" then some true else if n = "int"\/n = "bool"\/n = "list"\/n = "tuple"\/n = "dict" then some false else none
  | .non=>if n = "int"\/n = "bool"\/n = "str"\/n = "list"\/n = "tuple"\/n = "dict" then some false else none
  | .tup _=>if n = "tuple" then some true else if n = "int"\/n = "bool"\/n = "str"\/n = "list"\/n = "dict" then some false else none
  | _=>(match ycd x h with|some _=>if n = "list" then some true else if n = "int"\/n = "bool"\/n = "str"\/n = "tuple"\/n = "dict" then some false else none|none=>none))
 | .cls c'=>(match yfG x h with|some (k,_)=>(tb.find? fun r=>r.1 == k && r.2.1 == c').map (·.2.2)|none=>none)
 | _=>none
def yzr (tb:List (Nat×Nat×Bool)):List PV->AH->Option (PV×AH):=fun xs h=>match xs with|[x,c]=>(match yzq tb x c h with|some b=>some (.bl b,h)|none=>none)|_=>none
theorem yzs {tb:List (Nat×Nat×Bool)}(ht:∀ r∈tb,∀ (H:Hp) (a dx:Addr) (fs:List (Str×V)),H a=some (.ins (K.A r.1) dx fs)->IsI K.K H (.ref a) (.ref (K.A r.2.1)) r.2.2):ygg K (yCu K.K) (yzr tb):=by
 intro W xs vs Q z h' w r e q
 unfold yzr at e
 split at e
 .rename_i x c
  split at e
  .rename_i b hb
   cases e
   obtain ⟨v,u,rfl,rx,ru⟩:=yzm r
   refine ⟨v,u,b,rfl,?_,q _ W rfl (.refl w) rfl⟩
   unfold yzq at hb
   split at hb
   .rename_i n
    obtain rfl:u=.ty n:=ru
    split at hb
    .rw [show v=_ from rx]
     repeat' split at hb
     all_goals cases hb
     .rename_i hn;subst hn;exact ylQ
     .rename_i hn;rcases hn with rfl|rfl|rfl|rfl|rfl
      .exact ykr
      .exact ylV
      .exact ykv
      .exact yjy
      .exact ykw
    .rw [show v=_ from rx]
     repeat' split at hb
     all_goals cases hb
     .rename_i hn;rcases hn with rfl|rfl
      .exact ynY
      .exact ylS
     .rename_i hn;rcases hn with rfl|rfl|rfl|rfl
      .exact ynZ
      .exact ylW
      .exact ykx
      .exact ylX
    .rw [show v=_ from rx]
     repeat' split at hb
     all_goals cases hb
     .rename_i hn;subst hn;exact ylT
     .rename_i hn;rcases hn with rfl|rfl|rfl|rfl|rfl
      .exact ylY
      .exact yky
      .exact ykz
      .exact yjz
      .exact ykA
    .rw [show v=_ from rx]
     repeat' split at hb
     all_goals cases hb
     .rename_i hn;rcases hn with rfl|rfl|rfl|rfl|rfl|rfl
      .exact ylR
      .exact ykB
      .exact ylZ
      .exact ykC
      .exact yjA
      .exact ykD
    .obtain ⟨a,us,rfl,hs,_⟩:=rx
     have hp:(∃ xs,W.H a=some (.tup xs))\/∃ o,K.K.lookup a=some o/\o.cls=.type "tuple":=hs.elim (fun h=>.inl ⟨_,w.le _ _ h⟩) fun ⟨o,its,n,e1,e2,_⟩=>.inr ⟨o,e1,e2⟩
     repeat' split at hb
     all_goals cases hb
     .rename_i hn;subst hn;exact yjC hp
     .rename_i hn;rcases hn with rfl|rfl|rfl|rfl|rfl
      .exact ymc hp
      .exact ykG hp
      .exact ymd hp
      .exact ykH hp
      .exact ykI hp
    .split at hb
     .rename_i ys hy
      obtain ⟨a,us,rfl,hp,_⟩:=ybi w hy rx
      repeat' split at hb
      all_goals cases hb
      .rename_i hn;subst hn;exact yks hp
      .rename_i hn;rcases hn with rfl|rfl|rfl|rfl|rfl
       .exact yma hp
       .exact ykE hp
       .exact ymb hp
       .exact yjB hp
       .exact ykF hp
     .cases hb
   .rename_i c'
    obtain rfl:u=.ref (K.A c'):=ru
    split at hb
    .rename_i k p hi
     obtain ⟨r',h1,h2⟩:=Option.map_eq_some_iff.mp hb
     have hm:=List.mem_of_find?_eq_some h1
     have hp:=List.find?_some h1
     simp only [and_eq_true,beq_iff_eq] at hp
     obtain ⟨a,dx,us,rfl,hs,_⟩:=yek w hi rx
     obtain ⟨p1,p2⟩:=hp
     have:=ht r' hm W.H a dx (p.1.zip us) (by rw [p1];exact hs)
     rw [p2,h2] at this
     exact this
    .cases hb
   .cases hb
  .cases e
 .cases e
end PX
namespace PX
open PySem L2
section
variable {ρ:PSt}{h h1:AH}{x y z:PV}{a b c:XE}{ca cb:XT}{aa:XA}{eo:XO}{s u:XS}{i:Nat}{p:P2}
theorem ydi {α β:Type}{x:α}{h:AH}{f:α->AH->Option β}:ob (some (x,h)) f=f x h:=id rfl
theorem yCF {α β:Type}{f:α->AH->Option β}:ob (none:Option (α×AH)) f=none:=id rfl
theorem yCG {α β γ:Type}{o:Option (α×AH)}{f:α->AH->Option (β×AH)}{g:β->AH->Option γ}:ob (ob o f) g=ob o fun x h=>ob (f x h) g:=by cases o<;>rfl
theorem yCH {α β:Type}{q:Prop} [Decidable q] {o o':Option (α×AH)}{f:α->AH->Option β}:ob (if q then o else o') f=if q then ob o f else ob o' f:=by split<;>rfl
theorem ynj:ye 0 (.val x::ρ) h=some (x,h):=id rfl
theorem yzt {v:PVar}{n:Nat}:ye (n+1) (v::ρ) h=ye n ρ h:=by simp [ye]
theorem x_c:xC x ρ h=some (x,h):=id rfl
theorem yFS:xOp p a b ρ h=ob (a ρ h) fun x h1=>ob (b ρ h1) fun y h2=>p x y h2:=id rfl
theorem yCI {p:P2O}:ykJ p a b ρ h=ob (a ρ h) fun x h1=>ob (b ρ h1) fun y h2=>p x y h2:=id rfl
theorem yFT {p}:xUn p a ρ h=ob (a ρ h) fun x h1=>p x h1:=id rfl
theorem yFU {k:Bool}:oB (.bl k) h=some (k,h):=id rfl
theorem ywh {p p':P2}:yiN p p' a b c ρ h=ob (a ρ h) fun x h1=>ob (b ρ h1) fun y h2=>ob (p x y h2) fun z h3=>ob (oB z h3) fun k h3=>if k=true then ob (c ρ h3) fun w h4=>p' y w h4 else some (.bl false,h3):=id rfl
theorem yzu:yH a ρ h=ob (a ρ h) oB:=id rfl
theorem yzv:yod a b ρ h=ob (a ρ h) fun x h1=>ob (oB x h1) fun k h1=>if k=true then b ρ h1 else some (.bl false,h1):=id rfl
theorem yCJ:yyV ca cb ρ h=ob (ca ρ h) fun k h1=>if k=true then cb ρ h1 else some (false,h1):=id rfl
theorem yFV:xOr ca cb ρ h=ob (ca ρ h) fun k h1=>if k=true then some (true,h1) else cb ρ h1:=id rfl
theorem yCK:ymf ca ρ h=ob (ca ρ h) fun k h1=>some (!k,h1):=id rfl
theorem yFW:xIf ca a b ρ h=ob (ca ρ h) fun k h1=>if k=true then a ρ h1 else b ρ h1:=id rfl
theorem yzw:yk ρ h=some ([],h):=id rfl
theorem yuk:yb a aa ρ h=ob (a ρ h) fun x h1=>ob (aa ρ h1) fun xs h2=>some (x::xs,h2):=id rfl
theorem yCL:yiO aa ρ h=ob (aa ρ h) fun xs h1=>if xs.length<=1000 then some (.tup xs,h1) else none:=id rfl
theorem yCM:ydR aa ρ h=ob (aa ρ h) fun xs h1=>if xs.length<=1000 then some (.lst xs,h1) else none:=id rfl
def fzN:Nd->AH->Option (PV×AH)
 | .lst xs,h=>some (.lst xs,h)
 | .ins k ns xs,h=>some (.ins k ns xs,h)
 | _,_=>none
theorem yFX:xFz eo ρ h=ob (eo ρ h) fzN:=by
 unfold xFz;congr;funext d h1;cases d<;>rfl
theorem yCN {xs:List PV}:fzN (.lst xs) h=some (.lst xs,h):=id rfl
theorem yCO {k:Nat}{ns:List Str}{xs:List PV}:fzN (.ins k ns xs) h=some (.ins k ns xs,h):=id rfl
theorem yCP:yvD eo ρ h=ob (eo ρ h) fun d h1=>some (.loc h1.length,h1++[d]):=id rfl
theorem x_call {f:Fn}:yP f aa ρ h=ob (aa ρ h) f:=id rfl
theorem yFY {f}:xCB f aa ρ h=ob (aa ρ h) f:=id rfl
theorem yFZ {q} {p:PM}:xBM q p a aa ρ h=ob (a ρ h) fun x h1=>if q x h1=true then ob (aa ρ h1) fun xs h2=>p x xs h2 else none:=id rfl
theorem yqk {s:Str}:isStr (.str s) h=true:=id rfl
theorem yzx {f}:ygG f aa ρ h=ob (aa ρ h) f:=id rfl
theorem ywi {k:Nat}:yni k ρ h=some (.ins k [] [],h):=id rfl
theorem yzy:ybm ρ h=some (.nx ρ,h):=id rfl
noncomputable def sqK (u:XS):Out->AH->Option (Out×AH)
 | .nx ρ,h=>u ρ h
 | .rt x,h=>some (.rt x,h)
 | .bk ρ,h=>some (.bk ρ,h)
 | .ct ρ,h=>some (.ct ρ,h)
theorem yCQ:yw s u ρ h=ob (s ρ h) (sqK u):=by
 unfold yw;congr;funext o h1;cases o<;>rfl
theorem yCR:sqK u (.nx ρ) h=u ρ h:=id rfl
theorem yCS:sqK u (.rt x) h=some (.rt x,h):=id rfl
theorem yzz:yeh a ρ h=ob (a ρ h) fun _ h1=>some (.nx ρ,h1):=id rfl
theorem yCT:ybq a ρ h=ob (a ρ h) fun x h1=>some (.rt x,h1):=id rfl
theorem yCU:yck ca s u ρ h=ob (ca ρ h) fun k h1=>if k=true then s ρ h1 else u ρ h1:=id rfl
theorem yCV {g:XG}:ybc a g ρ h=ob (a ρ h) fun x h1=>(g x ρ).bind fun ρ'=>some (.nx ρ',h1):=id rfl
theorem yzA:yoh eo i ρ h=ob (eo ρ h) fun d h1=>some (.nx (ρ.set i (.own d)),h1):=id rfl
theorem yzB:yl i x ρ=some (ρ.set i (.val x)):=id rfl
theorem yzC:yvQ [] ρ=some ρ:=id rfl
theorem ywj {g:XG}{r:XGs}{xs:List PV}:yhn g r (x::xs) ρ=(g x ρ).bind fun ρ'=>r xs ρ':=id rfl
theorem yzD {n:Nat}{g:XGs}{xs:List PV}:ysu n g (.tup xs) ρ=if xs.length=n then g xs ρ else none:=id rfl
theorem yCW:yze i s ρ h=s (ymj i ρ) h:=id rfl
theorem yCX {v:PVar}:ymj 0 (v::ρ)=ysv v::ρ:=id rfl
theorem yCY {v:PVar}{n:Nat}:ymj (n+1) (v::ρ)=v::ymj n ρ:=id rfl
theorem yCZ {xs:List PV}:ysv (.own (.lst xs))=.val (.lst xs):=id rfl
theorem yDa {it:XA}{g:XG}:ylF it g s ρ h=ob (it ρ h) fun xs h1=>yeZ g s xs ρ h1:=id rfl
theorem yzE {g:XG}:yeZ g s [] ρ h=some (.nx ρ,h):=id rfl
def frK (g:XG) (s:XS) (xs:List PV):Out->AH->Option (Out×AH)
 | .nx ρ,h=>yeZ g s xs ρ h
 | .ct ρ,h=>yeZ g s xs ρ h
 | .bk ρ,h=>some (.nx ρ,h)
 | .rt y,h=>some (.rt y,h)
theorem yhR {g:XG}{xs:List PV}:yeZ g s (x::xs) ρ h=(g x ρ).bind fun ρ1=>ob (s ρ1 h) (frK g s xs):=by
 unfold yeZ;congr;funext ρ1;congr;funext o h1;cases o<;>rfl
def fnK:Out->AH->Option (PV×AH)
 | .rt x,h=>some (x,h)
 | .nx _,h=>some (.non,h)
 | _,_=>none
theorem yN {N:Nat}{xs:List PV}:yda N s xs h=ob (s (xs.map .val++replicate (N-xs.length) .no) h) fnK:=by
 unfold yda;congr;funext o h1;cases o<;>rfl
theorem yDb:fnK (.rt x) h=some (x,h):=id rfl
theorem yDc:fnK (.nx ρ) h=some (.non,h):=id rfl
def yoq (cs:List Nat) (f:Str) (x:PV) (h:AH):Option (PV×AH):=match yfG x h with|some (k,ns,xs)=>if k∈cs/\f∈ns then (match xs[ns.idxOf f]? with|some y=>some (y,h)|none=>none) else none|none=>none
theorem yDd {cs:List Nat}{f:Str}:ynh cs f a ρ h=ob (a ρ h) (yoq cs f):=id rfl
theorem ygH {cs:List Nat}{f:Str}{k:Nat}{ns:List Str}{xs:List PV}{y:PV}(hk:k∈cs) (hf:f∈ns) (hy:xs[ns.idxOf f]?=some y):yoq cs f (.ins k ns xs) h=some (y,h):=by
 unfold yoq yfG
 simp [hk,hf,hy]
def ygI (m:Str) (f:Nat->Fn) (x:PV) (h:AH):Option (PV×AH):=match yfG x h with|some (k,ns,_)=>if m∈ns then none else f k [x] h|none=>none
theorem yql {m:Str}{f:Nat->Fn}:yhr m f a ρ h=ob (a ρ h) (ygI m f):=id rfl
theorem ycV {m:Str}{f:Nat->Fn}{k:Nat}{ns:List Str}{xs:List PV}(hm:m∉ns):ygI m f (.ins k ns xs) h=f k [.ins k ns xs] h:=by
 unfold ygI yfG
 simp [hm]
theorem x_i {g:Int->Int->PV}{i j:Int}:oI g (.int i) (.int j) h=some (g i j,h):=id rfl
theorem yGa {C:Int->Int->Prop} [∀ i j,Decidable (C i j)] {g:Int->Int->PV}{i j:Int}:oIc C g (.int i) (.int j) h=if C i j then some (g i j,h) else none:=id rfl
theorem yul {i j:Int}(h1:-18446744073709551616<j) (h2:j<18446744073709551616):MulOk i j=True:=eq_true (.inr ⟨h1,h2⟩)
theorem yDe {i j:Int}(h1:0<=i) (h2:i<18446744073709551616) (h3:0<=j) (h4:j<=1000000):yqa i j=True:=eq_true ⟨⟨h1,h2⟩,h3,h4⟩
theorem yDf {i j:Int}:oEq (.int i) (.int j) h=some (.bl (decide (i=j)),h):=by simp [oEq,sv,yvi]
theorem yDg {i j:Str}:oEq (.str i) (.str j) h=some (.bl (decide (i=j)),h):=by simp [oEq,sv,yvi]
theorem yDh {i j:Str}:oNe (.str i) (.str j) h=some (.bl (!decide (i=j)),h):=by simp [oNe,sv,yvi]
theorem yDi:ysL x .non h=some (.bl (isN x),h):=id rfl
theorem yzF:yqb x .non h=some (.bl (!isN x),h):=id rfl
theorem ydJ {i j:Str}:ybJ (.str i) (.str j) h=if i.length+j.length<=100000 then some (.str (i++j),h) else none:=id rfl
theorem yDj {c:Nat}{j:Str}:yzj (.str ⟨#[c]⟩) (.str j) h=some (.bl (decide (c∈j.cps.toList)),h):=id rfl
theorem yDk {xs:List PV}{i:Int}:yfM (.lst xs) (.int i) h=(atI xs i).bind fun v=>some (v,h):=by
 simp only [yfM];cases atI xs i<;>rfl
theorem yDl {xs:List Int}{i:Int}:yfM (.scr xs) (.int i) h=(atI xs i).bind fun v=>some (.int v,h):=by
 simp only [yfM];cases atI xs i<;>rfl
theorem yDm {xs:List PV}{i:Int}:yei (.tup xs) (.int i) h=(atI xs i).bind fun v=>some (v,h):=by
 simp only [yei];cases atI xs i<;>rfl
theorem yDn {s:Str}{i:Int}:ywc (.str s) (.int i) h=(atI s.cps.toList i).bind fun c=>if s.length<=100000 then some (sgn c,h) else none:=by
 simp only [ywc];cases atI s.cps.toList i<;>rfl
theorem ysR {xs:List PV}{lo hi:Option Int}:yom (.lst xs) lo hi h=some (.lst (yol xs lo hi),h):=id rfl
theorem yDo {xs:List Int}{lo hi:Option Int}:yom (.scr xs) lo hi h=some (.lst (yol (xs.map .int) lo hi),h):=id rfl
theorem yml {xs ys:List PV}:yiQ (.lst xs) (.lst ys) h=if xs.length+ys.length<=100000 then some (.lst (xs++ys),h) else none:=id rfl
theorem yDp {xs:List PV}{k:Int}:yzl (.lst xs) (.int k) h=if -1000000<=k/\k<=100000/\xs.length*k.toNat<=100000 then some (.lst (repL k.toNat xs),h) else none:=id rfl
theorem yGb {p} {lo hi}:xSl p a lo hi ρ h=ob (a ρ h) fun x h1=>ob (lo ρ h1) fun l h2=>ob (hi ρ h2) fun u h3=>p x l u h3:=id rfl
theorem yDq {p} {lo hi}:yrC p a lo hi ρ h=ob (a ρ h) fun x h1=>ob (lo ρ h1) fun l h2=>ob (hi ρ h2) fun u h3=>p x l u h3:=id rfl
theorem yzG:ygf a ρ h=ob (a ρ h) fun x h1=>match x with|.int i=>some (some i,h1)|_=>none:=id rfl
theorem ysS:yfd ρ h=some (none,h):=id rfl
theorem yzH {xs:List PV}:yhq [.lst xs] h=some (.int xs.length,h):=id rfl
theorem yzI {xs:List Int}:yhq [.scr xs] h=some (.int xs.length,h):=id rfl
theorem yzJ {z:Str}:yoo [.str z] h=if z.length<=100000 then some (.int z.length,h) else none:=id rfl
theorem ywk {k:Bool}:ykN [.bl k] h=some (.int (if k then 1 else 0),h):=id rfl
theorem yzK {k:Int}:yop [.int k] h=if k.natAbs.log2<1920 then some (.str (toString k:String),h) else none:=id rfl
theorem yBP {xs:List PV}(e:a ρ h=some (.lst xs,h1)):xIL a ρ h=some (xs,h1):=by unfold xIL;rw [e];rfl
theorem yzL {it:XA}{ix:List Nat}:yho it ix a ρ h=ob (it ρ h) fun xs h1=>if xs.length<=100000 then ob (yki a (yiw ix ρ) xs h1) fun ys h2=>some (.lst ys,h2) else none:=id rfl
end
end PX
namespace L2
open PySem PySem.Spec PyProof.Rows
end L2
namespace L2
open PySem PySem.Spec PyProof.Rows
section
variable (P:Program) (w:World)
end
section
variable {P:Program}{w:World}{H H':Hp}{h h':Heap}{a:Addr}{o:HO}
end
section
variable {P:Program}{w:World}{H:Hp}{h h':Heap}{x e:Addr}{o':HO}
end
section
variable {fs fs' ex ex':List Addr}{H H1 H2:Hp}{h h1 h2 h':Heap}{a x e:Addr}{o:HO}
end
end L2
namespace L2
open PySem PySem.Spec PyProof.Rows
section
variable {X:Cx}{pins:List (Addr×Obj)}{σ:List (Option V)}{H H':Hp}{s:Shared}{h':Heap}
end
end L2
namespace L2
open PySem PySem.Spec PyProof.Rows
section
variable {X:Cx}
variable {a b:Expr}{ta tb:TE}{pos:Pos}
variable {tA tB':TT}{rest:List Expr}
end
end L2
namespace L2
open PySem PySem.Spec PyProof.Rows
section
variable {X:Cx}{pins:List (Addr×Obj)}{σ:St}{H:Hp}{s:Shared}{a:Addr}{xs ys:List V}
end
section
variable {X:Cx}{pins:List (Addr×Obj)}{σ:St}{H:Hp}{s:Shared}{E:Value->Shared->Prop}
end
section
variable {X:Cx}{st:Stmt}{rest:List Stmt}{t u:TS}{e:Expr}{te:TE}{pos:Pos}
end
section
variable {X:Cx}{pos:Pos}
end
section
variable {X:Cx}{pos:Pos}
end
end L2
namespace L2
open PySem PySem.Spec PyProof.Rows
section
variable {X:Cx}{tg:Expr}
end
end L2
namespace L2
open PySem PySem.Spec PyProof.Rows
section
variable {X:Cx}{a b c:Expr}{ta tb tc:TE}{pos:Pos}
end
section
variable {X:Cx}{a b c:Expr}{ta tb tc:TE}{pos:Pos}
end
end L2
namespace L2
open PySem PySem.Spec PyProof.Rows
section
variable {prog:Program}{w:World}{A:Around}{E:Value->Shared->Prop}{s:Shared}{K:PySem.W.Frag}{x dx C f:Addr}{mA:Str->Option Value}{name:Str}{v:Value}
end
section
variable {P:Program}{w:World}{H H':Hp}{h h':Heap}{a C dx:Addr}{fs fs':List (Str×V)}
end
section
variable {X:Cx}{pins:List (Addr×Obj)}{σ:St}{H:Hp}{s:Shared}{a C dx:Addr}{fs:List (Str×V)}{f:Str}{v:V}{A:Around}{E:Value->Shared->Prop}
end
section
variable {X:Cx}{o e value:Expr}{f:Str}{pos pos' tpos:Pos}{ta tv:TE}
end
section
variable {X:Cx}{pins:List (Addr×Obj)}{σ:St}{H:Hp}{s:Shared}{A:Around}{E:Value->Shared->Prop}{Q:Value->Shared->Prop}{c:Value}{b:Bool}
end
end L2
namespace L2
open PySem PySem.Spec PyProof.Rows
section
variable {X:Cx}{e:Expr}{es:List Expr}{te:TE}{t:TA}{pos:Pos}
end
section
variable {X:Cx}{pins:List (Addr×Obj)}{σ:St}{H:Hp}{s s':Shared}
end
section
variable {X:Cx}{CX:CXT}{k:Nat}{f C:Addr}{fd:FuncData}{ps:List Str}{sp:Sp}{dvs:List V}{ds:List Value}{E:XK}{x m:Str}{p pos apos:Pos}{e o:Expr}{es:List Expr}{ta:TE}{t:TA}
end
section
variable {X:Cx}{CX:CXT}{k:Nat}{f C:Addr}{fd:FuncData}{ps ks:List Str}{sp:Sp}{E:XK}{x m:Str}{p pos apos kpos:Pos}{e o:Expr}{es:List Expr}{kws:List Keyword}{te ta:TE}{t tk:TA}{nm:Option Str}
variable {g:List Value->List Value->List Value}{gV:List V->List V->List V}
end
end L2
namespace L2
open PySem PySem.Spec PyProof.Rows
section
variable {X:Cx}{x:Str}{p pos:Pos}{e:Expr}{es:List Expr}{t:TA}{id T:String}{r:List V->Hp->VK->Prop}
end
end L2
namespace L2
open PySem PySem.Spec PyProof.Rows
section
variable {κ:Type} [DecidableEq κ]
end
section
variable {P:Program}{w:World}{H:Hp}{h:Heap}{a:Addr}
end
section
variable {X:Cx}{pins:List (Addr×Obj)}{σ:St}{H:Hp}{s:Shared}{a:Addr}{y v:V}{u r:Value}{o:Option V}{A:Around}{E:Value->Shared->Prop}
end
section
variable {X:Cx}{pins:List (Addr×Obj)}{σ:St}{H:Hp}{s:Shared}{a:Addr}{kvs:List (Key×V)}{k:Key}{u:Value}{A:Around}{E:Value->Shared->Prop}
end
section
variable {X:Cx}{o i e value:Expr}{pos pos' tpos:Pos}{td ty tv:TE}
end
section
variable {X:Cx}{pos:Pos}
end
section
variable {X:Cx}{pins:List (Addr×Obj)}{σ:St}{H:Hp}{s:Shared}{a:Addr}{y d:V}{u r:Value}{o:Option V}{A:Around}{E:Value->Shared->Prop}
end
section
variable {X:Cx}{o e f:Expr}{apos cpos:Pos}{td ty tx:TE}
end
section
variable {X:Cx}{pins:List (Addr×Obj)}{σ:St}{H:Hp}{s:Shared}{a:Addr}{kvs:List (Key×V)}{A:Around}{E:Value->Shared->Prop}
end
section
variable {X:Cx}{pins:List (Addr×Obj)}{σ:St}{H:Hp}{s:Shared}{a:Addr}{y:V}{u:Value}{A:Around}{E:Value->Shared->Prop}
end
end L2
namespace Att
open PySem PySem.W PySem.Calls PyProof.Rows
section
variable {prog:Program}{w:World}{A:Around}{E:Value->Shared->Prop}{s:Shared}{K:Frag}
end
end Att
namespace L2
open PySem PySem.Spec PyProof.Rows
end L2
namespace L2
open PySem PySem.Spec PyProof.Rows
end L2
namespace L2
open PySem PySem.Spec PyProof.Rows
section
variable {P:Program}{w:World}{K:PySem.W.Frag}{mg:Str->Option Value}{base:Heap}
end
section
variable {X:Cx}
end
section
variable {κ:Type} [DecidableEq κ]
end
end L2
namespace PX
open PySem L2
variable {K:Ck}
theorem yum {α:Type}{l:List α}(h:l.Nodup) {i j:Nat}(hi:i<l.length) (hj:j<l.length) (e:l[i]=l[j]):i=j:=by
 have p:=List.pairwise_iff_getElem.mp h
 rcases Nat.lt_trichotomy i j with z|z|z
 .exact absurd e (p i j hi hj z)
 .exact z
 .exact absurd e.symm (p j i hj hi z)
def yzM (W:Wd) (n:Nat) (a:Addr) (o:HO) (d:Nd):Wd:=⟨W.F,upd W.H a o,W.m,W.h.set n d⟩
theorem yjE {W:Wd}(w:WOk K W) {n:Nat}{d d':Nd}{a:Addr}{o:HO}(e:W.h[n]?=some d) (hm:W.m[n]?=some a) (hF:W.F a=none) (at':NdAt K W.F (upd W.H a o) W.m d' a) (nf:∀ ks xs,d≠.fz ks xs:=by intro _ _ z;cases z):Le K W (yzM W n a o d'):=by
 have hn:n<W.h.length:=(List.getElem?_eq_some_iff.mp e).1
 have ham:a∈W.m:=mem_of_getElem? hm
 refine ⟨⟨fun b u q=>?_,by show W.m.length=(W.h.set n d').length;rw [length_set];exact w.len,w.nd,fun j dj b e1 e2=>?_⟩,Same.refl _,prefix_refl _,fun b u q hb=>?_,fun b u _ _ f=>f,fun b z z'=>absurd z z',fun j ks xs e1=>?_⟩
 .have:b≠a:=ybU q hF
  exact (yR this).trans (w.le _ _ q)
 .have e1:(W.h.set n d')[j]?=some dj:=e1
  by_cases hj:n=j
  .subst hj
   rw [getElem?_set_self hn] at e1
   cases e1
   have e2:W.m[n]?=some b:=e2
   rw [hm] at e2
   cases e2
   exact at'
  .rw [getElem?_set_ne hj] at e1
   have e2:W.m[j]?=some b:=e2
   have hb:b≠a:=fun z=>by
    subst z
    have h1:=(List.getElem?_eq_some_iff.mp hm)
    have h2:=(List.getElem?_eq_some_iff.mp e2)
    obtain ⟨l1,q1⟩:=h1
    obtain ⟨l2,q2⟩:=h2
    exact hj (yum w.nd l1 l2 (q1.trans q2.symm))
   exact (w.at_ j dj b e1 e2).mono (Same.refl _) (prefix_refl _) (fun u q=>(yR hb).trans q) id
 .have:b≠a:=fun z=>hb (z ▸ ham)
  exact (yR this).trans q
 .have hj:n≠j:=fun z=>by
   subst z
   rw [e] at e1
   cases e1
   exact nf _ _ rfl
  refine ⟨(getElem?_set_ne hj).trans e1,fun b e2=>yR fun z=>?_⟩
  subst z
  obtain ⟨l1,q1⟩:=List.getElem?_eq_some_iff.mp hm
  obtain ⟨l2,q2⟩:=List.getElem?_eq_some_iff.mp e2
  exact hj (yum w.nd l1 l2 (q1.trans q2.symm))
def yix:PV->AH->Bool:=fun x h=>match ycd x h with|some _=>true|none=>false
theorem ynk {W:Wd}{x:PV}{v:V}(w:WOk K W) (r:ydb K W x v) (c:yix x W.h=true):tyV K.K "list" v W.H:=by
 unfold yix at c
 split at c
 .rename_i xs hx
  obtain ⟨a,vs,rfl,hs,_⟩:=ybi w hx r
  exact .inl ⟨rfl,vs,SqL.of hs⟩
 .cases c
def yqm (eo ei ev:XE):XS:=fun ρ h=>ob (ev ρ h) fun v h1=>ob (eo ρ h1) fun o h2=>ob (ei ρ h2) fun i h3=>match o,i with
 | .loc n,.int k=>(match h3[n]? with|some (.lst xs)=>(match ixN xs.length k with|some j=>some (.nx ρ,h3.set n (.lst (xs.set j v)))|none=>none)|_=>none)
 | _,_=>none
theorem ysT {to ti tv:TE}{eo ei ev:XE}(a:ycP K to eo) (b:ycP K ti ei) (c:ycP K tv ev):yha K (ytR tv (yEU to ti yyF)) (yqm eo ei ev):=by
 intro W0 W ρ σ D o h' g e q
 obtain ⟨v,h1,e1,f1⟩:=yj e
 obtain ⟨x,h2,e2,f2⟩:=yj f1
 obtain ⟨i,h3,e3,f3⟩:=yj f2
 refine c W0 W ρ σ _ v h1 g e1 fun vv W1 w1 l1 r1=>?_
 subst w1
 refine a W0 W1 ρ σ _ x h2 (g.step l1) e2 fun vx W2 w2 l2 r2=>?_
 subst w2
 refine b W0 W2 ρ σ _ i h3 (g.step (l1.trans l2)) e3 fun vi W3 w3 l3 r3=>?_
 subst w3
 have w:=l3.ok
 split at f3
 .rename_i n k
  split at f3
  .rename_i xs hn
   split at f3
   .rename_i j hj
    cases f3
    obtain ⟨p,ep,hm,hf,us,hp,rs⟩:=w.loc hn (l3.rep r2)
    refine ⟨p,us,k,j,ep,r3,hp,by rw [rs.len];exact hj,?_⟩
    have l4:Le K W3 (yzM W3 n p (.lst (us.set j vv)) (.lst (xs.set j v))):=yjE w hn hm hf ⟨hf,_,yba,rs.set j ((l2.trans l3).rep r1)⟩
    have l:=l1.trans (l2.trans (l3.trans l4))
    exact q _ σ rfl l.lf (g.step l)
   .cases f3
  .cases f3
 .cases f3
end PX
namespace PX
open PySem L2
variable {K:Ck}
def itemsOf (x:PV) (h:AH):Option (List PV):=match x with|.tup xs=>some xs|_=>listOf x h
theorem ymm {W:Wd}(w:WOk K W) {x:PV}{v:V}{xs:List PV}(e:itemsOf x W.h=some xs) (r:ydb K W x v):∃ a vs,v=.ref a/\(SqL K.K W.H a vs\/SqT K.K W.H a vs)/\ydt K W xs vs:=by
 unfold itemsOf at e
 split at e
 .cases e
  obtain ⟨a,vs,ev,hs,rs⟩:=r
  exact ⟨a,vs,ev,.inr (ycF w hs),rs⟩
 .obtain ⟨a,vs,ev,hs,rs⟩:=ygE w e r
  exact ⟨a,vs,ev,.inl hs,rs⟩
def svs:List PV->Option (List V)
 | []=>some []
 | x::xs=>match sv x,svs xs with|some v,some vs=>some (v::vs)|_,_=>none
theorem yqn {F:Hp}{m:List Addr}:∀ {xs:List PV}{us vs:List V},svs xs=some us->RepL K F m xs vs->vs=us/\us.all ygc=true
 | [],_,_,e,r=>by cases e;exact ⟨r,rfl⟩
 | x::xs,us,_,e,⟨v,r,ev,h,l⟩=>by
  unfold svs at e
  split at e
  .rename_i u us' e1 e2
   cases e
   obtain ⟨h1,h2⟩:=yqn e2 l
   have hv:v=u:=by cases x<;>cases e1<;>exact h
   have hf:ygc u=true:=by cases x<;>cases e1<;>rfl
   exact ⟨by rw [ev,hv,h1],by rw [List.all_cons,hf,h2];rfl⟩
  .cases e
theorem yjF {x:PV}{u:V}(e:sv x=some u):ygc u=true:=by cases x<;>cases e<;>rfl
def yqo (neg:Bool):P2:=fun x y h=>match sv x,itemsOf y h with|some v,some ys=>(match svs ys with|some us=>some (.bl (if neg then !inV v us else inV v us),h)|none=>none)|_,_=>none
theorem ywl {neg:Bool}:ycE K (rIn K.K neg) (yqo neg):=by
 intro W x y v u Q z h' w rx ry e q
 unfold yqo at e
 split at e
 .rename_i v' ys ev ey
  split at e
  .rename_i us hu
   cases e
   obtain rfl:=yfL ev rx
   obtain ⟨a,vs,rfl,hs,rs⟩:=ymm w ey ry
   obtain ⟨rfl,hf⟩:=yqn hu rs
   exact ⟨a,vs,rfl,hs,yjF ev,hf,q _ W rfl (.refl w) rfl⟩
  .cases e
 .cases e
def yDr:List V->Hp->VK->Prop:=fun xs H Q=>∃ i j,xs=[.int i,.int j]/\Q (.int (if j>i then j else i)) H
noncomputable def yhS:List PV->AH->Option (PV×AH):=fun xs h=>match xs with|[.int i,.int j]=>some (.int (if j>i then j else i),h)|_=>none
theorem ynl:ygg K yDr yhS:=by
 intro W xs vs Q z h' w r e q
 unfold yhS at e
 split at e
 .rename_i i j
  cases e
  obtain ⟨v,u,rfl,rv,ru⟩:=yzm r
  exact ⟨i,j,by rw [show v=_ from rv,show u=_ from ru],q _ W rfl (.refl w) rfl⟩
 .cases e
end PX
namespace PX
open PySem L2
theorem yDs [i:Decidable True]:decide True=true:=by simp
theorem yDt [i:Decidable False]:decide False=false:=by simp
theorem yDu:(false=true)=False:=by simp
theorem ysU {g:XG}{s:XS}{xs:List PV}(I:Nat->PSt->AH->Prop) (R:PV->AH->Prop) {ρ:PSt}{h:AH}(h0:I 0 ρ h)
  (step:∀ (i:Nat) (x:PV) (ρ:PSt) (h:AH),xs[i]?=some x->I i ρ h->∃ ρ1 o h',g x ρ=some ρ1/\s ρ1 h=some (o,h')/\(match o with|.nx ρ'=>I (i+1) ρ' h'|.ct ρ'=>I (i+1) ρ' h'|.bk _=>False|.rt y=>R y h')) :
  (∃ ρ' h',yeZ g s xs ρ h=some (.nx ρ',h')/\I xs.length ρ' h')\/∃ y h',yeZ g s xs ρ h=some (.rt y,h')/\R y h':=by
 have key:∀ (n i:Nat) (ρ:PSt) (h:AH),i+n=xs.length->I i ρ h->(∃ ρ' h',yeZ g s (xs.drop i) ρ h=some (.nx ρ',h')/\I xs.length ρ' h')\/∃ y h',yeZ g s (xs.drop i) ρ h=some (.rt y,h')/\R y h':=by
  intro n
  induction n with
  | zero =>
   intro i ρ h hi hI
   have:i=xs.length:=by omega
   subst this
   rw [List.drop_length]
   exact .inl ⟨ρ,h,rfl,hI⟩
  | succ n ih =>
   intro i ρ h hi hI
   have hlt:i<xs.length:=by omega
   obtain ⟨ρ1,o,h',e1,e2,e3⟩:=step i xs[i] ρ h (List.getElem?_eq_getElem hlt) hI
   rw [List.drop_eq_getElem_cons hlt,yhR,e1,bind_some,e2,ydi]
   cases o with
   | nx ρ'=>exact ih (i+1) ρ' h' (by omega) e3
   | ct ρ'=>exact ih (i+1) ρ' h' (by omega) e3
   | bk ρ'=>exact e3.elim
   | rt y=>exact .inr ⟨y,h',rfl,e3⟩
 simpa using key xs.length 0 ρ h (by omega) h0
theorem yqp {g:XG}{s:XS}{xs:List PV}(I:Nat->PSt->AH->Prop) {ρ:PSt}{h:AH}(h0:I 0 ρ h)
  (step:∀ (i:Nat) (x:PV) (ρ:PSt) (h:AH),xs[i]?=some x->I i ρ h->∃ ρ1 ρ' h',g x ρ=some ρ1/\(s ρ1 h=some (.nx ρ',h')\/s ρ1 h=some (.ct ρ',h'))/\I (i+1) ρ' h') :
  ∃ ρ' h',yeZ g s xs ρ h=some (.nx ρ',h')/\I xs.length ρ' h':=by
 rcases ysU I (fun _ _=>False) h0 (fun i x ρ h hx hI=>by
  obtain ⟨ρ1,ρ',h',e1,e2,e3⟩:=step i x ρ h hx hI
  rcases e2 with e2|e2
  .exact ⟨ρ1,.nx ρ',h',e1,e2,e3⟩
  .exact ⟨ρ1,.ct ρ',h',e1,e2,e3⟩) with q|⟨_,_,_,q⟩
 .exact q
 .exact q.elim
theorem yqq {β:Type}{g:XG}{s:XS}{xs:List PV}(I:Nat->PSt->AH->Prop) {ρ:PSt}{h:AH}{f:Out->AH->Option β}{r:Option β}(h0:I 0 ρ h)
  (step:∀ (i:Nat) (x:PV) (ρ:PSt) (h:AH),xs[i]?=some x->I i ρ h->∃ ρ1 ρ' h',g x ρ=some ρ1/\(s ρ1 h=some (.nx ρ',h')\/s ρ1 h=some (.ct ρ',h'))/\I (i+1) ρ' h')
  (fin:∀ ρ' h',I xs.length ρ' h'->f (.nx ρ') h'=r):ob (yeZ g s xs ρ h) f=r:=by
 obtain ⟨ρ',h',e,hI⟩:=yqp I h0 step
 rw [e]
 exact fin ρ' h' hI
theorem yhz {c:XT}{s:XS}{n:Nat}{ρ:PSt}{h:AH}:whl c s (n+1) ρ h=ob (c ρ h) fun k h1=>if k=true then ob (s ρ h1) fun o h2=>(match o with|.nx ρ'=>whl c s n ρ' h2|.ct ρ'=>whl c s n ρ' h2|.bk ρ'=>some (.nx ρ',h2)|.rt y=>some (.rt y,h2)) else some (.nx ρ,h1):=rfl
theorem yjG (lo:Int) (n:Nat):(ykj lo n).length=n:=by simp [ykj]
theorem yqr {lo:Int}{n i:Nat}{x:PV}(h:(ykj lo n)[i]?=some x):i<n/\x=.int (lo+i):=by
 have hl:=(List.getElem?_eq_some_iff.mp h).1
 rw [yjG] at hl
 refine ⟨hl,?_⟩
 simp [ykj,hl] at h
 exact h.symm
theorem yqs {a:XA}{ρ:PSt}{h h1:AH}{j:Int}(e:a ρ h=some ([.int j],h1)) (h0:-1000000000<=j) (h2:j<=1000000000):ysC a ρ h=some (ykj 0 j.toNat,h1):=by
 unfold ysC
 rw [e,ydi]
 show (if _ then _ else _)=_
 rw [if_pos ⟨h0,h2⟩]
theorem yhT {α:Type}{e:XE}{inn:PV->PSt}(f g:α->PV):∀ {ts:List α}{h:AH},(∀ t∈ts,e (inn (f t)) h=some (g t,h))->yki e inn (ts.map f) h=some (ts.map g,h)
 | [],_,_=>rfl
 | t::ts,h,k=>by
  show ob (e (inn (f t)) h) (fun y h1=>ob (yki e inn (ts.map f) h1) fun ys h2=>some (y::ys,h2))=_
  rw [k t mem_cons_self,ydi,yhT f g fun y hy=>k y (mem_cons_of_mem _ hy),ydi]
  rfl
theorem yff {i:Nat}{e:XE}{ρ:PSt}{h:AH}{xs:List PV}(hx:ρ[i]?=some (.own (.lst xs))):yfF i e ρ h=ob (e ρ h) fun x h1=>if xs.length<100000 then some (.nx (ρ.set i (.own (.lst (xs++[x])))),h1) else none:=by
 unfold yfF
 rw [hx]
theorem ysV {α:Type}{a0:α}{xs:List α}:atI (a0::xs) 0=some a0:=ydr (j:=0) rfl
theorem yxI {α:Type}{a0 a1:α}{xs:List α}:atI (a0::a1::xs) 1=some a1:=ydr (j:=1) rfl
theorem yxJ {α:Type}{a0 a1 a2:α}{xs:List α}:atI (a0::a1::a2::xs) 2=some a2:=ydr (j:=2) rfl
theorem yxK {α:Type}{a0 a1 a2 a3:α}{xs:List α}:atI (a0::a1::a2::a3::xs) 3=some a3:=ydr (j:=3) rfl
theorem yBQ {α:Type}{a0 a1 a2 a3 a4:α}{xs:List α}:atI (a0::a1::a2::a3::a4::xs) 4=some a4:=ydr (j:=4) rfl
theorem ywm {h:AH}{n:Nat}{xs:List PV}(e:h[n]?=some (.lst xs)):yhq [.loc n] h=some (.int xs.length,h):=by
 unfold yhq yqd
 simp only [e]
theorem yqt {h:AH}{n:Nat}{xs:List PV}(e:h[n]?=some (.lst xs)):yix (.loc n) h=true:=by
 unfold yix ycd
 simp only [e]
end PX
namespace PX
open PySem L2
variable {K:Ck}
section
variable {ta:TE}{ea:XE}
end
end PX
namespace PX
open PySem L2
variable {K:Ck}
end PX
namespace PX
open PySem L2
variable {K:Ck}
def Odd (K:PySem.W.Frag) (H:Hp):Prop:=∃ a o ob,H a=some o/\K.lookup a=some ob
inductive EqR (K:PySem.W.Frag) (H:Hp):Nat->V->V->Bool->Prop where
 | flat {n:Nat}{x y:V}(fx:ygc x=true) (fy:ygc y=true):EqR K H n x y (eqV x y)
 | same {n:Nat}{a:Addr}:EqR K H n (.ref a) (.ref a) true
 | odd {n:Nat}{x y:V}{b:Bool}(h:Odd K H):EqR K H n x y b
 | nt {n:Nat}{b:Addr}{ys:List V}(hb:SqT K H b ys):EqR K H (n+1) .non (.ref b) false
 | tn {n:Nat}{b:Addr}{ys:List V}(hb:SqT K H b ys):EqR K H (n+1) (.ref b) .non false
 | lst {n:Nat}{a b:Addr}{xs ys:List V}{e:Nat->Bool}(ha:H a=some (.lst xs)) (hb:H b=some (.lst ys)) (hl:xs.length=ys.length) (hne:a≠b) (he:∀ j x y,xs[j]?=some x->ys[j]?=some y->EqR K H n x y (e j)):EqR K H (n+1) (.ref a) (.ref b) ((List.range xs.length).all e)
 | lstN {n:Nat}{a b:Addr}{xs ys:List V}(ha:H a=some (.lst xs)) (hb:H b=some (.lst ys)) (hl:xs.length≠ys.length):EqR K H (n+1) (.ref a) (.ref b) false
 | tup {n:Nat}{a b:Addr}{xs ys:List V}{e:Nat->Bool}(ha:SqT K H a xs) (hb:SqT K H b ys) (hne:a≠b) (he:∀ j x y,xs[j]?=some x->ys[j]?=some y->EqR K H n x y (e j)):EqR K H (n+1) (.ref a) (.ref b) ((List.range (min xs.length ys.length)).all e && xs.length == ys.length)
inductive RcR (K:PySem.W.Frag) (H:Hp):V->V->Bool->Prop where
 | nt {b:Addr}{ys:List V}(hb:SqT K H b ys):RcR K H .non (.ref b) false
 | tn {b:Addr}{ys:List V}(hb:SqT K H b ys):RcR K H (.ref b) .non false
 | lst {a b:Addr}{xs ys:List V}{e:Nat->Bool}(ha:H a=some (.lst xs)) (hb:H b=some (.lst ys)) (hl:xs.length=ys.length) (he:∀ j x y,xs[j]?=some x->ys[j]?=some y->EqR K H 40 x y (e j)):RcR K H (.ref a) (.ref b) ((List.range xs.length).all e)
 | lstN {a b:Addr}{xs ys:List V}(ha:H a=some (.lst xs)) (hb:H b=some (.lst ys)) (hl:xs.length≠ys.length):RcR K H (.ref a) (.ref b) false
 | tup {a b:Addr}{xs ys:List V}{e:Nat->Bool}(ha:SqT K H a xs) (hb:SqT K H b ys) (he:∀ j x y,xs[j]?=some x->ys[j]?=some y->EqR K H 40 x y (e j)):RcR K H (.ref a) (.ref b) ((List.range (min xs.length ys.length)).all e && xs.length == ys.length)
def yFo (K:PySem.W.Frag):R2:=fun x y H Q=>∃ b,RcR K H x y b/\Q (.bl b) H
noncomputable def ylG (f:PV->PV->Option Bool):List PV->List PV->Option Bool
 | x::xs,y::ys=>(match f x y,ylG f xs ys with|some b,some c=>some (b && c)|_,_=>none)
 | _,_=>some true
def pairE (f:PV->PV->Option Bool) (h:AH) (x y:PV):Option Bool:=match x,y with
 | .tup xs,.tup ys=>(match ylG f xs ys with|some b=>some (b && xs.length == ys.length)|none=>none)
 | .non,.tup _=>some false
 | .tup _,.non=>some false
 | x,y=>(match ycd x h,ycd y h with|some xs,some ys=>if xs.length=ys.length then ylG f xs ys else some false|_,_=>none)
def eqP:Nat->AH->PV->PV->Option Bool
 | 0,_,_,_=>none
 | n+1,h,x,y=>match sv x,sv y with
  | some u,some v=>some (eqV u v)
  | _,_=>pairE (eqP n h) h x y
theorem ysW:∀ {v:V},ygc v=true->eqV v v=true
 | .non,_=>rfl
 | .bl b,_=>by cases b<;>rfl
 | .int i,_=>by simp [eqV]
 | .str s,_=>by simp [eqV]
noncomputable def unV:Value->Option V
 | .none=>some .non
 | .bool b=>some (.bl b)
 | .int i _=>some (.int i)
 | .str x _=>some (.str x)
 | .bytes b _=>some (.byt b)
 | .float b _=>some (.flt b)
 | .ref a=>some (.ref a)
 | .type n=>some (.ty n)
 | _=>none
theorem yun:∀ {v:V}{u:Value},RelV v u->unV u=some v
 | .non,_,h=>by rw [show _=Value.none from h];rfl
 | .bl _,_,h=>by rw [show _=Value.bool _ from h];rfl
 | .int _,_,⟨_,h⟩=>by rw [h];rfl
 | .str _,_,⟨_,h⟩=>by rw [h];rfl
 | .byt _,_,⟨_,h⟩=>by rw [h];rfl
 | .flt _,_,⟨_,h⟩=>by rw [h];rfl
 | .ref _,_,h=>by rw [show _=Value.ref _ from h];rfl
 | .ty _,_,h=>by rw [show _=Value.type _ from h];rfl
theorem ywn {v w:V}{u:Value}(h1:RelV v u) (h2:RelV w u):v=w:=Option.some.inj ((yun h1).symm.trans (yun h2))
theorem ysX {vs ws:List V}{us:List Value}(h1:Vals vs us):Vals ws us->vs=ws:=by
 induction h1 generalizing ws with
 | nil=>intro h2;cases h2;rfl
 | cons r _ ih=>intro h2;cases h2 with|cons r2 t2=>rw [ywn r r2,ih t2]
theorem yzN {F H:Hp}{a:Addr}{vs ws:List V}(s:Same F H) (h1:TpAt K.K F a vs) (h2:TpAt K.K F a ws):vs=ws\/Odd K.K H:=by
 rcases h1 with h1|⟨o,its,n,e1,e2,e3,e4,e5⟩
 .rcases h2 with h2|⟨o,its,n,e1,e2,e3,e4,e5⟩
  .rw [h1] at h2;cases h2;exact .inl rfl
  .exact .inr ⟨a,_,o,s _ _ h1,e1⟩
 .rcases h2 with h2|⟨o',its',n',e1',e2',e3',e4',e5'⟩
  .exact .inr ⟨a,_,o,s _ _ h2,e1⟩
  .rw [e1] at e1';cases e1'
   rw [e3] at e3';cases e3'
   exact .inl (ysX e5 e5')
theorem yhU {f:PV->PV->Option Bool}{W:Wd}(hf:∀ x y v b,f x y=some b->ydb K W x v->ydb K W y v->b=true\/Odd K.K W.H):∀ {xs ys:List PV}{vs:List V}{c:Bool},ydt K W xs vs->ydt K W ys vs->ylG f xs ys=some c->c=true\/Odd K.K W.H
 | [],_,_,_,_,_,e=>by simp [ylG] at e;exact .inl e
 | _::_,[],_,_,_,_,e=>by simp [ylG] at e;exact .inl e
 | x::xs,y::ys,_,c,⟨v,r,e1,h1,l1⟩,⟨u,q,e2,h2,l2⟩,e=>by
  rw [e1] at e2
  cases e2
  unfold ylG at e
  cases eb:f x y with
  | none=>rw [eb] at e;cases e
  | some b =>
   cases ec:ylG f xs ys with
   | none=>rw [eb,ec] at e;cases e
   | some c' =>
    rw [eb,ec] at e
    cases e
    rcases hf x y _ b eb h1 h2 with z|z
    .rcases yhU hf l1 l2 ec with z'|z'
     .exact .inl (by rw [z,z'];rfl)
     .exact .inr z'
    .exact .inr z
theorem yor {f:PV->PV->Option Bool}{W:Wd}(w:WOk K W) (hf:∀ x y v b,f x y=some b->ydb K W x v->ydb K W y v->b=true\/Odd K.K W.H) {x y:PV}{v:V}{b:Bool}(e:pairE f W.h x y=some b) (rx:ydb K W x v) (ry:ydb K W y v):b=true\/Odd K.K W.H:=by
 unfold pairE at e
 split at e
 .rename_i xs ys
  obtain ⟨a,vs,ev,ha,ra⟩:=rx
  obtain ⟨a',vs',ev',ha',ra'⟩:=ry
  rw [ev] at ev'
  cases ev'
  rcases yzN w.le ha ha' with z|z
  .subst z
   cases ec:ylG f xs ys with
   | none=>rw [ec] at e;cases e
   | some c =>
    rw [ec] at e
    cases e
    rcases yhU hf ra ra' ec with z|z
    .left
     rw [z,<- ra.len,<- ra'.len]
     simp
    .exact .inr z
  .exact .inr z
 .obtain ⟨a',vs',ev',ha',ra'⟩:=ry
  have rx:v=.non:=rx
  rw [rx] at ev';cases ev'
 .obtain ⟨a',vs',ev',ha',ra'⟩:=rx
  have ry:v=.non:=ry
  rw [ry] at ev';cases ev'
 .split at e
  .rename_i xs ys hx hy
   obtain ⟨a,vs,ev,ha,ra⟩:=ybi w hx rx
   obtain ⟨a',vs',ev',ha',ra'⟩:=ybi w hy ry
   rw [ev] at ev'
   cases ev'
   rw [ha] at ha'
   cases ha'
   rw [if_pos (by rw [<- ra.len,<- ra'.len])] at e
   exact yhU hf ra ra' e
  .cases e
theorem yjH {W:Wd}(w:WOk K W):∀ (n:Nat) (x y:PV) (v:V) (b:Bool),eqP n W.h x y=some b->ydb K W x v->ydb K W y v->b=true\/Odd K.K W.H
 | 0,_,_,_,_,e,_,_=>by cases e
 | n+1,x,y,v,b,e,rx,ry=>by
  unfold eqP at e
  split at e
  .rename_i u u' hu hu'
   cases e
   rw [<- yfL hu rx,<- yfL hu' ry]
   exact .inl (ysW (by rw [yfL hu rx];exact yjF hu))
  .exact yor w (yjH w n) e rx ry
theorem yhV {f:PV->PV->Option Bool}{W:Wd}{n:Nat}(hf:∀ x y v u b,f x y=some b->ydb K W x v->ydb K W y u->EqR K.K W.H n v u b):∀ {xs ys:List PV}{vs us:List V}{c:Bool},ydt K W xs vs->ydt K W ys us->ylG f xs ys=some c ->
  ∃ e:Nat->Bool,(∀ j v u,vs[j]?=some v->us[j]?=some u->EqR K.K W.H n v u (e j))/\c=(List.range (min vs.length us.length)).all e
 | [],_,_,_,c,h1,_,e=>by
  rw [show _=[] from h1]
  simp [ylG] at e
  exact ⟨fun _=>true,fun j v u hv=>by simp at hv,by simp [e]⟩
 | _::_,[],_,_,c,_,h2,e=>by
  rw [show _=[] from h2]
  simp [ylG] at e
  exact ⟨fun _=>true,fun j v u _ hu=>by simp at hu,by simp [e]⟩
 | x::xs,y::ys,_,_,c,⟨v,r,e1,h1,l1⟩,⟨u,q,e2,h2,l2⟩,e=>by
  subst e1 e2
  unfold ylG at e
  cases eb:f x y with
  | none=>rw [eb] at e;cases e
  | some b =>
   cases ec:ylG f xs ys with
   | none=>rw [eb,ec] at e;cases e
   | some c' =>
    rw [eb,ec] at e
    cases e
    obtain ⟨e',k1,k2⟩:=yhV hf l1 l2 ec
    refine ⟨fun j=>match j with|0=>b|j+1=>e' j,fun j v' u' hv hu=>?_,?_⟩
    .cases j with
     | zero =>
      simp at hv hu
      subst hv hu
      exact hf x y _ _ b eb h1 h2
     | succ j=>exact k1 j v' u' (by simpa using hv) (by simpa using hu)
    .rw [k2,length_cons,length_cons,show min (r.length+1) (q.length+1)=min r.length q.length+1 by omega,List.range_succ_eq_map,List.all_cons,List.all_map]
     rfl
theorem ynm {W:Wd}(w:WOk K W):∀ (n:Nat) (x y:PV) (v u:V) (b:Bool),eqP n W.h x y=some b->ydb K W x v->ydb K W y u->EqR K.K W.H n v u b
 | 0,_,_,_,_,_,e,_,_=>by cases e
 | n+1,x,y,v,u,b,e,rx,ry=>by
  have e0:=e
  unfold eqP at e
  split at e
  .rename_i v' u' hv hu
   cases e
   rw [yfL hv rx,yfL hu ry]
   exact .flat (yjF hv) (yjF hu)
  .unfold pairE at e
   split at e
   .rename_i xs ys _
    obtain ⟨a,vs,ev,ha,ra⟩:=rx
    obtain ⟨a',us,eu,ha',ra'⟩:=ry
    by_cases hab:a=a'
    .subst hab
     rcases yjH w (n+1) _ _ v b e0 ⟨a,vs,ev,ha,ra⟩ (by rw [ev,<- eu];exact ⟨a,us,eu,ha',ra'⟩) with this|z
     .rw [this,ev,eu]
      exact .same
     .exact .odd z
    .cases ec:ylG (eqP n W.h) xs ys with
     | none=>rw [ec] at e;cases e
     | some c =>
      rw [ec] at e
      cases e
      obtain ⟨e',k1,k2⟩:=yhV (ynm w n) ra ra' ec
      rw [ev,eu,k2,<- ra.len,<- ra'.len]
      exact .tup (ycF w ha) (ycF w ha') hab k1
   .obtain ⟨a',us,eu,ha',ra'⟩:=ry
    cases e
    rw [show v=.non from rx,eu]
    exact .nt (ycF w ha')
   .obtain ⟨a',us,eu,ha',ra'⟩:=rx
    cases e
    rw [show u=.non from ry,eu]
    exact .tn (ycF w ha')
   .split at e
    .rename_i xs ys hx hy
     obtain ⟨a,vs,ev,ha,ra⟩:=ybi w hx rx
     obtain ⟨a',us,eu,ha',ra'⟩:=ybi w hy ry
     by_cases hab:a=a'
     .subst hab
      rcases yjH w (n+1) _ _ v b e0 rx (by rw [ev,<- eu];exact ry) with this|z
      .rw [this,ev,eu]
       exact .same
      .exact .odd z
     .split at e
      .rename_i hl
       obtain ⟨e',k1,k2⟩:=yhV (ynm w n) ra ra' e
       have hl':vs.length=us.length:=by rw [ra.len,ra'.len,hl]
       rw [ev,eu,k2,<- hl',Nat.min_self]
       exact .lst ha ha' hl' hab k1
      .rename_i hl
       cases e
       rw [ev,eu]
       exact .lstN ha ha' (by rw [ra.len,ra'.len];exact hl)
    .cases e
def yzO:P2:=fun x y h=>match pairE (eqP 40 h) h x y with|some b=>some (.bl b,h)|none=>none
theorem ysY {W:Wd}(w:WOk K W) {x y:PV}{v u:V}{b:Bool}(e:pairE (eqP 40 W.h) W.h x y=some b) (rx:ydb K W x v) (ry:ydb K W y u):RcR K.K W.H v u b:=by
 unfold pairE at e
 split at e
 .rename_i xs ys
  obtain ⟨a,vs,ev,ha,ra⟩:=rx
  obtain ⟨a',us,eu,ha',ra'⟩:=ry
  cases ec:ylG (eqP 40 W.h) xs ys with
  | none=>rw [ec] at e;cases e
  | some c =>
   rw [ec] at e
   cases e
   obtain ⟨e',k1,k2⟩:=yhV (ynm w 40) ra ra' ec
   rw [ev,eu,k2,<- ra.len,<- ra'.len]
   exact .tup (ycF w ha) (ycF w ha') k1
 .obtain ⟨a',us,eu,ha',ra'⟩:=ry
  cases e
  rw [show v=.non from rx,eu]
  exact .nt (ycF w ha')
 .obtain ⟨a',us,eu,ha',ra'⟩:=rx
  cases e
  rw [show u=.non from ry,eu]
  exact .tn (ycF w ha')
 .split at e
  .rename_i xs ys hx hy
   obtain ⟨a,vs,ev,ha,ra⟩:=ybi w hx rx
   obtain ⟨a',us,eu,ha',ra'⟩:=ybi w hy ry
   split at e
   .rename_i hl
    obtain ⟨e',k1,k2⟩:=yhV (ynm w 40) ra ra' e
    have hl':vs.length=us.length:=by rw [ra.len,ra'.len,hl]
    rw [ev,eu,k2,<- hl',Nat.min_self]
    exact .lst ha ha' hl' k1
   .rename_i hl
    cases e
    rw [ev,eu]
    exact .lstN ha ha' (by rw [ra.len,ra'.len];exact hl)
  .cases e
theorem yzP:ycE K (yFo K.K) yzO:=by
 intro W x y v u Q z h' w rx ry e q
 unfold yzO at e
 split at e
 .rename_i b hb
  cases e
  exact ⟨b,ysY w hb rx ry,q _ W rfl (.refl w) rfl⟩
 .cases e
end PX
namespace PX
open PySem L2
variable {K:Ck}
def yhs:XS:=fun _ _=>none
theorem ysZ:yha K ypf yhs:=fun _ _ _ _ _ _ _ _ e _=>by cases e
def yu (k:Nat) (m:Str) (f:Fn) (e:XE) (as:XA):XE:=fun ρ h=>ob (e ρ h) fun x h1=>match yfG x h1 with
 | some (k',ns,_)=>if k'=k/\m∉ns then ob (as ρ h1) fun ys h2=>f (x::ys) h2 else none
 | none=>none
theorem ykQ {k n:Nat}{m:Str}{f:Fn}{ex:XK}{ta:TE}{t:TA}{ea:XE}{as:XA}(a:ycP K ta ea) (b:ylE K t as) (hn:∀ ρ h xs h',as ρ h=some (xs,h')->xs.length=n) :
  ycP K (yvq (K.A k) m (spE K (n+1) f) [] ex ta t) (yu k m f ea as):=by
 intro W0 W ρ σ Q z h' g e q
 obtain ⟨x,h1,e1,f1⟩:=yj e
 refine a W0 W ρ σ _ x h1 g e1 fun v W1 w1 l1 r1=>?_
 subst w1
 split at f1
 .rename_i k' ns xs hi
  split at f1
  .rename_i hc
   obtain ⟨ys,h2,e2,f2⟩:=yj f1
   obtain ⟨p,dx,vs,ev,hp,hl,rs⟩:=yek l1.ok hi r1
   rw [hc.1] at hp
   refine ⟨p,dx,_,ev,hp,yct hc.2,?_⟩
   refine b W0 W1 ρ σ _ ys h2 (g.step l1) e2 fun us W2 w2 l2 r2=>?_
   subst w2
   rw [append_nil]
   exact ⟨W2,x::ys,z,h',rfl,l2.ok,⟨v,us,rfl,l2.rep r1,r2⟩,by rw [length_cons,hn _ _ _ _ e2],f2,fun u W3 w3 l3 r3=>q u W3 w3 ((l1.trans l2).trans l3) r3⟩
  .cases f1
 .cases f1
def yta (cs:List Nat) (f:Str) (eo ev:XE):XS:=fun ρ h=>ob (ev ρ h) fun y h1=>ob (eo ρ h1) fun x h2=>match x with
 | .loc n=>(match h2[n]? with|some (.ins k ns xs)=>if k∈cs/\ns.length<1000 then some (.nx ρ,h2.set n (.ins k (putN f y ns xs).1 (putN f y ns xs).2)) else none|_=>none)
 | _=>none
theorem ytb {cs:List Nat}{f:Str}{ta tv:TE}{ea ev:XE}(hc:∀ k∈cs,Cls K.K (K.A k)/\NoAttr K.K (K.A k) f) (a:ycP K ta ea) (c:ycP K tv ev):yha K (yCf K.K ta tv f) (yta cs f ea ev):=by
 intro W0 W ρ σ D o h' g e q
 obtain ⟨y,h1,e1,f1⟩:=yj e
 obtain ⟨x,h2,e2,f2⟩:=yj f1
 refine c W0 W ρ σ _ y h1 g e1 fun vy W1 w1 l1 r1=>?_
 subst w1
 refine a W0 W1 ρ σ _ x h2 (g.step l1) e2 fun vx W2 w2 l2 r2=>?_
 subst w2
 have w:=l2.ok
 split at f2
 .rename_i n
  split at f2
  .rename_i k ns xs hn
   split at f2
   .rename_i hk
    cases f2
    obtain ⟨p,ep,hm,hf,dx,us,hp,hl,rs⟩:=w.loc hn r2
    obtain ⟨us',p1,p2,p3⟩:=rs.putN (f:=f) hl (l2.rep r1)
    refine ⟨p,_,dx,_,ep,hp,(hc k hk.1).1,(hc k hk.1).2,by rw [List.length_zip,hl];simpa using hk.2,?_⟩
    rw [p1]
    have l4:Le K W2 (yzM W2 n p (.ins (K.A k) dx ((putN f y ns xs).1.zip us')) (.ins k (putN f y ns xs).1 (putN f y ns xs).2)):=yjE w hn hm hf ⟨hf,dx,us',yba,p2,p3⟩
    have l:=l1.trans (l2.trans l4)
    exact q _ σ rfl l.lf (g.step l)
   .cases f2
  .cases f2
 .cases f2
end PX
namespace PX
open PySem L2
variable {K:Ck}
end PX
namespace PX
open PySem L2
variable {K:Ck}
section
variable {ta:TE}{ea:XE}{t:TS}{s:XS}
end
end PX
namespace PX
open PySem L2
variable {K:Ck}
end PX
namespace PX
open PySem L2
variable {K:Ck}
noncomputable def yzQ (J:It) (tc:TT) (te:TE) (inn:V->St) (D:Addr) (Q:VK) (H:Hp):Prop:=∃ W:Nat->Nat->Hp->Prop,(∃ m,W 0 m H)/\∀ i m H,W i m H ->
 (J.stop i H/\Q (.ref D) H)\/(J.go i H/\∀ x H',J.yld i H x H'->tc (inn x) H' fun b H1=>if b=true then te (inn x) H1 fun y H2=>∃ acc,H2 D=some (.lst acc)/\acc.length<sizeLine/\∃ m',m'<m/\W (i+1) m' (upd H2 D (.lst (acc++[y]))) else ∃ m',m'<m/\W (i+1) m' H1)
def ykR (wi:TI) (ix:List Nat) (tc:TT) (te:TE):TE:=fun σ H Q=>wi σ H fun J H1=>∀ D,H1 D=none->yzQ J tc te (inner ix σ) D Q (upd H1 D (.lst []))
end PX
namespace PX
open PySem L2
variable {K:Ck}
end PX
namespace PX
open PySem L2
variable {K:Ck}
section
variable {ta:TE}{ea:XE}{t:TS}{s:XS}
end
end PX
namespace PX
open PySem L2
variable {K:Ck}
theorem ytc {a:Addr}{ss:List Str}(h:KTp K.K a (ss.map V.str)):ycP K (tC (.ref a)) (xC (.tup (ss.map PV.str))):=by
 intro W0 W ρ σ Q x h' g e q
 cases e
 refine q _ W rfl (.refl g.ok) ⟨a,_,rfl,.inr h,?_⟩
 clear h q
 induction ss with
 | nil=>exact rfl
 | cons s ss ih=>exact ⟨_,_,rfl,rfl,ih⟩
end PX
namespace PX
open PySem L2
variable {K:Ck}
end PX
namespace PX
open PySem L2
variable {K:Ck}
end PX
namespace PX
open PySem L2
variable {K:Ck}
noncomputable def yqu (c:Nat):List Nat->List (List Nat)
 | []=>[[]]
 | k::r=>if k=c then []::yqu c r else match yqu c r with|[]=>[[k]]|w::ws=>(k::w)::ws
theorem ykS {c:Nat}:∀ {w:List Nat},c∉w->yqu c w=[w]
 | [],_=>rfl
 | k::r,h=>by
  have h1:k≠c:=fun z=>h (z ▸ mem_cons_self ..)
  unfold yqu
  rw [if_neg h1,ykS fun z=>h (mem_cons_of_mem _ z)]
theorem ynn {c:Nat}:∀ {w r:List Nat},c∉w->yqu c (w++c::r)=w::yqu c r
 | [],r,_=>by
  rw [List.nil_append]
  show (if c=c then []::yqu c r else _)=_
  rw [if_pos rfl]
 | k::w,r,h=>by
  have h1:k≠c:=fun z=>h (z ▸ mem_cons_self ..)
  rw [List.cons_append]
  show (if k=c then []::yqu c (w++c::r) else match yqu c (w++c::r) with|[]=>[[k]]|w::ws=>(k::w)::ws)=_
  rw [if_neg h1,ynn fun z=>h (mem_cons_of_mem _ z)]
def ymn (z:Str):List Str:=(yqu 32 z.cps.toList).map fun w=>⟨w.toArray⟩
theorem ygh:∀ (ws:List Str),ws≠[]->(∀ w∈ws,32∉w.cps.toList)->ymn (Str.join " " ws)=ws
 | [],h,_=>absurd rfl h
 | [w],_,h=>by
  have h1:=ykS (h w (List.mem_singleton.mpr rfl))
  show (yqu 32 w.cps.toList).map _=_
  rw [h1];rfl
 | w::v::r,_,h=>by
  have ih:=ygh (v::r) (fun z=>by cases z) fun u hu=>h u (mem_cons_of_mem _ hu)
  show ymn (w++" "++Str.join " " (v::r))=_
  have e:(w++(" ":Str)++Str.join " " (v::r)).cps.toList=w.cps.toList++32::(Str.join " " (v::r)).cps.toList:=by
   show (w.cps++(" ":Str).cps++(Str.join " " (v::r)).cps).toList=_
   rw [show (" ":Str).cps = #[32] by rfl']
   simp
  unfold ymn at ih ⊢
  rw [e,ynn (h w (mem_cons_self ..)),map_cons,ih]
def yqv:V->List V->Hp->VK->Prop:=fun x vs H Q=>∃ z:Str,x=.str z/\vs=[.str " "]/\z.length<=100000/\∀ p,H p=none->Q (.ref p) (upd H p (.lst ((ymn z).map V.str)))
def yhc:PM:=fun x xs h=>match x,xs with|.str z,[.str y]=>if y = " "/\z.length<=100000 then some (.lst ((ymn z).map .str),h) else none|_,_=>none
theorem RepL.of_strs {F:Hp}{m:List Addr}:∀ (ts:List Str),RepL K F m (ts.map PV.str) (ts.map V.str)
 | []=>rfl
 | _::ts=>⟨_,_,rfl,rfl,RepL.of_strs ts⟩
theorem m_split:yof K "str" isStr yqv yhc:=by
 refine ⟨fun W x v w r c=>?_,fun W x v xs vs Q z h' w rx r e q=>?_⟩
 .unfold isStr at c
  split at c
  .rw [show v=_ from r];rfl
  .cases c
 .unfold yhc at e
  split at e
  .rename_i z y
   split at e
   .rename_i c
    cases e
    obtain ⟨u,rfl,ru⟩:=ykL r
    have ru:u=.str y:=ru
    refine ⟨z,rx,by rw [ru,c.1],c.2,fun p hp=>?_⟩
    have l2:=ymh (o:=.lst ((ymn z).map V.str)) w hp
    exact q (.ref p) (yuc W p (.lst ((ymn z).map V.str))) rfl l2 ⟨p,_,rfl,yba,RepL.of_strs _⟩
   .cases e
  .cases e
theorem yqw {z:Str}{h:AH}(e:z.length<=100000):yhc (.str z) [.str " "] h=some (.lst ((ymn z).map .str),h):=by
 unfold yhc;exact if_pos ⟨rfl,e⟩
def yzR:List V->Hp->VK->Prop:=fun xs H Q=>yyJ xs H Q\/∃ z,xs=[.str z]/\Q (.str z) H
noncomputable def ymo:List PV->AH->Option (PV×AH):=fun xs h=>match xs with|[.int i]=>if i.natAbs.log2<1920 then some (.str (toString i:String),h) else none|[.str z]=>some (.str z,h)|_=>none
theorem yzS:ygg K yzR ymo:=by
 intro W xs vs Q z h' w r e q
 unfold ymo at e
 split at e
 .rename_i i
  split at e
  .rename_i hl
   cases e
   obtain ⟨v,rfl,rx⟩:=ykL r
   exact .inl ⟨i,by rw [show v=_ from rx],hl,q _ W rfl (.refl w) rfl⟩
  .cases e
 .rename_i z
  cases e
  obtain ⟨v,rfl,rx⟩:=ykL r
  exact .inr ⟨z,by rw [show v=_ from rx],q _ W rfl (.refl w) rfl⟩
 .cases e
theorem ywo {k:Int}{h:AH}:ymo [.int k] h=if k.natAbs.log2<1920 then some (.str (toString k:String),h) else none:=id rfl
variable {t:TS}{s:XS}
theorem ywp {i j:Nat}{ta:TA}{ea:XA}(a:ylE K ta ea):yha K (yEV i j ta) (ybc (yiO ea) (ysu 2 (yhn (yl i) (yhn (yl j) yvQ)))):=by
 intro W0 W ρ σ D o h' gd e q
 obtain ⟨x,h1,e1,f1⟩:=yj e
 obtain ⟨ρ',e2,f2⟩:=Option.bind_eq_some_iff.mp f1
 cases f2
 obtain ⟨xs,h2,e3,f3⟩:=yj e1
 split at f3
 .cases f3
  refine a W0 W ρ σ _ xs _ gd e3 fun vs W1 w1 l1 r1=>?_
  unfold ysu at e2
  simp only at e2
  split at e2
  .match xs,e2,r1 with
   | [x,y],e2,r1 =>
    cases e2
    obtain ⟨v,_,rfl,rv,w,_,rfl,rw,rr⟩:=r1
    obtain rfl:_=[]:=rr
    exact ⟨v,w,rfl,q W1 _ w1 l1.lf (((gd.step l1).set i rv).set j rw)⟩
   | [],e2,_=>cases e2
   | [_],e2,_=>cases e2
   | _::_::_::_,e2,_=>cases e2
  .cases e2
 .cases f3
end PX
namespace PX
open PySem L2
variable {K:Ck}
section
variable {F H:Hp}{m:List Addr}
end
variable {t:TA}{e:XA}
end PX
namespace PX
open PySem L2
variable {K:Ck}
end PX
namespace PX
open PySem L2
variable {K:Ck}
end PX
namespace PX
open PySem L2
variable {K:Ck}
end PX
namespace PX
open PySem L2
variable {K:Ck}
section
variable {ta:TE}{ea:XE}{t:TS}{s:XS}
end
end PX
namespace PX
open PySem L2
abbrev XR:=PSt->AH->Option (Str×AH)
abbrev FnR:=List PV->AH->Option (Str×AH)
def ywq (f:FnR) (a:XA):XR:=fun ρ h=>ob (a ρ h) f
def yV (k:Nat) (m:Str) (f:FnR) (e:XE) (as:XA):XR:=fun ρ h=>ob (e ρ h) fun x h1=>match yfG x h1 with
 | some (k',ns,_)=>if k'=k/\m∉ns then ob (as ρ h1) fun ys h2=>f (x::ys) h2 else none
 | none=>none
def yfg (c:Str) (e:XE):XR:=fun ρ h=>ob (e ρ h) fun _ h1=>some (c,h1)
def rIf (c:XT) (a b:XR):XR:=fun ρ h=>ob (c ρ h) fun k h1=>if k=true then a ρ h1 else b ρ h1
def rNo:XR:=fun _ _=>none
def yrE (s:XS) (r:XR):XR:=fun ρ h=>ob (s ρ h) fun o h1=>match o with|.nx ρ'=>r ρ' h1|_=>none
def ylH (N:Nat) (r:XR):FnR:=fun xs h=>r (xs.map .val++replicate (N-xs.length) .no) h
noncomputable def yzT (xc:List (Str×Str×Bool)) (xy:List (Str×String×Bool)) (k:Str) (c:PV):Option Bool:=match c with
 | .xcl c'=>(xc.find? fun r=>r.1 == k && r.2.1 == c').map (·.2.2)
 | .ty n=>(xy.find? fun r=>r.1 == k && r.2.1 == n).map (·.2.2)
 | _=>none
def ykT (tb:List (Nat×Nat×Bool)) (xc:List (Str×Str×Bool)) (xy:List (Str×String×Bool)):List PV->AH->Option (PV×AH):=fun xs h=>match xs with
 | [.exc k,c]=>(match yzT xc xy k c with|some b=>some (.bl b,h)|none=>none)
 | _=>yzr tb xs h
noncomputable def yxL (cs:List Str) (i:Nat) (r:XR) (s:XS):XS:=fun ρ h=>match r ρ h with
 | some (c,h1)=>if c∈cs then (match s (ρ.set i (.val (.exc c))) h1 with|some (.nx ρ',h2)=>some (.nx (ρ'.set i .no),h2)|_=>none) else none
 | none=>none
end PX
namespace PX
open PySem L2
end PX
namespace PX
open PySem L2
def yeD (s:XS) (r rest:XR):XR:=fun ρ h=>match s ρ h with|some (.nx ρ',h1)=>rest ρ' h1|some _=>none|none=>r ρ h
def ytd (c:XT) (b:XS) (r:XR):Nat->PSt->AH->Option (Str×AH)
 | 0,_,_=>none
 | n+1,ρ,h=>ob (c ρ h) fun k h1=>if k=true then (match b ρ h1 with|some (.nx ρ',h2)=>ytd c b r n ρ' h2|some _=>none|none=>r ρ h1) else none
def yno (n:Nat) (c:XT) (b:XS) (r:XR):XR:=fun ρ h=>ytd c b r n ρ h
end PX
namespace PX
open PySem L2
def yos (e:XE) (r:XR):XR:=fun ρ h=>ob (e ρ h) fun _ h1=>r ρ h1
def yot (i:Nat) (r:XR):XR:=fun ρ h=>match ρ[i]? with|some (.own (.lst _))=>r ρ h|_=>none
end PX
namespace PX
open PySem L2
variable {K:Ck}
abbrev XJ:=PSt->AH->Str->Option (Str×AH)
abbrev TJ:=Str->St->Hp->(Str->Hp->Prop)->Prop
end PX
namespace PX
open PySem L2
variable {K:Ck}
noncomputable def yFp:V->List V->Hp->VK->Prop:=fun x vs H Q=>∃ (l:Addr) (xs:List V) (i:Nat) (y:V),x=.ref l/\vs=[.int (i:Int),y]/\H l=some (.lst xs)/\i<=xs.length/\xs.length<100000/\Q .non (upd H l (.lst (xs.take i++y::xs.drop i)))
noncomputable def yzU:V->List V->Hp->VK->Prop:=fun x vs H Q=>∃ (l:Addr) (xs:List V) (i:Nat) (y:V),x=.ref l/\vs=[.int (i:Int)]/\H l=some (.lst xs)/\i<100000/\xs[i]?=some y/\Q y (upd H l (.lst (xs.eraseIdx i)))
noncomputable def ymp:PM:=fun x ys h=>match x,ys with|.loc n,[.int i,y]=>(match h[n]? with|some (.lst xs)=>if 0<=i/\i.toNat<=xs.length/\xs.length<100000 then some (.non,h.set n (.lst (xs.take i.toNat++y::xs.drop i.toNat))) else none|_=>none)|_,_=>none
noncomputable def yqx:PM:=fun x ys h=>match x,ys with|.loc n,[.int i]=>(match h[n]? with|some (.lst xs)=>if 0<=i/\i.toNat<100000 then (match xs[i.toNat]? with|some y=>some (y,h.set n (.lst (xs.eraseIdx i.toNat)))|none=>none) else none|_=>none)|_,_=>none
theorem yuo:yof K "list" yix yFp ymp:=by
 refine ⟨fun W x v w r c=>ynk w r c,fun W x v xs vs Q z h' w rx r e q=>?_⟩
 unfold ymp at e
 split at e
 .rename_i n i y
  split at e
  .rename_i ys hn
   split at e
   .rename_i hl
    cases e
    obtain ⟨v1,r1,rfl,q1,u,r2,rfl,ru,q3⟩:=r
    obtain rfl:r2=[]:=q3
    obtain rfl:v1=.int i:=q1
    obtain ⟨a,ev,hm,hf,us,hp,rs⟩:=w.loc hn rx
    have:=rs.len
    refine ⟨a,us,i.toNat,u,ev,by rw [Int.toNat_of_nonneg hl.1],hp,by omega,by omega,?_⟩
    exact q .non (yzM W n a (.lst (us.take i.toNat++u::us.drop i.toNat)) (.lst (ys.take i.toNat++y::ys.drop i.toNat))) rfl (yjE w hn hm hf ⟨hf,_,yba,(rs.take _).app ⟨u,_,rfl,ru,rs.drop _⟩⟩) rfl
   .cases e
  .cases e
 .cases e
theorem yzV:yof K "list" yix yzU yqx:=by
 refine ⟨fun W x v w r c=>ynk w r c,fun W x v xs vs Q z h' w rx r e q=>?_⟩
 unfold yqx at e
 split at e
 .rename_i n i
  split at e
  .rename_i ys hn
   split at e
   .rename_i hl
    split at e
    .rename_i y hy
     cases e
     obtain ⟨v1,rfl,q1⟩:=ykL r
     obtain rfl:v1=.int i:=q1
     obtain ⟨a,ev,hm,hf,us,hp,rs⟩:=w.loc hn rx
     obtain ⟨u,hu,ru⟩:=rs.get hy
     refine ⟨a,us,i.toNat,u,ev,by rw [Int.toNat_of_nonneg hl.1],hp,hl.2,hu,?_⟩
     refine q u (yzM W n a (.lst (us.eraseIdx i.toNat)) (.lst (ys.eraseIdx i.toNat))) rfl (yjE w hn hm hf ⟨hf,_,yba,?_⟩) ru
     rw [List.eraseIdx_eq_take_drop_succ,List.eraseIdx_eq_take_drop_succ]
     exact (rs.take _).app (rs.drop _)
    .cases e
   .cases e
  .cases e
 .cases e
def spK:Option (PV×AH)->Option (Nd×AH)
 | some (.lst ys,h)=>some (.lst ys,h)
 | _=>none
def yqy (a:XE) (aa:XA):XO:=fun ρ h=>ob (a ρ h) fun x h1=>if isStr x h1=true then ob (aa ρ h1) fun xs h2=>spK (yhc x xs h2) else none
theorem yte {ta:TE}{ea:XE}{t:TA}{e:XA}(b:ycP K ta ea) (a:ylE K t e):yoc K (tBM K.K "str" yqv ta t) (yqy ea e):=by
 intro W0 W ρ σ Q z h' g e' q
 obtain ⟨x,h1,e1,f1⟩:=yj e'
 split at f1
 .rename_i hc
  obtain ⟨xs,h2,e2,f2⟩:=yj f1
  refine b W0 W ρ σ _ x h1 g e1 fun v W1 w1 l1 r1=>⟨(m_split (K:=K)).1 W1 x v l1.ok r1 (by rw [w1];exact hc),?_⟩
  subst w1
  refine a W0 W1 ρ σ _ xs h2 (g.step l1) e2 fun vs W2 w2 l2 r2=>?_
  subst w2
  unfold yhc at f2
  split at f2
  .rename_i s y
   split at f2
   .rename_i c
    cases f2
    obtain ⟨u,rfl,ru⟩:=ykL r2
    have ru:u=.str y:=ru
    exact ⟨s,l2.rep r1,by rw [ru,c.1],c.2,fun p hp=>yxH l2.ok hp (RepL.of_strs _) (yfB (l1.trans l2) q)⟩
   .cases f2
  .cases f2
 .cases f1
theorem yzW {a:XE}{aa:XA}{ρ:PSt}{h:AH}:yqy a aa ρ h=ob (a ρ h) fun x h1=>if isStr x h1=true then ob (aa ρ h1) fun xs h2=>spK (yhc x xs h2) else none:=id rfl
end PX
namespace L2
open PySem PySem.Spec PyProof.Rows PX
def PTs (X:Cx) (cs:List Expr) (t:TT):Prop :=
 ∀ (pins:List (Addr×Obj)) (s:Shared) (σ:St) (H:Hp) (Q:Bool->Hp->Prop),Inv X pins σ H s->t σ H Q->wpAny (model X.prog X.w) X.A (forIn cs true fun c r=>if r=true then do let ok <- isTrue c X.env (eval c X.env);pure (ForInStep.yield ok) else pure (ForInStep.yield r)) (TP X pins σ Q) X.xe s
def yBR:TT:=fun _ H Q=>Q true H
theorem PTs.nil {X:Cx}:PTs X [] yBR:=fun p s σ H Q I q=>wpAny_tests_nil ⟨H,I,q⟩
theorem yqz {wi:TI}{ix:List Nat}{te:TE}:ykR wi ix yBR te=ysd wi ix te:=rfl
theorem yDv {X:Cx}{e:Expr}{wi:TI}{ix:List Nat}{te:TE}(h:PE X e (ykR wi ix yBR te)):PE X e (ysd wi ix te):=yqz ▸ h
theorem yDw {X:Cx}{e:Stmt}{wi:TI}{ix:List Nat}{te:TE}{g:TG}(h:PS X e (ytR (ykR wi ix yBR te) g)):PS X e (ytR (ysd wi ix te) g):=yqz ▸ h
theorem ytf {X:Cx}{elt iter:Expr}{cs:List Expr}{tc:TT}{x:Str}{px:Pos}{scope:Scope}{cpos:Pos}{wi:TI}{te:TE}(ix:List Nat) (fr:List Str) (hc:X.calm=true) (hi:PI X (.Name x px) iter wi) (hfr:FrOk X scope ix fr)
  (he:∀ (cl:List (Str×Addr)) (C:Addr) (s₃:Shared) (H₃:Hp) (fp:List Addr) (pins:List (Addr×Obj)),PE (cxC X scope cl C (x::fr) s₃ H₃ fp pins) elt te)
  (hq:∀ (cl:List (Str×Addr)) (C:Addr) (s₃:Shared) (H₃:Hp) (fp:List Addr) (pins:List (Addr×Obj)),PTs (cxC X scope cl C (x::fr) s₃ H₃ fp pins) cs tc)
  (hnd:(x::fr).Nodup) (hkind:scope.kind=.function) (hcell:∀ y∈scope.names,y.2≠.cell)
  (hnames:∀ y∈scope.names,y.2=.local->scope.names.lookup y.1=some .local) (hfree0:∀ y∈scope.names,y.2=.free->y.1∈fr) (hx:scope.names.lookup x=some .local)
  (hs:∀ v,foldedSetIterable iter X.env v=pure v):PE X (.ListComp elt [⟨.Name x px,iter,cs,0⟩] scope cpos) (ykR wi ix tc te):=by
 intro pins s σ H Q I h
 have hfn:X.env.scope.kind=.function:=I.ok.kind
 have hfree:∀ y∈scope.names,y.2=.free->X.env.kindOf y.1=some .cell/\scope.names.lookup y.1=some .free:=fun y hy e=>by
  obtain ⟨j,hj,ej⟩:=getElem_of_mem (hfree0 y hy e)
  obtain ⟨i,_,_,h3,h4⟩:=hfr.get (j:=j) (y:=y.1) (by rw [List.getElem?_eq_getElem hj,ej])
  exact ⟨h4,h3⟩
 obtain ⟨cl,ecl,hcl1,hcl2⟩:=ydT (env:=X.env) scope.names [] fun n hn=>I.ok.has n (.inl (hfree _ hn rfl).1)
 have hclos:closureFor scope X.env=pure cl:=by
  unfold closureFor
  have:(forIn scope.names ([]:List (Str×Addr)) (fun (x:Str×NameKind) (r:List (Str×Addr))=>if (x.2 == NameKind.free)=true then do let c <- cellOf X.env x.1;pure (ForInStep.yield ((x.1,c)::r)) else pure (ForInStep.yield r)):Sem (List (Str×Addr)))=pure cl:=ecl
  first
   | exact (by simpa using congrArg (· >>= fun r=>pure r) this)
   | (rw [show (pure cl:Sem (List (Str×Addr)))=(pure cl >>= fun r=>pure r) from rfl,<- this];rfl)
 have hcle:∀ y c,cl.lookup y=some c->X.env.cells.lookup y=some c/\(y,NameKind.free)∈scope.names:=fun y c e=>by
  by_cases hy:(y,NameKind.free)∈scope.names
  .exact ⟨by rw [<- hcl1 y hy];exact e,hy⟩
  .rw [hcl2 y hy] at e;simp at e
 rw [eval_ListComp]
 refine wpAny_comprehension_free (use:=none) rfl hs hclos hkind hnames ?_
 refine thn (hi pins s σ H _ I h) fun v s1 h1=>thn h1 fun itv s2 h2=>?_
 obtain ⟨it,fp,tn,J,H2,e,I2,T,st2,f2,q2⟩:=h2
 subst e
 refine wpAny_newObj_type ?_
 generalize hs3:({ s2 with heap:=s2.heap.push { cls:=.type "list",dict:=none,data:=.seq ([]:List Value).toArray } }:Shared)=s3
 generalize hD:s2.heap.objs.size=D
 have hDn:H2 D=none:=by rw [<- hD];exact I2.hok.fresh (Nat.le_refl _)
 have I3:Inv X pins σ (upd H2 D (.lst [])) s3:=by
  rw [<- hs3,<- hD]
  exact I2.lnew (t':=s2.toks) (ys:=[]) (its:=[]) .nil (zero_le _)
 have k3:∀ b o,s2.heap.get? b=some o->s3.heap.get? b=some o:=fun b o e=>by rw [<- hs3];exact Heap.get?_push_of_some _ e
 have st3:tn 0 s3.heap:=T.keep _ _ _ st2 fun b _ o e=>k3 b o e
 have fne:∀ b∈fp,b≠D:=fun b hb=>by
  obtain ⟨o,e,_⟩:=T.obj _ _ st2 b hb
  rw [<- hD]
  exact ne_of_lt (Heap.lt_size e)
 have f3:∀ b∈fp,ypi X pins (upd H2 D (.lst [])) b:=fun b hb=>⟨by rw [yR (fne b hb)];exact (f2 b hb).1,(f2 b hb).2⟩
 have q3:=q2 D hDn
 generalize upd H2 D (.lst [])=H3 at I3 f3 q3
 obtain ⟨W,⟨m0,w0⟩,turn⟩:=q3
 refine wpAny_newFunctionEnv hcell (by intro y hy;simp at hy) (fun h4 hns hsb=>?_) hkind
 try dsimp only at hns hsb ⊢
 generalize hC:s3.heap.objs.size=C at hns hsb ⊢
 have k4:∀ b o,s3.heap.get? b=some o->h4.get? b=some o:=fun b o e=>(hsb.2 b (by rw [<- hC];exact ne_of_lt (Heap.lt_size e))).trans (Heap.get?_push_of_some _ e)
 have Cne:∀ b o,s3.heap.get? b=some o->b≠C:=fun b o e=>by rw [<- hC];exact ne_of_lt (Heap.lt_size e)
 have stk:=I3.stkSub
 have pinF:∀ p∈X.pn++pins,p.1∉frs X.stack:=fun p hp z=>by
  obtain ⟨_,_,n1,n2,_⟩:=I3.pin p hp
  rcases mem_cons.mp (stk _ z) with z|z
  .exact n1 z
  .exact n2 z
 have okC:(cxC X scope cl C (x::fr) s3 H3 fp pins).Ok:=by
  refine ⟨I3.ok.mod,by show (relabel scope X.env).kind=_;exact hkind,I3.ok.glob,I3.ok.blt,le_of_eq hC,fun y z c h1 h2=>I3.ok.inj y z c (hcle y c h1).1 (hcle z c h2).1,fun y hy=>?_,fun y c hf _=>(by cases hf),I3.ok.hd,I3.ok.frames,.inl rfl,fun b hb=>⟨?_,fun y c e z=>?_⟩,I3.bs,?_,fun b o e hb=>?_,fun b hb z=>?_,I3.stack,I3.stkFree⟩
  .have hy:((relabel scope X.env).names.lookup y=some .cell)\/((relabel scope X.env).names.lookup y=some .free):=hy
   rw [show (relabel scope X.env).names.lookup y=_ from ycG y scope.names] at hy
   cases e:scope.names.lookup y with
   | none=>rw [e] at hy;simp at hy
   | some k =>
    have hm:(y,k)∈scope.names:=PySem.mem_of_lookup e
    have hkf:k=.free:=by
     rw [e] at hy
     cases k<;>simp at hy ⊢
     exact absurd rfl (hcell _ hm)
    subst hkf
    obtain ⟨c,hc'⟩:=I3.ok.has y (.inl (hfree _ hm rfl).1)
    exact ⟨c,by show cl.lookup y=_;rw [hcl1 y hm];exact hc'⟩
  .obtain ⟨o,e,_⟩:=T.obj _ _ st3 b hb
   exact Cne b o e
  .exact (f3 b hb).2.2.2.2.1 y c (hcle y c e).1 z
  .exact Nat.le_trans I3.ok.bsz I3.sz
  .rcases (f3 b hb).2.2.2.1 with z|z
   .exact I3.ok.noex b o e z
   .exact absurd (lt_of_lt_of_le (Heap.lt_size e) (Nat.le_trans I3.ok.bsz z)) (lt_irrefl _)
  .rcases mem_cons.mp (stk _ z) with z|z
   .exact (f3 b hb).2.1 z
   .exact (f3 b hb).2.2.1 z
 have inn:∀ v,(inner ix σ v)=some v::ix.map fun i=>(σ[i]?).getD none:=fun _=>rfl
 have I4:Inv (cxC X scope cl C (x::fr) s3 H3 fp pins) [] (none::ix.map fun i=>(σ[i]?).getD none) H3 { s3 with heap:=h4,toks:=s3.toks+([]:List (Str×Value)).length }:=by
  refine ⟨okC,rfl,I3.bare,Un.kept k4,⟨_,hns,fun j y v e1 e2 e3=>?_⟩,fun y c e=>?_,I3.hok.fresh (le_of_eq hC),fun y c e=>I3.freeC y c (hcle y c e).1,fun p hp=>?_,I3.hok.kept k4,?_⟩
  .match j,e1,e2 with
   | 0,e1,e2=>simp at e2
   | j+1,e1,e2 =>
    obtain ⟨i,hi1,hi2,hi3,hi4⟩:=hfr.get (j:=j) (y:=y) (by have e1':(x::fr)[j+1]?=some y:=e1;simpa using e1')
    have e2':σ[i]?=some (some v):=by
     have e2:(ix.map fun i=>(σ[i]?).getD none)[j]?=some (some v):=by simpa using e2
     rw [getElem?_map,hi1] at e2
     simp at e2
     cases z:σ[i]? with
     | none=>rw [z] at e2;simp at e2
     | some o=>rw [z] at e2;simp at e2;rw [e2]
    obtain ⟨m,_,hl⟩:=I3.loc
    obtain ⟨u,r,l⟩:=hl i y v hi2 e2' (.inr (.inl hi4))
    refine ⟨u,r,?_⟩
    rcases l with ⟨k,_⟩|⟨k,c,ec,z⟩
    .rw [hi4] at k;cases k
    .have hm:(y,NameKind.free)∈scope.names:=PySem.mem_of_lookup hi3
     refine .inr ⟨.inl ?_,c,by show cl.lookup y=_;rw [hcl1 y hm];exact ec,?_⟩
     .show (relabel scope X.env).names.lookup y=_
      rw [show (relabel scope X.env).names.lookup y=_ from ycG y scope.names,hi3]
      simp [hfn,hi4]
     .obtain ⟨o,ho,hd⟩:=z
      exact ⟨o,k4 _ _ ho,hd⟩
  .obtain ⟨v,o,ho,hd⟩:=I3.cell y c (hcle y c e).1
   exact ⟨v,o,k4 _ _ ho,hd⟩
  .have hp:p∈X.pn++pins:=by simpa [cxC] using hp
   obtain ⟨e,n,ne,nf,d⟩:=I3.pin p hp
   exact ⟨k4 _ _ e,n,Cne _ _ e,pinF p hp,d⟩
  .show (none::ix.map fun i=>(σ[i]?).getD none).length=(x::fr).length
   rw [length_cons,length_cons,length_map,hfr.len]
 have st4:tn 0 h4:=T.keep _ _ _ st3 fun b _ o e=>k4 b o e
 have f4:∀ b∈fp,b≠C/\b∉frs X.stack/\(∀ y c,cl.lookup y=some c->c≠b)/\∀ p∈(X.pn++pins)++([]:List (Addr×Obj)),p.1≠b:=fun b hb=>by
  obtain ⟨o,e,_⟩:=T.obj _ _ st3 b hb
  refine ⟨Cne b o e,fun z=>?_,fun y c e=>(f3 b hb).2.2.2.2.1 y c (hcle y c e).1,fun p hp=>(f3 b hb).2.2.2.2.2 p (by simpa using hp)⟩
  rcases mem_cons.mp (stk _ z) with z|z
  .exact (f3 b hb).2.1 z
  .exact (f3 b hb).2.2.1 z
 have stat:∀ {H':Hp},(∀ b∈fp,H' b=none)->∀ b∈fp,ypi (cxC X scope cl C (x::fr) s3 H3 fp pins) [] H' b:=fun hn b hb=>⟨hn b hb,(f4 b hb).1,(f4 b hb).2.1,.inl hb,(f4 b hb).2.2.1,(f4 b hb).2.2.2⟩
 have fin:∀ {σ':St}{H':Hp}{s':Shared},Inv (cxC X scope cl C (x::fr) s3 H3 fp pins) [] σ' H' s'->Q (.ref D) H'->compPost (model X.prog X.w) X.A X.xe none (EP X pins σ Q) (.ref D) C (.ok .next) s':=fun {σ' H' s'} I' q'=>by
  obtain ⟨m,hn,_⟩:=I'.loc
  refine ⟨m,hn,fun h' sb=>⟨.ref D,H',?_,rfl,q'⟩⟩
  have hCn:H' C=none:=I'.free
  have same:∀ b,b≠C->h'.get? b=s'.heap.get? b:=fun b hb=>sb.2 b hb
  have U:=I'.base
  have U':Un (frs X.stack) fp H3 H' s3.heap h':=by
   refine ⟨fun b o e n h1 h2=>?_,fun b o e n h1 h2=>?_,U.free,fun b o e h2=>?_,U.tups,U.frzs,U.tbls⟩
   .rw [same b (Cne b o e)];exact U.keep b o e n h1 h2
   .rw [same b (Cne b o e)];exact U.slot b o e n h1 h2
   .rw [same b (Cne b o e)];exact U.there b o e h2
  refine I3.call' (s':={ s' with heap:=h' }) (by show s'.os=s3.os;exact I'.os) U' ?_ I'.bare fun b hb=>⟨(f3 b hb).2.2.2.1,(f3 b hb).2.1,(f3 b hb).2.2.2.2.1,(f3 b hb).2.2.2.2.2⟩
  intro b ob e
  refine (I'.hok b ob e).stay (fun c w' hc q=>?_) (fun _ q=>q) fun _ _ q=>q
  show h'.get? c=_
  rw [same c ?_]
  .exact q
  rintro rfl
  rcases hc with rfl|hc
  .rw [hCn] at e;cases e
  .rw [hCn] at hc;cases hc
 have loop:∀ s5:Shared,s5={ s3 with heap:=h4,toks:=s3.toks+([]:List (Str×Value)).length } ->
   codeAny (model X.prog X.w) X.A (.compLoop (.ListComp elt [⟨.Name x px,iter,cs,0⟩] scope cpos) 0 (.ref it) (.ref D) (compEnvC scope cl C X.env)) (compPost (model X.prog X.w) X.A X.xe none (EP X pins σ Q) (.ref D) C) s5:=by
  rintro s5 rfl
  refine codeAny_loop rfl (fun n s'=>∃ i o H',Inv (cxC X scope cl C (x::fr) s3 H3 fp pins) [] (o::ix.map fun i=>(σ[i]?).getD none) H' s'/\tn i s'.heap/\(∀ b∈fp,H' b=none)/\W i n H') ?_ m0 ⟨0,none,H3,I4,st4,fun b hb=>(f3 b hb).1,w0⟩
  rintro n s6 ⟨i,o,H6,I6,st6,fr6,w6⟩
  show wpAny _ _ ((compTurn (.ListComp elt [⟨.Name x px,iter,cs,0⟩] scope cpos) 0 (.ref it) (.ref D) (compEnvC scope cl C X.env)).onRaise (fun x=>do noteFrame x (compEnvC scope cl C X.env);theTreesLotGoes x)) _ _ s6
  refine wpAny_noted ?_
  rw [compTurn_list]
  rcases turn i n H6 w6 with ⟨stop,qn⟩|⟨go,step⟩
  .refine wpAny_bind (wpAny_standAt (wpAny_bind (thn (T.done (cxC X scope cl C (x::fr) s3 H3 fp pins) rfl rfl rfl hc i [] s6 _ H6 _ I6 (stat fr6) st6 stop) fun r s7 ⟨hr,I7⟩=>?_)))
   subst hr
   exact wpAny_pure (fin I7 qn)
  .refine wpAny_bind (wpAny_standAt (wpAny_bind (thn (T.item (cxC X scope cl C (x::fr) s3 H3 fp pins) rfl rfl rfl hc i [] s6 _ H6 _ I6 (stat fr6) st6 go) fun r s7 ⟨u,hr,h7⟩=>?_)))
   subst hr
   refine wpAny_bind (thn h7 fun _ s8 ⟨y,H8,I8,r8,y8,st8,fr8⟩=>?_)
   have I8':=I8.pinned (stat fr8) (T.obj _ _ st8)
   have hx':Loc (cxC X scope cl C (x::fr) s3 H3 fp pins).env.scope x:=.inl (lookup_relabel_local hx)
   refine wpAny_bind (wpAny_mono (yjs (X:=cxC X scope cl C (x::fr) s3 H3 fp pins) (i:=0) (x:=x) (pos:=px) hnd rfl hx' (.inr (lookup_relabel_local hx)) _ s8 _ H8 y u (fun σ9 H9=>σ9=inner ix σ y/\H9=H8) I8' r8 ⟨rfl,rfl⟩) (fun _ s9 ⟨σ9,H9,I9,e9,e9'⟩=>?_) fun _ _ f=>f.elim)
   subst e9 e9'
   refine wpAny_bind (wpAny_mono (hq cl C s3 H3 fp pins _ s9 _ _ _ I9 (step y _ y8)) (fun kb s9b hkb=>?_) fun _ _ f=>f.elim)
   obtain ⟨H9b,I9b,q9b⟩:=hkb
   cases kb with
   | false =>
    rw [if_neg (by decide)] at q9b
    obtain ⟨m',hm',w10⟩:=q9b
    refine wpAny_pure ⟨rfl,m',hm',i+1,some y,_,I9b.unpinned,T.keep _ _ _ st8 fun b hb o e=>(I9b.pin (b,o) (mem_append_right _ (mem_append_right _ (ybV hb e)))).1,fun b hb=>?_,w10⟩
    obtain ⟨o,e,d⟩:=T.obj _ _ st8 b hb
    exact (I9b.pin (b,o) (mem_append_right _ (mem_append_right _ (ybV hb e)))).2.1
   | true =>
   rw [if_pos rfl] at q9b
   refine wpAny_bind (wpAny_bind (wpAny_mono (he cl C s3 H3 fp pins _ s9b _ _ _ I9b q9b) (fun v s10 ⟨z,H10,I10,r10,acc,a10,l10,m',hm',w10⟩=>?_) fun _ _ f=>f.elim))
   refine wpAny_bind (wpAny_mono (ygd (X:=cxC X scope cl C (x::fr) s3 H3 fp pins) _ s10 _ H10 (.ref D) [z] (.ref D) [v] (fun _ H11=>H11=upd H10 D (.lst (acc++[z]))) I10 rfl (.cons r10 .nil) ⟨D,acc,z,rfl,rfl,a10,l10,rfl⟩) (fun _ s11 ⟨_,H11,I11,_,e11⟩=>?_) fun _ _ f=>f.elim)
   subst e11
   refine wpAny_pure (wpAny_pure ⟨rfl,m',hm',i+1,some y,_,I11.unpinned,T.keep _ _ _ st8 fun b hb o e=>(I11.pin (b,o) (mem_append_right _ (mem_append_right _ (ybV hb e)))).1,fun b hb=>?_,w10⟩)
   obtain ⟨o,e,d⟩:=T.obj _ _ st8 b hb
   exact (I11.pin (b,o) (mem_append_right _ (mem_append_right _ (ybV hb e)))).2.1
 exact codeAny_compStart_list (loop _ rfl) (T.self X.A 0 _ _ _ st4 (loop _ rfl))
theorem ytg {y:Str}{py spos:Pos}{iy:Nat}{X:Cx}{elt iter:Expr}{cs:List Expr}{tc:TT}{x:Str}{px:Pos}{scope:Scope}{cpos:Pos}{wi:TI}{te:TE}(ix:List Nat) (fr:List Str) (hc:X.calm=true) (hi:PI X (.Name x px) iter wi) (hfr:FrOk X scope ix fr)
  (he:∀ (cl:List (Str×Addr)) (C:Addr) (s₃:Shared) (H₃:Hp) (fp:List Addr) (pins:List (Addr×Obj)),PE (cxC X scope cl C (x::fr) s₃ H₃ fp pins) elt te)
  (hq:∀ (cl:List (Str×Addr)) (C:Addr) (s₃:Shared) (H₃:Hp) (fp:List Addr) (pins:List (Addr×Obj)),PTs (cxC X scope cl C (x::fr) s₃ H₃ fp pins) cs tc)
  (hnd:(x::fr).Nodup) (hkind:scope.kind=.function) (hcell:∀ y∈scope.names,y.2≠.cell)
  (hnames:∀ y∈scope.names,y.2=.local->scope.names.lookup y.1=some .local) (hfree0:∀ y∈scope.names,y.2=.free->y.1∈fr) (hx:scope.names.lookup x=some .local)
  (hs:∀ v,foldedSetIterable iter X.env v=pure v)
  (hN:X.N.Nodup) (hyi:X.N[iy]?=some y) (hyx:Loc X.env.scope y) (hyf:X.fn y=true\/X.env.scope.names.lookup y=some .local) (hsw:swapsWith (.ListComp elt [⟨.Name x px,iter,cs,0⟩] scope cpos) (some (.Name y py)) spos.line X.env=pure true) :
  PS X (.Assign [.Name y py] (.ListComp elt [⟨.Name x px,iter,cs,0⟩] scope cpos) spos) (ytR (ykR wi ix tc te) (ynP iy)):=by
 intro pins s σ H D0 I h
 have hfn:X.env.scope.kind=.function:=I.ok.kind
 have hfree:∀ y∈scope.names,y.2=.free->X.env.kindOf y.1=some .cell/\scope.names.lookup y.1=some .free:=fun y hy e=>by
  obtain ⟨j,hj,ej⟩:=getElem_of_mem (hfree0 y hy e)
  obtain ⟨i,_,_,h3,h4⟩:=hfr.get (j:=j) (y:=y.1) (by rw [List.getElem?_eq_getElem hj,ej])
  exact ⟨h4,h3⟩
 obtain ⟨cl,ecl,hcl1,hcl2⟩:=ydT (env:=X.env) scope.names [] fun n hn=>I.ok.has n (.inl (hfree _ hn rfl).1)
 have hclos:closureFor scope X.env=pure cl:=by
  unfold closureFor
  have:(forIn scope.names ([]:List (Str×Addr)) (fun (x:Str×NameKind) (r:List (Str×Addr))=>if (x.2 == NameKind.free)=true then do let c <- cellOf X.env x.1;pure (ForInStep.yield ((x.1,c)::r)) else pure (ForInStep.yield r)):Sem (List (Str×Addr)))=pure cl:=ecl
  first
   | exact (by simpa using congrArg (· >>= fun r=>pure r) this)
   | (rw [show (pure cl:Sem (List (Str×Addr)))=(pure cl >>= fun r=>pure r) from rfl,<- this];rfl)
 have hcle:∀ y c,cl.lookup y=some c->X.env.cells.lookup y=some c/\(y,NameKind.free)∈scope.names:=fun y c e=>by
  by_cases hy:(y,NameKind.free)∈scope.names
  .exact ⟨by rw [<- hcl1 y hy];exact e,hy⟩
  .rw [hcl2 y hy] at e;simp at e
 rw [exec_Assign_Name_used _ _ _ _ hsw]
 refine wpAny_bind (wpAny_standAt (wpAny_bind ?_))
 show wpAny _ X.A (do let _ <- comprehension (.ListComp elt [⟨.Name x px,iter,cs,0⟩] scope cpos) scope X.env _ (newList []) false (eval iter X.env) (some (assign (.Name y py) X.env))) _ _ s
 refine wpAny_bind (wpAny_mono (wpAny_comprehension_free (use:=some (assign (.Name y py) X.env)) (Q:=fun _ s'=>SP X pins D0 .next s') rfl hs hclos hkind hnames ?_) (fun _ s' hq=>wpAny_pure (wpAny_pure hq)) fun _ _ e=>e)
 refine thn (hi pins s σ H _ I h) fun v s1 h1=>thn h1 fun itv s2 h2=>?_
 obtain ⟨it,fp,tn,J,H2,e,I2,T,st2,f2,q2⟩:=h2
 subst e
 refine wpAny_newObj_type ?_
 generalize hs3:({ s2 with heap:=s2.heap.push { cls:=.type "list",dict:=none,data:=.seq ([]:List Value).toArray } }:Shared)=s3
 generalize hD:s2.heap.objs.size=D
 have hDn:H2 D=none:=by rw [<- hD];exact I2.hok.fresh (Nat.le_refl _)
 have I3:Inv X pins σ (upd H2 D (.lst [])) s3:=by
  rw [<- hs3,<- hD]
  exact I2.lnew (t':=s2.toks) (ys:=[]) (its:=[]) .nil (zero_le _)
 have k3:∀ b o,s2.heap.get? b=some o->s3.heap.get? b=some o:=fun b o e=>by rw [<- hs3];exact Heap.get?_push_of_some _ e
 have st3:tn 0 s3.heap:=T.keep _ _ _ st2 fun b _ o e=>k3 b o e
 have fne:∀ b∈fp,b≠D:=fun b hb=>by
  obtain ⟨o,e,_⟩:=T.obj _ _ st2 b hb
  rw [<- hD]
  exact ne_of_lt (Heap.lt_size e)
 have f3:∀ b∈fp,ypi X pins (upd H2 D (.lst [])) b:=fun b hb=>⟨by rw [yR (fne b hb)];exact (f2 b hb).1,(f2 b hb).2⟩
 have q3:=q2 D hDn
 generalize upd H2 D (.lst [])=H3 at I3 f3 q3
 obtain ⟨W,⟨m0,w0⟩,turn⟩:=q3
 refine wpAny_newFunctionEnv hcell (by intro y hy;simp at hy) (fun h4 hns hsb=>?_) hkind
 try dsimp only at hns hsb ⊢
 generalize hC:s3.heap.objs.size=C at hns hsb ⊢
 have k4:∀ b o,s3.heap.get? b=some o->h4.get? b=some o:=fun b o e=>(hsb.2 b (by rw [<- hC];exact ne_of_lt (Heap.lt_size e))).trans (Heap.get?_push_of_some _ e)
 have Cne:∀ b o,s3.heap.get? b=some o->b≠C:=fun b o e=>by rw [<- hC];exact ne_of_lt (Heap.lt_size e)
 have stk:=I3.stkSub
 have pinF:∀ p∈X.pn++pins,p.1∉frs X.stack:=fun p hp z=>by
  obtain ⟨_,_,n1,n2,_⟩:=I3.pin p hp
  rcases mem_cons.mp (stk _ z) with z|z
  .exact n1 z
  .exact n2 z
 have okC:(cxC X scope cl C (x::fr) s3 H3 fp pins).Ok:=by
  refine ⟨I3.ok.mod,by show (relabel scope X.env).kind=_;exact hkind,I3.ok.glob,I3.ok.blt,le_of_eq hC,fun y z c h1 h2=>I3.ok.inj y z c (hcle y c h1).1 (hcle z c h2).1,fun y hy=>?_,fun y c hf _=>(by cases hf),I3.ok.hd,I3.ok.frames,.inl rfl,fun b hb=>⟨?_,fun y c e z=>?_⟩,I3.bs,?_,fun b o e hb=>?_,fun b hb z=>?_,I3.stack,I3.stkFree⟩
  .have hy:((relabel scope X.env).names.lookup y=some .cell)\/((relabel scope X.env).names.lookup y=some .free):=hy
   rw [show (relabel scope X.env).names.lookup y=_ from ycG y scope.names] at hy
   cases e:scope.names.lookup y with
   | none=>rw [e] at hy;simp at hy
   | some k =>
    have hm:(y,k)∈scope.names:=PySem.mem_of_lookup e
    have hkf:k=.free:=by
     rw [e] at hy
     cases k<;>simp at hy ⊢
     exact absurd rfl (hcell _ hm)
    subst hkf
    obtain ⟨c,hc'⟩:=I3.ok.has y (.inl (hfree _ hm rfl).1)
    exact ⟨c,by show cl.lookup y=_;rw [hcl1 y hm];exact hc'⟩
  .obtain ⟨o,e,_⟩:=T.obj _ _ st3 b hb
   exact Cne b o e
  .exact (f3 b hb).2.2.2.2.1 y c (hcle y c e).1 z
  .exact Nat.le_trans I3.ok.bsz I3.sz
  .rcases (f3 b hb).2.2.2.1 with z|z
   .exact I3.ok.noex b o e z
   .exact absurd (lt_of_lt_of_le (Heap.lt_size e) (Nat.le_trans I3.ok.bsz z)) (lt_irrefl _)
  .rcases mem_cons.mp (stk _ z) with z|z
   .exact (f3 b hb).2.1 z
   .exact (f3 b hb).2.2.1 z
 have inn:∀ v,(inner ix σ v)=some v::ix.map fun i=>(σ[i]?).getD none:=fun _=>rfl
 have I4:Inv (cxC X scope cl C (x::fr) s3 H3 fp pins) [] (none::ix.map fun i=>(σ[i]?).getD none) H3 { s3 with heap:=h4,toks:=s3.toks+([]:List (Str×Value)).length }:=by
  refine ⟨okC,rfl,I3.bare,Un.kept k4,⟨_,hns,fun j y v e1 e2 e3=>?_⟩,fun y c e=>?_,I3.hok.fresh (le_of_eq hC),fun y c e=>I3.freeC y c (hcle y c e).1,fun p hp=>?_,I3.hok.kept k4,?_⟩
  .match j,e1,e2 with
   | 0,e1,e2=>simp at e2
   | j+1,e1,e2 =>
    obtain ⟨i,hi1,hi2,hi3,hi4⟩:=hfr.get (j:=j) (y:=y) (by have e1':(x::fr)[j+1]?=some y:=e1;simpa using e1')
    have e2':σ[i]?=some (some v):=by
     have e2:(ix.map fun i=>(σ[i]?).getD none)[j]?=some (some v):=by simpa using e2
     rw [getElem?_map,hi1] at e2
     simp at e2
     cases z:σ[i]? with
     | none=>rw [z] at e2;simp at e2
     | some o=>rw [z] at e2;simp at e2;rw [e2]
    obtain ⟨m,_,hl⟩:=I3.loc
    obtain ⟨u,r,l⟩:=hl i y v hi2 e2' (.inr (.inl hi4))
    refine ⟨u,r,?_⟩
    rcases l with ⟨k,_⟩|⟨k,c,ec,z⟩
    .rw [hi4] at k;cases k
    .have hm:(y,NameKind.free)∈scope.names:=PySem.mem_of_lookup hi3
     refine .inr ⟨.inl ?_,c,by show cl.lookup y=_;rw [hcl1 y hm];exact ec,?_⟩
     .show (relabel scope X.env).names.lookup y=_
      rw [show (relabel scope X.env).names.lookup y=_ from ycG y scope.names,hi3]
      simp [hfn,hi4]
     .obtain ⟨o,ho,hd⟩:=z
      exact ⟨o,k4 _ _ ho,hd⟩
  .obtain ⟨v,o,ho,hd⟩:=I3.cell y c (hcle y c e).1
   exact ⟨v,o,k4 _ _ ho,hd⟩
  .have hp:p∈X.pn++pins:=by simpa [cxC] using hp
   obtain ⟨e,n,ne,nf,d⟩:=I3.pin p hp
   exact ⟨k4 _ _ e,n,Cne _ _ e,pinF p hp,d⟩
  .show (none::ix.map fun i=>(σ[i]?).getD none).length=(x::fr).length
   rw [length_cons,length_cons,length_map,hfr.len]
 have st4:tn 0 h4:=T.keep _ _ _ st3 fun b _ o e=>k4 b o e
 have f4:∀ b∈fp,b≠C/\b∉frs X.stack/\(∀ y c,cl.lookup y=some c->c≠b)/\∀ p∈(X.pn++pins)++([]:List (Addr×Obj)),p.1≠b:=fun b hb=>by
  obtain ⟨o,e,_⟩:=T.obj _ _ st3 b hb
  refine ⟨Cne b o e,fun z=>?_,fun y c e=>(f3 b hb).2.2.2.2.1 y c (hcle y c e).1,fun p hp=>(f3 b hb).2.2.2.2.2 p (by simpa using hp)⟩
  rcases mem_cons.mp (stk _ z) with z|z
  .exact (f3 b hb).2.1 z
  .exact (f3 b hb).2.2.1 z
 have stat:∀ {H':Hp},(∀ b∈fp,H' b=none)->∀ b∈fp,ypi (cxC X scope cl C (x::fr) s3 H3 fp pins) [] H' b:=fun hn b hb=>⟨hn b hb,(f4 b hb).1,(f4 b hb).2.1,.inl hb,(f4 b hb).2.2.1,(f4 b hb).2.2.2⟩
 have fin:∀ {σ':St}{H':Hp}{s':Shared},Inv (cxC X scope cl C (x::fr) s3 H3 fp pins) [] σ' H' s'->ynP iy (.ref D) σ H' D0.nx->compPost (model X.prog X.w) X.A X.xe (some (assign (.Name y py) X.env)) (fun _ s'=>SP X pins D0 .next s') (.ref D) C (.ok .next) s':=fun {σ' H' s'} I' q'=>by
  obtain ⟨m,hn,_⟩:=I'.loc
  have hCn:H' C=none:=I'.free
  have U:=I'.base
  have U':Un (frs X.stack) fp H3 H' s3.heap s'.heap:=⟨U.keep,U.slot,U.free,U.there,U.tups,U.frzs,U.tbls⟩
  have IX:Inv X pins σ H' s':=I3.call' (s':=s') (by show s'.os=s3.os;exact I'.os) U' I'.hok I'.bare fun b hb=>⟨(f3 b hb).2.2.2.1,(f3 b hb).2.1,(f3 b hb).2.2.2.2.1,(f3 b hb).2.2.2.2.2⟩
  have hCf:ypi X pins H' C:=I3.fpOk (le_of_eq hC) hCn
  obtain ⟨o,es,ep,eo,r1,r2,r3⟩:=hn
  have IP:=IX.pinned (fp:=[C]) (fun b hb=>by have e:b=C:=(by simpa using hb);subst e;exact hCf) (fun b hb=>by have e:b=C:=(by simpa using hb);subst e;exact ⟨o,eo,fun v z=>by rw [r1] at z;cases z⟩)
  refine thn (yjs hN hyi hyx hyf _ s' σ H' (.ref D) (.ref D) D0.nx IP rfl q') fun _ s2 ⟨σ2,H2',I2',q2'⟩=>?_
  have pc:=I2'.pin (C,o) (mem_append_right _ (mem_append_right _ (ybV (by simp) eo)))
  exact ⟨m,⟨o,es,ep,pc.1,r1,r2,r3⟩,fun h' sb=>⟨σ2,H2',I2'.unpinned.turned (t':=s2.toks) (fun b ob hb e=>(sb.2 b hb).trans e) pc.2.1 hCf.2.1 hCf.2.2.2.1 hCf.2.2.2.2.1 hCf.2.2.2.2.2,q2'⟩⟩
 have loop:∀ s5:Shared,s5={ s3 with heap:=h4,toks:=s3.toks+([]:List (Str×Value)).length } ->
   codeAny (model X.prog X.w) X.A (.compLoop (.ListComp elt [⟨.Name x px,iter,cs,0⟩] scope cpos) 0 (.ref it) (.ref D) (compEnvC scope cl C X.env)) (compPost (model X.prog X.w) X.A X.xe (some (assign (.Name y py) X.env)) (fun _ s'=>SP X pins D0 .next s') (.ref D) C) s5:=by
  rintro s5 rfl
  refine codeAny_loop rfl (fun n s'=>∃ i o H',Inv (cxC X scope cl C (x::fr) s3 H3 fp pins) [] (o::ix.map fun i=>(σ[i]?).getD none) H' s'/\tn i s'.heap/\(∀ b∈fp,H' b=none)/\W i n H') ?_ m0 ⟨0,none,H3,I4,st4,fun b hb=>(f3 b hb).1,w0⟩
  rintro n s6 ⟨i,o,H6,I6,st6,fr6,w6⟩
  show wpAny _ _ ((compTurn (.ListComp elt [⟨.Name x px,iter,cs,0⟩] scope cpos) 0 (.ref it) (.ref D) (compEnvC scope cl C X.env)).onRaise (fun x=>do noteFrame x (compEnvC scope cl C X.env);theTreesLotGoes x)) _ _ s6
  refine wpAny_noted ?_
  rw [compTurn_list]
  rcases turn i n H6 w6 with ⟨stop,qn⟩|⟨go,step⟩
  .refine wpAny_bind (wpAny_standAt (wpAny_bind (thn (T.done (cxC X scope cl C (x::fr) s3 H3 fp pins) rfl rfl rfl hc i [] s6 _ H6 _ I6 (stat fr6) st6 stop) fun r s7 ⟨hr,I7⟩=>?_)))
   subst hr
   exact wpAny_pure (fin I7 qn)
  .refine wpAny_bind (wpAny_standAt (wpAny_bind (thn (T.item (cxC X scope cl C (x::fr) s3 H3 fp pins) rfl rfl rfl hc i [] s6 _ H6 _ I6 (stat fr6) st6 go) fun r s7 ⟨u,hr,h7⟩=>?_)))
   subst hr
   refine wpAny_bind (thn h7 fun _ s8 ⟨y,H8,I8,r8,y8,st8,fr8⟩=>?_)
   have I8':=I8.pinned (stat fr8) (T.obj _ _ st8)
   have hx':Loc (cxC X scope cl C (x::fr) s3 H3 fp pins).env.scope x:=.inl (lookup_relabel_local hx)
   refine wpAny_bind (wpAny_mono (yjs (X:=cxC X scope cl C (x::fr) s3 H3 fp pins) (i:=0) (x:=x) (pos:=px) hnd rfl hx' (.inr (lookup_relabel_local hx)) _ s8 _ H8 y u (fun σ9 H9=>σ9=inner ix σ y/\H9=H8) I8' r8 ⟨rfl,rfl⟩) (fun _ s9 ⟨σ9,H9,I9,e9,e9'⟩=>?_) fun _ _ f=>f.elim)
   subst e9 e9'
   refine wpAny_bind (wpAny_mono (hq cl C s3 H3 fp pins _ s9 _ _ _ I9 (step y _ y8)) (fun kb s9b hkb=>?_) fun _ _ f=>f.elim)
   obtain ⟨H9b,I9b,q9b⟩:=hkb
   cases kb with
   | false =>
    rw [if_neg (by decide)] at q9b
    obtain ⟨m',hm',w10⟩:=q9b
    refine wpAny_pure ⟨rfl,m',hm',i+1,some y,_,I9b.unpinned,T.keep _ _ _ st8 fun b hb o e=>(I9b.pin (b,o) (mem_append_right _ (mem_append_right _ (ybV hb e)))).1,fun b hb=>?_,w10⟩
    obtain ⟨o,e,d⟩:=T.obj _ _ st8 b hb
    exact (I9b.pin (b,o) (mem_append_right _ (mem_append_right _ (ybV hb e)))).2.1
   | true =>
   rw [if_pos rfl] at q9b
   refine wpAny_bind (wpAny_bind (wpAny_mono (he cl C s3 H3 fp pins _ s9b _ _ _ I9b q9b) (fun v s10 ⟨z,H10,I10,r10,acc,a10,l10,m',hm',w10⟩=>?_) fun _ _ f=>f.elim))
   refine wpAny_bind (wpAny_mono (ygd (X:=cxC X scope cl C (x::fr) s3 H3 fp pins) _ s10 _ H10 (.ref D) [z] (.ref D) [v] (fun _ H11=>H11=upd H10 D (.lst (acc++[z]))) I10 rfl (.cons r10 .nil) ⟨D,acc,z,rfl,rfl,a10,l10,rfl⟩) (fun _ s11 ⟨_,H11,I11,_,e11⟩=>?_) fun _ _ f=>f.elim)
   subst e11
   refine wpAny_pure (wpAny_pure ⟨rfl,m',hm',i+1,some y,_,I11.unpinned,T.keep _ _ _ st8 fun b hb o e=>(I11.pin (b,o) (mem_append_right _ (mem_append_right _ (ybV hb e)))).1,fun b hb=>?_,w10⟩)
   obtain ⟨o,e,d⟩:=T.obj _ _ st8 b hb
   exact (I11.pin (b,o) (mem_append_right _ (mem_append_right _ (ybV hb e)))).2.1
 exact codeAny_compStart_list (loop _ rfl) (T.self X.A 0 _ _ _ st4 (loop _ rfl))
end L2
namespace PX
open PySem L2 PySem.Spec PyProof.Rows
section
variable (K:Ck)
noncomputable def cE (x:XE):TE:=fun σ H Q=>∃ (W0 W:Wd) (ρ:PSt) (y:PV) (h':AH),W.H=H/\Good K W0 W ρ σ/\x ρ W.h=some (y,h')/\∀ v W',W'.h=h'->Le K W W'->ydb K W' y v->Q v W'.H
def cO (x:XO):TE:=fun σ H Q=>∃ (W0 W:Wd) (ρ:PSt) (d:Nd) (h':AH),W.H=H/\Good K W0 W ρ σ/\x ρ W.h=some (d,h')/\∀ p W',W'.h=h'->Le K W W'->p∉W'.m->W.H p=none->d≠.dead->NdAt K W'.F W'.H W'.m d p->Q (.ref p) W'.H
noncomputable def cT (x:XT):TT:=fun σ H Q=>∃ (W0 W:Wd) (ρ:PSt) (y:Bool) (h':AH),W.H=H/\Good K W0 W ρ σ/\x ρ W.h=some (y,h')/\∀ W',W'.h=h'->Le K W W'->Q y W'.H
noncomputable def cA (x:XA):TA:=fun σ H Q=>∃ (W0 W:Wd) (ρ:PSt) (y:List PV) (h':AH),W.H=H/\Good K W0 W ρ σ/\x ρ W.h=some (y,h')/\∀ v W',W'.h=h'->Le K W W'->ydt K W' y v->Q v W'.H
noncomputable def cP (x:PSt->AH->Option (Option Int×AH)):TO:=fun σ H Q=>∃ (W0 W:Wd) (ρ:PSt) (y:Option Int) (h':AH),W.H=H/\Good K W0 W ρ σ/\x ρ W.h=some (y,h')/\∀ W',W'.h=h'->Le K W W'->Q y W'.H
noncomputable def cI (x:XA):TI:=fun σ H R=>∃ (W0 W:Wd) (ρ:PSt) (y:List PV) (h':AH),W.H=H/\Good K W0 W ρ σ/\x ρ W.h=some (y,h')/\∀ J W',W'.h=h'->Le K W W'->yCz K W' J y->R J W'.H
noncomputable def cG (y:XG):TG:=fun v σ H Q=>∃ (W0 W:Wd) (ρ ρ':PSt) (x:PV),W.H=H/\Good K W0 W ρ σ/\ydb K W x v/\y x ρ=some ρ'/\∀ σ',Good K W0 W ρ' σ'->Q σ' W.H
noncomputable def cGs (y:XGs):TGs:=fun v σ H Q=>∃ (W0 W:Wd) (ρ ρ':PSt) (x:List PV),W.H=H/\Good K W0 W ρ σ/\ydt K W x v/\y x ρ=some ρ'/\∀ σ',Good K W0 W ρ' σ'->Q σ' W.H
def cS (s:XS):TS:=fun D σ H=>∃ (W0 W:Wd) (ρ:PSt) (o:Out) (h':AH),W.H=H/\Good K W0 W ρ σ/\s ρ W.h=some (o,h')/\Ends.Ok K W0 W D h' o
noncomputable def cF (s:XS):TS:=fun D σ H=>∃ (W0 W:Wd) (ρ ρ':PSt) (h':AH),W.H=H/\Good K W0 W ρ σ/\s ρ W.h=some (.nx ρ',h')/\∀ W',W'.h=h'->Lf K W W'->Good K W0 W' ρ' σ->D.nx σ W'.H
end
section
variable {K:Ck}
theorem sE {x:XE}:ycP K (cE K x) x:=fun W0 W ρ σ Q y h' g e q=>⟨W0,W,ρ,y,h',rfl,g,e,q⟩
theorem sO {x:XO}:yoc K (cO K x) x:=fun W0 W ρ σ Q y h' g e q=>⟨W0,W,ρ,y,h',rfl,g,e,q⟩
theorem sT {x:XT}:ylD K (cT K x) x:=fun W0 W ρ σ Q y h' g e q=>⟨W0,W,ρ,y,h',rfl,g,e,q⟩
theorem sA {x:XA}:ylE K (cA K x) x:=fun W0 W ρ σ Q y h' g e q=>⟨W0,W,ρ,y,h',rfl,g,e,q⟩
theorem sP {x}:yuf K (cP K x) x:=fun W0 W ρ σ Q y h' g e q=>⟨W0,W,ρ,y,h',rfl,g,e,q⟩
theorem sI {x:XA}:yuh K (cI K x) x:=fun W0 W ρ σ Q y h' g e q=>⟨W0,W,ρ,y,h',rfl,g,e,q⟩
theorem sG {y:XG}:yvU K (cG K y) y:=fun W0 W ρ ρ' σ x v Q g r e q=>⟨W0,W,ρ,ρ',x,rfl,g,r,e,q⟩
theorem sGs {y:XGs}:yoi K (cGs K y) y:=fun W0 W ρ ρ' σ x v Q g r e q=>⟨W0,W,ρ,ρ',x,rfl,g,r,e,q⟩
theorem sS {s:XS}:yha K (cS K s) s:=fun W0 W ρ σ D o h' g e q=>⟨W0,W,ρ,o,h',rfl,g,e,q⟩
theorem sF {s:XS}:yuj K (cF K s) s:=fun W0 W ρ ρ' σ D h' g e q=>⟨W0,W,ρ,ρ',h',rfl,g,e,q⟩
end
abbrev ckX (X:Cx) (A:Nat->Addr):Ck:=⟨X.K,A⟩
structure ZE (X:Cx) (A:Nat->Addr) (e:Expr) (x:XE):Prop where of:PE X e (cE (ckX X A) x)
structure ZO (X:Cx) (A:Nat->Addr) (e:Expr) (x:XO):Prop where of:PE X e (cO (ckX X A) x)
structure ZT (X:Cx) (A:Nat->Addr) (e:Expr) (x:XT):Prop where of:PT X e (cT (ckX X A) x)
structure ZW (X:Cx) (A:Nat->Addr) (e:Expr) (x:XT):Prop where of:PW X e (cT (ckX X A) x)
structure ZA (X:Cx) (A:Nat->Addr) (e:List Expr) (n:Nat) (x:XA):Prop where
 of:PA X e (cA (ckX X A) x)
 len:∀ ρ h xs h',x ρ h=some (xs,h')->xs.length=n
structure ZP (X:Cx) (A:Nat->Addr) (e:Option Expr) (x:PSt->AH->Option (Option Int×AH)):Prop where of:PO X e (cP (ckX X A) x)
structure ZI (X:Cx) (A:Nat->Addr) (tg e:Expr) (x:XA):Prop where of:PI X tg e (cI (ckX X A) x)
structure ZG (X:Cx) (A:Nat->Addr) (e:Expr) (y:XG):Prop where of:PG X e (cG (ckX X A) y)
structure ZGs (X:Cx) (A:Nat->Addr) (e:List Expr) (y:XGs):Prop where of:PGs X e (cGs (ckX X A) y)
structure ZS (X:Cx) (A:Nat->Addr) (e:Stmt) (s:XS):Prop where of:PS X e (cS (ckX X A) s)
structure ZSs (X:Cx) (A:Nat->Addr) (e:List Stmt) (s:XS):Prop where of:PSs X e (cS (ckX X A) s)
structure ZF (X:Cx) (A:Nat->Addr) (e:Stmt) (s:XS):Prop where of:PS X e (cF (ckX X A) s)
structure ZFs (X:Cx) (A:Nat->Addr) (e:List Stmt) (s:XS):Prop where of:PSs X e (cF (ckX X A) s)
section
variable {X:Cx}{A:Nat->Addr}{e:Expr}{es:List Expr}
theorem wE {t:TE}{x:XE}(p:PE X e t) (s:ycP (ckX X A) t x):ZE X A e x:=⟨fun pins st σ H Q I ⟨W0,W,ρ,y,h',eh,g,ex,q⟩=>by subst eh;exact p pins st σ _ Q I (s W0 W ρ σ Q y h' g ex q)⟩
theorem wO {t:TE}{x:XO}(p:PE X e t) (s:yoc (ckX X A) t x):ZO X A e x:=⟨fun pins st σ H Q I ⟨W0,W,ρ,y,h',eh,g,ex,q⟩=>by subst eh;exact p pins st σ _ Q I (s W0 W ρ σ Q y h' g ex q)⟩
theorem wT {t:TT}{x:XT}(p:PT X e t) (s:ylD (ckX X A) t x):ZT X A e x:=⟨fun pins st σ H Q I ⟨W0,W,ρ,y,h',eh,g,ex,q⟩=>by subst eh;exact p pins st σ _ Q I (s W0 W ρ σ Q y h' g ex q)⟩
theorem wW {t:TT}{x:XT}(p:PW X e t) (s:ylD (ckX X A) t x):ZW X A e x:=⟨fun wh pins st σ H Q I ⟨W0,W,ρ,y,h',eh,g,ex,q⟩=>by subst eh;exact p wh pins st σ _ Q I (s W0 W ρ σ Q y h' g ex q)⟩
theorem wA {t:TA}{x:XA}{n:Nat}(p:PA X es t) (s:ylE (ckX X A) t x) (l:∀ ρ h xs h',x ρ h=some (xs,h')->xs.length=n):ZA X A es n x:=⟨fun pos pins st σ H Q I ⟨W0,W,ρ,y,h',eh,g,ex,q⟩=>by subst eh;exact p pos pins st σ _ Q I (s W0 W ρ σ Q y h' g ex q),l⟩
theorem wP {o:Option Expr}{t:TO}{x} (p:PO X o t) (s:yuf (ckX X A) t x):ZP X A o x:=⟨fun pins st σ H Q I ⟨W0,W,ρ,y,h',eh,g,ex,q⟩=>by subst eh;exact p pins st σ _ Q I (s W0 W ρ σ Q y h' g ex q)⟩
theorem wI {tg:Expr}{t:TI}{x:XA}(p:PI X tg e t) (s:yuh (ckX X A) t x):ZI X A tg e x:=⟨fun pins st σ H Q I ⟨W0,W,ρ,y,h',eh,g,ex,q⟩=>by subst eh;exact p pins st σ _ Q I (s W0 W ρ σ Q y h' g ex q)⟩
theorem wG {t:TG}{y:XG}(p:PG X e t) (s:yvU (ckX X A) t y):ZG X A e y:=⟨fun pins st σ H v u Q I rv ⟨W0,W,ρ,ρ',x,eh,g,r,ex,q⟩=>by subst eh;exact p pins st σ _ v u Q I rv (s W0 W ρ ρ' σ x v Q g r ex q)⟩
theorem wGs {t:TGs}{y:XGs}(p:PGs X es t) (s:yoi (ckX X A) t y):ZGs X A es y:=⟨fun pins st σ H v u Q I rv ⟨W0,W,ρ,ρ',x,eh,g,r,ex,q⟩=>by subst eh;exact p pins st σ _ v u Q I rv (s W0 W ρ ρ' σ x v Q g r ex q)⟩
theorem wS {st:Stmt}{t:TS}{x:XS}(p:PS X st t) (s:yha (ckX X A) t x):ZS X A st x:=⟨fun pins st σ H D I ⟨W0,W,ρ,o,h',eh,g,ex,q⟩=>by subst eh;exact p pins st σ _ D I (s W0 W ρ σ D o h' g ex q)⟩
theorem wSs {st:List Stmt}{t:TS}{x:XS}(p:PSs X st t) (s:yha (ckX X A) t x):ZSs X A st x:=⟨fun pins st σ H D I ⟨W0,W,ρ,o,h',eh,g,ex,q⟩=>by subst eh;exact p pins st σ _ D I (s W0 W ρ σ D o h' g ex q)⟩
theorem wF {st:Stmt}{t:TS}{x:XS}(p:PS X st t) (s:yuj (ckX X A) t x):ZF X A st x:=⟨fun pins st σ H D I ⟨W0,W,ρ,ρ',h',eh,g,ex,q⟩=>by subst eh;exact p pins st σ _ D I (s W0 W ρ ρ' σ D h' g ex q)⟩
theorem wFs {st:List Stmt}{t:TS}{x:XS}(p:PSs X st t) (s:yuj (ckX X A) t x):ZFs X A st x:=⟨fun pins st σ H D I ⟨W0,W,ρ,ρ',h',eh,g,ex,q⟩=>by subst eh;exact p pins st σ _ D I (s W0 W ρ ρ' σ D h' g ex q)⟩
end
structure Nm (x:Str):Prop where
 d:(x == ("__debug__":Str))=false
 c:(x == ("__classdict__":Str))=false
 n:x≠"__name__"
section
variable {X:Cx}{A:Nat->Addr}{a b c o:Expr}{es:List Expr}{xa xb xc:XE}{xo:XO}{aa:XA}{pos p apos:Pos}{x:Str}{n k:Nat}
theorem yht {j}:ZE X A (.Constant .none j pos) (xC .non):=wE yyd yvG
theorem yoW {b j}:ZE X A (.Constant (.bool b) j pos) (xC (.bl b)):=wE yBW yyW
theorem yi {i j}:ZE X A (.Constant (.int i) j pos) (xC (.int i)):=wE yyc ypO
theorem yg {x j}:ZE X A (.Constant (.str x) j pos) (xC (.str x)):=wE yye ypP
theorem z_v {i:Nat}(m:Nm x:=by exact ⟨by rfl',by rfl',by rfl'⟩) (hN:X.N[i]?=some x:=by rfl) (hv:Vis X.env.scope x:=by first|exact Or.inl rfl|exact Or.inr (Or.inl rfl)):ZE X A (.Name x pos) (ye i):=wE (ymM hN hv m.d m.c) (yvF i)
theorem ykU {n:Int}{t:Tok}(hm:X.mg x=some (.int n t)) (m:Nm x:=by exact ⟨by rfl',by rfl',by rfl'⟩) (hg:Gl X x:=by rfl):ZE X A (.Name x pos) (xC (.int n)):=wE (yvx hg hm m.d) ypO
theorem yqA {n:Str}{t:Tok}(hm:X.mg x=some (.str n t)) (m:Nm x:=by exact ⟨by rfl',by rfl',by rfl'⟩) (hg:Gl X x:=by rfl):ZE X A (.Name x pos) (xC (.str n)):=wE (yvy hg hm m.d) ypP
theorem yzX {n:String}(hm:X.mg x=none) (m:Nm x:=by exact ⟨by rfl',by rfl',by rfl'⟩) (hg:Gl X x:=by rfl) (hv:bootBuiltins x=some (.type n):=by rfl'):ZE X A (.Name x pos) (xC (.ty n)):=wE (yyP hg hm hv m.n m.d) yyX
theorem ych (h:ZO X A a xo):ZE X A a (xFz xo):=wE h.of (yud sO)
theorem yth (h:ZO X A a xo):ZE X A a (yvD xo):=wE h.of (yvM sO)
theorem yW {op:Operator}{r:R2}{q:P2}(ho:OpR X (binaryOp op) r) (hq:ycE (ckX X A) r q) (ha:ZE X A a xa) (hb:ZE X A b xb):ZE X A (.BinOp a op b pos) (xOp q xa xb):=wE (yyw ho ha.of hb.of) (yne hq sE sE)
theorem ygi {op:Operator}{r:R2}{q:P2O}(ho:OpR X (binaryOp op) r) (hq:ynd (ckX X A) r q) (ha:ZE X A a xa) (hb:ZE X A b xb):ZO X A (.BinOp a op b pos) (ykJ q xa xb):=wO (yyw ho ha.of hb.of) (yvH hq sE sE)
theorem yGc {op:UnaryOp}{r} {q} (ho:UnR X (unaryOp op) r) (hq:yvE (ckX X A) r q) (ha:ZE X A a xa):ZE X A (.UnaryOp op a pos) (xUn q xa):=wE (yCc ho ha.of) (yyY hq sE)
theorem yjI {op:CmpOp}{r:R2}{q:P2}(ho:OpR X (compareOp op) r) (hq:ycE (ckX X A) r q) (ha:ZE X A a xa) (hb:ZE X A b xb) (hm:behindInMarks op b=false:=by first|exact ymS _|with_unfolding_all rfl):ZE X A (.Compare a [op] [b] pos) (xOp q xa xb):=wE (yvj ho ha.of hb.of hm) (yne hq sE sE)
theorem ywr {op op':CmpOp}{r r':R2}{q q':P2}(ho:OpR X (compareOp op) r) (ho':OpR X (compareOp op') r') (hq:ycE (ckX X A) r q) (hq':ycE (ckX X A) r' q') (ha:ZE X A a xa) (hb:ZE X A b xb) (hc:ZE X A c xc) (hm:lastMarks [op,op'] [b,c]=false:=by first|exact ymS _|with_unfolding_all rfl):ZE X A (.Compare a [op,op'] [b,c] pos) (yiN q q' xa xb xc):=wE (yrT ho ho' ha.of hb.of hc.of hm) (ykK hq hq' sE sE sE)
theorem yws {op} (h:ZE X A a xa):ZE X A (.BoolOp op [a] pos) xa:=⟨yyk h.of⟩
theorem ywt (ha:ZE X A a xa) (hb:ZE X A (.BoolOp .And (b::es) pos) xb):ZE X A (.BoolOp .And (a::b::es) pos) (yod xa xb):=wE (yyl ha.of hb.of) (yso sE sE)
section
variable {ca cb:XT}
theorem yDx (hc:ZT X A c ca) (ha:ZE X A a xa) (hb:ZE X A b xb):ZE X A (.IfExp c a b pos) (xIf ca xa xb):=wE (yrM hc.of ha.of hb.of) (yzb sT sE sE)
theorem yz {op:CmpOp}{r:R2}{q:P2}(ho:OpR X (compareOp op) r) (hq:ycE (ckX X A) r q) (ha:ZE X A a xa) (hb:ZE X A b xb) (hm:behindInMarks op b=false:=by first|exact ymS _|with_unfolding_all rfl):ZT X A (.Compare a [op] [b] pos) (yH (xOp q xa xb)):=wT (yvl ho ha.of hb.of hm) (yjD (yne hq sE sE))
theorem yti {op op':CmpOp}{r r':R2}{q q':P2}(ho:OpR X (compareOp op) r) (ho':OpR X (compareOp op') r') (hq:ycE (ckX X A) r q) (hq':ycE (ckX X A) r' q') (ha:ZE X A a xa) (hb:ZE X A b xb) (hc:ZE X A c xc) (hm:lastMarks [op,op'] [b,c]=false:=by first|exact ymS _|with_unfolding_all rfl):ZT X A (.Compare a [op,op'] [b,c] pos) (yH (yiN q q' xa xb xc)):=wT (yrU ho ho' ha.of hb.of hc.of hm) (yjD (ykK hq hq' sE sE sE))
theorem yeR (ha:ZT X A a ca):ZT X A (.UnaryOp .Not a pos) (ymf ca):=wT (yyi ha.of) (yvJ sT)
theorem yel (h:ZE X A a xa) (he:∀ whole,isTrue a X.env whole=(do let v <- whole;standAt a.pos;holding [v] (truthy v)):=by exact fun _=>rfl):ZT X A a (yH xa):=wT (yyf h.of he) (yyZ sE)
theorem yup (h:ZW X A a ca):ZT X A a ca:=⟨PW.pt h.of⟩
theorem yuq (ha:ZT X A a ca) (hb:ZW X A (.BoolOp .And (b::es) pos) cb):ZW X A (.BoolOp .And (a::b::es) pos) (yyV ca cb):=wW (yyh ha.of hb.of) (yvI sT sT)
theorem you (ha:ZT X A a ca) (hb:ZW X A (.BoolOp .Or (b::es) pos) cb):ZW X A (.BoolOp .Or (a::b::es) pos) (xOr ca cb):=wW (yBY ha.of hb.of) (yza sT sT)
theorem yqB (ha:ZT X A a ca):ZW X A (.BoolOp .And [a] pos) ca:=⟨yve ha.of⟩
theorem yiU (ha:ZT X A a ca):ZW X A (.BoolOp .Or [a] pos) ca:=⟨yyg ha.of⟩
end
theorem yd:ZA X A [] 0 yk:=wA ypv ypQ ypS
theorem ya (ha:ZE X A a xa) (hr:ZA X A es n aa) (hs:starEach (a::es) X.env=(false,eval a X.env)::starEach es X.env:=by rfl):ZA X A (a::es) (n+1) (yb xa aa):=wA (yhJ ha.of hr.of hs) (ysp sE sA) (yss hr.len)
theorem ybW (h:ZA X A es n aa):ZO X A (.List es pos) (ydR aa):=wO (ytW h.of) (yvL sA)
theorem yhu {q} (h:ZA X A es n aa):ZE X A (.Tuple es q pos) (yiO aa):=wE (yyz h.of) (yvK sA)
theorem yqC:ZP X A none yfd:=wP yvs yog
theorem yeE (h:ZE X A a xa):ZP X A (some a) (ygf xa):=wP (yvt h.of) (yst sE)
section
variable {lo hi:Option Expr}{xl xh:PSt->AH->Option (Option Int×AH)}{p2:Pos}
theorem yGd {r} {q} (hr:SlR X r) (hq:yvO (ckX X A) r q) (ha:ZE X A a xa) (hl:ZP X A lo xl) (hh:ZP X A hi xh):ZE X A (.Subscript a (.Slice lo hi none p2) pos) (xSl q xa xl xh):=wE (ymY hr ha.of hl.of hh.of) (yzd hq sE sP sP)
theorem yov {r} {q} (hr:SlR X r) (hq:ypT (ckX X A) r q) (ha:ZE X A a xa) (hl:ZP X A lo xl) (hh:ZP X A hi xh):ZO X A (.Subscript a (.Slice lo hi none p2) pos) (yrC q xa xl xh):=wO (ymY hr ha.of hl.of hh.of) (yvP hq sE sP sP)
end
theorem yeS {r:R2}{q:P2}(hr:IxR X r) (hq:ycE (ckX X A) r q) (ha:ZE X A a xa) (hb:ZE X A b xb) (hs:ypA b:=by exact fun _ _=>rfl):ZE X A (.Subscript a b pos) (xOp q xa xb):=wE (yCg hr ha.of hb.of hs) (yne hq sE sE)
theorem yhW {cs:List Nat}{f:Str}(hc:∀ k∈cs,Cls X.K (A k)/\NoAttr X.K (A k) f) (ha:ZE X A a xa) (hb:attributeBase a f X.env (eval a X.env)=eval a X.env:=by rfl):ZE X A (.Attribute a f pos) (ynh cs f xa):=wE (yyy ha.of hb) (ywf (K:=ckX X A) hc sE)
section
variable {f C:Addr}{fd:FuncData}{ps:List Str}{lv:Nat}{fn:Fn}
theorem yF (F:FnOk X.prog X.w X.K X.mg X.base CX0 lv f fd ps (spE (ckX X A) (n+1) fn)) (hm:X.mg x=some (.ref f)) (hk:keepIn X.K (.ref f)=true) (hb:Binds X.K fd ps []) (ha:ZA X A (a::es) (n+1) aa) (hr:Room lv X.A:=by exact hr.mono (by omega)) (m:Nm x:=by exact ⟨by rfl',by rfl',by rfl'⟩) (hg:Gl X x:=by rfl) (he:starEach (a::es) X.env=(false,eval a X.env)::starEach es X.env:=by rfl) (hpl:(backTo pos (starEach es X.env)).any (·.1)=false:=by rfl):ZE X A (.Call (.Name x p) (a::es) [] pos) (yP fn aa) :=
 wE (yvr F hr hg hm hk hb .nil ynX ha.of m.d he hpl) (ysr sA ha.len)
theorem yfN {k:Nat}{fi} (M:Mk X.K (A k) f) (F:FnOk X.prog X.w X.K X.mg X.base CX0 lv f fd ps (spI (ckX X A) (n+1) k fi)) (hm:X.mg x=some (.ref (A k))) (hb:Binds X.K fd ps []) (ha:ZA X A (a::es) (n+1) aa) (hr:Room (lv+1) X.A:=by exact hr.mono (by omega)) (m:Nm x:=by exact ⟨by rfl',by rfl',by rfl'⟩) (hg:Gl X x:=by rfl) (he:starEach (a::es) X.env=(false,eval a X.env)::starEach es X.env:=by rfl) (hpl:(backTo pos (starEach es X.env)).any (·.1)=false:=by rfl):ZO X A (.Call (.Name x p) (a::es) [] pos) (ygG fi aa) :=
 wO (ypx M F hr hg hm hb .nil ynX ha.of m.d he hpl) (ysP (K:=ckX X A) (k:=k) sA ha.len)
theorem ywu {k:Nat}(hm:makesIn X.K (A k)=true) (hi:findIn X.K (.ref (A k)) "__init__" = some (some (.builtin "object.__init__"))) (hk:keepIn X.K (.ref (A k))=true) (hmg:X.mg x=some (.ref (A k))) (m:Nm x:=by exact ⟨by rfl',by rfl',by rfl'⟩) (hg:Gl X x:=by rfl):ZO X A (.Call (.Name x p) [] [] pos) (yni k) :=
 wO (ysh hm hi hk hg hmg m.d) (yqj (K:=ckX X A))
theorem yqD {m:Str}{fm:Nat->Fn}{pl:Sem Bool}(he:ZE X A o xa) (G:ylU X.prog X.w X.K X.mg X.base lv A m (fun k=>spE (ckX X A) 1 (fm k))) (hr:Room lv X.A:=by exact hr.mono (by omega)) (ht:eval (.Call (.Attribute o m apos) [] [] pos) X.env=(do
   let ov <- eval o X.env
   standAt apos.atName
   let (f,first) <- holding [ov] (getMethod ov m pl)
   callWith pos f first (backTo pos (starEach [] X.env)) (backToKw pos (keywordEach [] X.env))):=by rfl):ZE X A (.Call (.Attribute o m apos) [] [] pos) (yhr m fm xa) :=
 wE (ypJ he.of G hr ht) (ysQ (K:=ckX X A) sE)
end
theorem yhX {id:String}{r} {q} (hc:CallR X (.builtin id) r) (hq:ygg (ckX X A) r q) (hm:X.mg x=none) (ha:ZA X A (a::es) n aa) (m:Nm x:=by exact ⟨by rfl',by rfl',by rfl'⟩) (hg:Gl X x:=by rfl) (hv:bootBuiltins x=some (.builtin id):=by rfl') (he:starEach (a::es) X.env=(false,eval a X.env)::starEach es X.env:=by rfl) (hpl:(backTo pos (starEach es X.env)).any (·.1)=false:=by rfl):ZE X A (.Call (.Name x p) (a::es) [] pos) (xCB q aa) :=
 wE (yrY hc hg hm hv ha.of m.n m.d he hpl) (yue hq sA)
theorem yow {T:String}{r} {q} (hc:CallR X (.type T) r) (hq:ygg (ckX X A) r q) (hm:X.mg x=none) (ha:ZA X A (a::es) n aa) (m:Nm x:=by exact ⟨by rfl',by rfl',by rfl'⟩) (hg:Gl X x:=by rfl) (hv:bootBuiltins x=some (.type T):=by rfl') (he:starEach (a::es) X.env=(false,eval a X.env)::starEach es X.env:=by rfl) (hpl:(backTo pos (starEach es X.env)).any (·.1)=false:=by rfl):ZE X A (.Call (.Name x p) (a::es) [] pos) (xCB q aa) :=
 wE (yko hc hg hm hv ha.of m.n m.d he hpl) (yue hq sA)
theorem yhY {T:String}{r} {q} (hc:CallR X (.type T) r) (hq:ypM (ckX X A) r q) (hm:X.mg x=none) (ha:ZA X A (a::es) n aa) (m:Nm x:=by exact ⟨by rfl',by rfl',by rfl'⟩) (hg:Gl X x:=by rfl) (hv:bootBuiltins x=some (.type T):=by rfl') (he:starEach (a::es) X.env=(false,eval a X.env)::starEach es X.env:=by rfl) (hpl:(backTo pos (starEach es X.env)).any (·.1)=false:=by rfl):ZO X A (.Call (.Name x p) (a::es) [] pos) (ysn q aa) :=
 wO (yko hc hg hm hv ha.of m.n m.d he hpl) (yvN hq sA)
section
variable {name:Str}{cpos:Pos}{T id:String}{r:V->List V->Hp->VK->Prop}{cc:PV->AH->Bool}{q:PM}
theorem yoX (pa:PlainAttrs T) (slot:Slot T name id) (hty:typeOf (.builtin id)=pure (.type "method_descriptor")) (hm:MtR X id r) (hq:yof (ckX X A) T cc r q) (ho:ZE X A o xa) (ha:ZA X A (a::es) n aa) (hbase:attributeBase o name X.env (eval o X.env)=eval o X.env:=by rfl) (hfew:((backTo cpos (starEach (a::es) X.env)).all (fun x=>!x.1) && (backToKw cpos (keywordEach [] X.env)).all (fun x=>x.1.isSome)
   && decide ((a::es).length+([]:List Keyword).length+(if ([]:List Keyword).isEmpty then 0 else 1)<30))=true:=by rfl) (hline:(apos.endLine == cpos.line)=true:=by rfl) (hs:starEach (a::es) X.env=(false,eval a X.env)::starEach es X.env:=by rfl) (hplain:(backTo cpos (starEach es X.env)).any (·.1)=false:=by rfl) :
  ZE X A (.Call (.Attribute o name apos) (a::es) [] cpos) (xBM cc q xa aa):=wE (yrZ pa slot hty hm ho.of ha.of hbase hfew hline hs hplain) (yzc (K:=ckX X A) hq sE sA)
theorem yiV {i:Nat}(ha:ZE X A a xa) (ho:PE X o (yvc i):=by exact ymM rfl (by first|exact Or.inl rfl|exact Or.inr (Or.inl rfl)) (by rfl') (by rfl')) (hbase:attributeBase o "append" X.env (eval o X.env)=eval o X.env:=by rfl) (hfew:((backTo cpos (starEach [a] X.env)).all (fun x=>!x.1) && (backToKw cpos (keywordEach [] X.env)).all (fun x=>x.1.isSome)
   && decide ([a].length+([]:List Keyword).length+(if ([]:List Keyword).isEmpty then 0 else 1)<30))=true:=by rfl) (hline:(apos.endLine == cpos.line)=true:=by rfl) (hs:starEach [a] X.env=(false,eval a X.env)::starEach [] X.env:=by rfl) (hplain:(backTo cpos (starEach [] X.env)).any (·.1)=false:=by rfl) (hsw:swapsWith (.Call (.Attribute o "append" apos) [a] [] cpos) none pos.line X.env=pure false:=by rfl) :
  ZS X A (.Expr (.Call (.Attribute o "append" apos) [a] [] cpos) pos) (yfF i xa) :=
 wS (yjr (yrZ plainAttrs_list PySem.F.slot_list_append PySem.F.type_list_append ygd ho (yhJ ha.of ypv hs) hbase hfew hline hs hplain) hsw) (ysB (K:=ckX X A) i sE)
end
section
variable {tg:Expr}
theorem yfh (h:ZE X A a xa):ZI X A tg a (xIL xa):=wI (yvh h.of) (ypW (K:=ckX X A) sE)
theorem yzY (h:ZE X A a xa):ZI X A tg a (xIT xa):=wI (yyt h.of) (ysD (K:=ckX X A) sE)
theorem yzZ (h:ZE X A a xa):ZI X A tg a (xIS xa):=wI (yyN h.of) (ysE sE)
theorem ymq (hm:X.mg "range" = none) (ha:ZA X A [a] n aa) (hg:Gl X "range":=by rfl) (hs:starEach [a] X.env=[(false,eval a X.env)]:=by rfl):ZI X A tg (.Call (.Name "range" p) [a] [] pos) (ysC aa):=wI (ypk hg hm ha.of hs) (ypX sA)
end
theorem ydZ {i:Nat}(hN:X.N.Nodup:=by exact nd) (hi:X.N[i]?=some x:=by rfl) (hx:Loc X.env.scope x:=by first|exact Or.inl rfl|exact Or.inr rfl) (hf:X.fn x=true\/X.env.scope.names.lookup x=some .local:=by exact Or.inl rfl):ZG X A (.Name x pos) (yl i):=wG (yjs hN hi hx hf) (yhQ i)
theorem ywv:ZGs X A [] yvQ:=wGs yvg ysy
theorem yjJ {y:XG}{ys:XGs}(h1:ZG X A a y) (h2:ZGs X A es ys) (hs:(assignEach (a::es) X.env).map (·.2)=assign a X.env::(assignEach es X.env).map (·.2):=by rfl):ZGs X A (a::es) (yhn y ys):=wGs (yrO h1.of h2.of hs) (ypU sG sGs)
theorem yAa {ys:XGs}{q:Nat}(h:ZGs X A es ys) (hc:X.calm=true:=by rfl) (hn:(assignEach es X.env).length=n:=by rfl) (hst:(assignEach es X.env).findIdx? (·.1)=none:=by rfl):ZG X A (.Tuple es q pos) (ysu n ys):=wG (yyp hc h.of hn hst) (ysz (K:=ckX X A) sGs)
theorem ykV {elt iter:Expr}{px:Pos}{scope:Scope}{cpos:Pos}{it:XA}{xe:XE}{ix:List Nat}(fr:List Str) (hi:ZI X A (.Name x px) iter it) (he:∀ (cl:List (Str×Addr)) (C:Addr) (s₃:Shared) (H₃:Hp) (fp:List Addr) (pins:List (Addr×Obj)),ZE (cxC X scope cl C (x::fr) s₃ H₃ fp pins) A elt xe) (hc:X.calm=true:=by rfl) (hfr:FrOk X scope ix fr:=by repeat' first|exact True.intro|exact rfl|refine And.intro ?_ ?_) (hnd:(x::fr).Nodup:=by rfl') (hkind:scope.kind=.function:=by rfl) (hcell:∀ y∈scope.names,y.2≠.cell:=by rfl') (hnames:∀ y∈scope.names,y.2=.local->scope.names.lookup y.1=some .local:=by rfl') (hfree0:∀ y∈scope.names,y.2=.free->y.1∈fr:=by rfl') (hx:scope.names.lookup x=some .local:=by rfl) (hs:∀ v,foldedSetIterable iter X.env v=pure v:=by exact fun _=>rfl):ZO X A (.ListComp elt [⟨.Name x px,iter,[],0⟩] scope cpos) (yho it ix xe) :=
 wO (yDv (ytf ix fr hc hi.of hfr (te:=cE (ckX X A) xe) (fun cl C s₃ H₃ fp pins=>(he cl C s₃ H₃ fp pins).of) (fun _ _ _ _ _ _=>.nil) hnd hkind hcell hnames hfree0 hx hs)) (ynf (K:=ckX X A) ix sI sE)
section
variable {st:Stmt}{rest:List Stmt}{s u:XS}
theorem yo (h:ZE X A a xa):ZS X A (.Return (some a) pos) (ybq xa):=wS (ytQ h.of) (yvS sE)
theorem ycK (h:ZE X A a xa) (hs:swapsWith a none pos.line X.env=pure false:=by rfl):ZS X A (.Expr a pos) (yeh xa):=wS (yjr h.of hs) (ysx sE)
theorem ym {i:Nat}{pos':Pos}(h:ZE X A a xa) (hN:X.N.Nodup:=by exact nd) (hi:X.N[i]?=some x:=by rfl) (hx:Loc X.env.scope x:=by first|exact Or.inl rfl|exact Or.inr rfl) (hs:swapsWith a (some (.Name x pos')) pos.line X.env=pure false:=by rfl) (hf:X.fn x=true\/X.env.scope.names.lookup x=some .local:=by exact Or.inl rfl):ZS X A (.Assign [.Name x pos'] a pos) (ybc xa (yl i)) :=
 wS (yph hN hi hx h.of hs hf) (ymk sE (yhQ i))
theorem ymr {i:Nat}{pos':Pos}(h:ZO X A a xo) (hN:X.N.Nodup:=by exact nd) (hi:X.N[i]?=some x:=by rfl) (hx:Loc X.env.scope x:=by first|exact Or.inl rfl|exact Or.inr rfl) (hs:swapsWith a (some (.Name x pos')) pos.line X.env=pure false:=by rfl) (hf:X.fn x=true\/X.env.scope.names.lookup x=some .local:=by exact Or.inl rfl):ZS X A (.Assign [.Name x pos'] a pos) (yoh xo i) :=
 wS (yph hN hi hx h.of hs hf) (ysA i sO)
theorem yAb {tg:Expr}{y:XG}(h:ZE X A a xa) (hg:ZG X A tg y) (hs:swapsWithSole [tg] a pos.line X.env=pure false:=by rfl) (hw:swappedStores [tg] a X.env=pure none:=by rfl) (h1:(assignEach [tg] X.env).map (·.2)=[assign tg X.env]:=by rfl):ZS X A (.Assign [tg] a pos) (ybc xa y):=wS (ytS h.of hg.of hs hw h1) (ymk sE sG)
theorem ycu {cs:List Nat}{f:Str}{pos':Pos}{i:Nat}(hc:∀ k∈cs,Cls X.K (A k)/\NoAttr X.K (A k) f) (h:ZE X A a xa) (ho:PE X o (yvc i):=by exact ymM rfl (by first|exact Or.inl rfl|exact Or.inr (Or.inl rfl)) (by rfl') (by rfl')) (hs:swapsWith a (some (.Attribute o f pos')) pos.line X.env=pure false:=by rfl):ZF X A (.Assign [.Attribute o f pos'] a pos) (ydu cs i f xa):=wF (ytV ho h.of hs) (ysM (K:=ckX X A) hc sE)
theorem ybg {ca:XT}{l m:List Stmt}(hc:ZT X A c ca) (ha:ZSs X A l s) (hb:ZSs X A m u):ZS X A (.If c l m pos) (yck ca s u):=wS (yyn hc.of ha.of hb.of) (yvT sT sS sS)
theorem yhZ {tg iter:Expr}{it:XA}{y:XG}(hi:ZI X A tg iter it) (hg:ZG X A tg y) (hb:ZSs X A rest s) (hp:PassesOwn (model X.prog X.w) X.A X.env X.xe:=by exact PassesOwn.never) (hc:X.calm=true:=by rfl) (hs:∀ x,foldedSetIterable iter X.env x=pure x:=by exact fun _=>rfl):ZS X A (.For tg iter rest [] pos) (ylF it y s):=wS (yyv hp hc hi.of hg.of hb.of hs) (yvY sI sG sS)
theorem ytj {ca:XT}{fu:Nat}(hc:ZT X A c ca) (hb:ZSs X A rest s) (hp:PassesOwn (model X.prog X.w) X.A X.env X.xe:=by exact PassesOwn.never):ZS X A (.While c rest [] pos) (yiP fu ca s):=wS (ymO hp hc.of hb.of) (ypY fu sT sS)
theorem yC:ZSs X A [] ybm:=wSs ypd ysw
theorem yf (h:ZS X A st s):ZSs X A [st] s:=⟨ype h.of⟩
theorem yc (h:ZS X A st s) (hr:ZSs X A rest u):ZSs X A (st::rest) (yw s u):=wSs (yga h.of hr.of) (yvR sS sS)
theorem yqE {i:Nat}(h:ZSs X A rest s):ZSs X A rest (yze i s):=wSs h.of (yvV i sS)
theorem yeF (h:ZF X A st s):ZFs X A [st] s:=⟨ype h.of⟩
theorem yco (h:ZF X A st s) (hr:ZFs X A rest u):ZFs X A (st::rest) (yw s u):=wFs (yga h.of hr.of) (ysN sF sF)
end
end
section
variable {P:Program}{w:World}{K:PySem.W.Frag}{mg:Str->Option Value}{base:Heap}{A:Nat->Addr}
theorem zfn {x qual:Str}{st:Stmt}{f:Addr}{fd:FuncData}{N ps:List Str}{k:Nat}{s:XS}(F:Fun K x qual st f fd) (S:yez N ps (ybE st))
  (h:∀ (cdv:Value) (Ar:Around) (outer:List Env) (sh:Shared) (H:Hp) (E:XK),Room k (Ar.deeper (envOfC qual (ybE st) sh.heap.objs.size f cdv))->ZSs (ymW CX0 P w K mg base N qual (ybE st) f cdv Ar outer sh H E).nox A (yfR st) s) :
  FnOk P w K mg base CX0 (k+1) f fd ps (spE ⟨K,A⟩ ps.length (yda N.length s)) :=
 F.ok S (fun _ _ _ _ h=>yvZ h) fun cdv Ar outer sh H vs Q E hr hq=>⟨_,(h cdv Ar outer sh H E hr).of,ysG (K:=⟨K,A⟩) sS hq⟩
theorem zin {x qual:Str}{st:Stmt}{f:Addr}{fd:FuncData}{N ps:List Str}{k kc n:Nat}{s:XS}(F:Fun K x qual st f fd) (S:yez N ps (ybE st)) (hn:ps.length=n+1) (hN:n+1<=N.length)
  (h:∀ (cdv:Value) (Ar:Around) (outer:List Env) (sh:Shared) (H:Hp) (E:XK),Room k (Ar.deeper (envOfC qual (ybE st) sh.heap.objs.size f cdv))->ZFs (ymW CX0 P w K mg base N qual (ybE st) f cdv Ar outer sh H E).nox A (yfR st) s) :
  FnOk P w K mg base CX0 (k+1) f fd ps (spI ⟨K,A⟩ n kc (yqi N.length kc s)) :=
 F.ok S (fun _ _ _ _ h=>(ywg h).trans hn.symm) fun cdv Ar outer sh H vs Q E hr hq=>⟨_,(h cdv Ar outer sh H E hr).of,ysO (K:=⟨K,A⟩) hN sF hq⟩
end
end PX
namespace PX
open PySem L2 PySem.Spec PyProof.Rows
section
variable {X:Cx}{A:Nat->Addr}{a b c o i:Expr}{es:List Expr}{xa xb xc xd xk xv:XE}{xo:XO}{aa:XA}{pos p apos cpos pos':Pos}{x:Str}{n k:Nat}
theorem yww (h:ZE X A a xv) (ho:ZE X A o xd) (hi:ZE X A i xk) (ha:∀ v,assign (.Subscript o i pos') X.env v=(do
   let ov <- holding [v] (eval o X.env)
   let iv <- holding [v,ov] (eval i X.env)
   standAt pos'
   holding [v,ov,iv] (setItem ov iv v)
   release [v,ov,iv] []):=by exact fun _=>rfl) (hs:swapsWithSole [.Subscript o i pos'] a pos.line X.env=pure false:=by rfl) (hw:swappedStores [.Subscript o i pos'] a X.env=pure none:=by rfl) (h1:(assignEach [.Subscript o i pos'] X.env).map (·.2)=[assign (.Subscript o i pos') X.env]:=by rfl) :
  ZS X A (.Assign [.Subscript o i pos'] a pos) (yqm xd xk xv):=wS (ytS h.of (yyq ho.of hi.of set_list ha) hs hw h1) (ysT sE sE sE)
end
end PX
namespace PX
open PySem L2 PySem.Spec PyProof.Rows
section
variable {X:Cx}{A:Nat->Addr}{a b c o:Expr}{es:List Expr}{xa xb xc:XE}{pos p apos cpos:Pos}{x:Str}{n k:Nat}
end
section
variable {X:Cx}{A:Nat->Addr}{tg a b c:Expr}{p pos:Pos}{aa:XA}{n:Nat}
end
section
theorem yfi {xs:List V}{its:List Value}(r:Vals xs its) {j:Nat}(hj:j<its.toArray.size):∃ x,xs[j]?=some x/\RelV x its.toArray[j]:=by
 have hl:=r.length
 have j1:j<its.length:=by simpa using hj
 have x1:xs[j]?=some xs[j]:=List.getElem?_eq_getElem (by omega)
 obtain ⟨u1,q1,w1⟩:=r.get x1
 have g1:its.toArray[j]=u1:=by
  have:=List.getElem?_eq_getElem j1
  rw [q1] at this
  simpa using (Option.some.inj this).symm
 exact ⟨_,x1,by rw [g1];exact w1⟩
variable {X:Cx}
theorem yur {pins:List (Addr×Obj)}{σ:L2.St}{H:Hp}{s:Shared}(I:Inv X pins σ H s) {n:Nat}{x y:V}{b:Bool}(r:EqR X.K H n x y b):∀ {A:Around}{u v:Value},RelV x u->RelV y v->A.units+n<cLine->SeqAt.EqAt A s u v b:=by
 induction r with
 | flat fx fy=>exact fun rx ry _=>ytX rx ry fx fy
 | same =>
  intro A u v rx ry _
  cases rx
  cases ry
  exact SeqAt.EqAt.same _
 | odd h =>
  obtain ⟨a,o,ob,h1,h2⟩:=h
  have:=(I.bs a ob (I.ok.mod.kin a ob h2)).2
  rw [h1] at this
  cases this
 | nt hb =>
  intro A u v rx ry hu
  cases rx
  cases ry
  obtain ⟨i2,r2,p2,z2⟩:=I.tuple hb
  exact SeqAt.EqAt.none_tuple p2 (by omega)
 | tn hb =>
  intro A u v rx ry hu
  cases rx
  cases ry
  obtain ⟨i2,r2,p2,z2⟩:=I.tuple hb
  exact SeqAt.EqAt.tuple_none p2 (by omega)
 | @lst n a b xs ys e ha hb hl hne he ih =>
  intro A u v rx ry hu
  cases rx
  cases ry
  obtain ⟨i1,n1,r1,e1,z1⟩:=I.lst ha
  obtain ⟨i2,n2,r2,e2,z2⟩:=I.lst hb
  have l1:=r1.length
  have l2:=r2.length
  rw [show xs.length=i1.toArray.size by simp only [size_toArray];omega]
  refine SeqAt.EqAt.of_refs hne (SeqAt.RcAt.lists ⟨_,e1,rfl,n1,rfl⟩ ⟨_,e2,rfl,n2,rfl⟩ (by simp only [size_toArray];omega) (by omega) fun j j1 j2=>?_)
  obtain ⟨x1,q1,w1⟩:=yfi r1 j1
  obtain ⟨y1,q2,w2⟩:=yfi r2 j2
  exact ih j x1 y1 q1 q2 w1 w2 (by show A.units+1+n<cLine;omega)
 | @lstN n a b xs ys ha hb hl =>
  intro A u v rx ry hu
  cases rx
  cases ry
  obtain ⟨i1,n1,r1,e1,z1⟩:=I.lst ha
  obtain ⟨i2,n2,r2,e2,z2⟩:=I.lst hb
  have l1:=r1.length
  have l2:=r2.length
  have hne:a≠b:=fun z=>by subst z;rw [ha] at hb;cases hb;exact hl rfl
  exact SeqAt.EqAt.of_refs hne (SeqAt.RcAt.lists_lengths ⟨_,e1,rfl,n1,rfl⟩ ⟨_,e2,rfl,n2,rfl⟩ (by simp only [size_toArray,bne_iff_ne];omega) (by omega))
 | @tup n a b xs ys e ha hb hne he ih =>
  intro A u v rx ry hu
  cases rx
  cases ry
  obtain ⟨i1,r1,p1,z1⟩:=I.tuple ha
  obtain ⟨i2,r2,p2,z2⟩:=I.tuple hb
  have l1:=r1.length
  have l2:=r2.length
  rw [show xs.length=i1.toArray.size by simp only [size_toArray];omega,show ys.length=i2.toArray.size by simp only [size_toArray];omega]
  refine SeqAt.EqAt.of_refs hne (SeqAt.RcAt.tuples p1 p2 (by omega) fun j j1 j2=>?_)
  obtain ⟨x1,q1,w1⟩:=yfi r1 j1
  obtain ⟨y1,q2,w2⟩:=yfi r2 j2
  exact ih j x1 y1 q1 q2 w1 w2 (by show A.units+1+n<cLine;omega)
theorem yus (hu:X.A.units+60<cLine):OpR X (compareOp .Eq) (yFo X.K):=by
 intro pins s σ H x y v u Q I rx ry h
 obtain ⟨b,hb,q⟩:=h
 cases hb with
 | nt hb =>
  cases rx
  cases ry
  obtain ⟨i2,r2,p2,z2⟩:=I.tuple hb
  exact SeqAt.RcAt.none_tuple p2 (by omega) _ _ _ _ ⟨.bl _,H,I,rfl,q⟩
 | tn hb =>
  cases rx
  cases ry
  obtain ⟨i2,r2,p2,z2⟩:=I.tuple hb
  exact SeqAt.RcAt.tuple_none p2 (by omega) _ _ _ _ ⟨.bl _,H,I,rfl,q⟩
 | @lst a b xs ys e ha hb hl he =>
  cases rx
  cases ry
  obtain ⟨i1,n1,r1,e1,z1⟩:=I.lst ha
  obtain ⟨i2,n2,r2,e2,z2⟩:=I.lst hb
  have l1:=r1.length
  have l2:=r2.length
  rw [show xs.length=i1.toArray.size by simp only [size_toArray];omega] at q
  refine SeqAt.RcAt.lists ⟨_,e1,rfl,n1,rfl⟩ ⟨_,e2,rfl,n2,rfl⟩ (by simp only [size_toArray];omega) (by omega) (fun j j1 j2=>?_) _ _ _ _ ⟨.bl _,H,I,rfl,q⟩
  obtain ⟨x1,q1,w1⟩:=yfi r1 j1
  obtain ⟨y1,q2,w2⟩:=yfi r2 j2
  exact yur I (he j x1 y1 q1 q2) w1 w2 (by show X.A.units+1+40<cLine;omega)
 | @lstN a b xs ys ha hb hl =>
  cases rx
  cases ry
  obtain ⟨i1,n1,r1,e1,z1⟩:=I.lst ha
  obtain ⟨i2,n2,r2,e2,z2⟩:=I.lst hb
  have l1:=r1.length
  have l2:=r2.length
  exact SeqAt.RcAt.lists_lengths ⟨_,e1,rfl,n1,rfl⟩ ⟨_,e2,rfl,n2,rfl⟩ (by simp only [size_toArray,bne_iff_ne];omega) (by omega) _ _ _ _ ⟨.bl _,H,I,rfl,q⟩
 | @tup a b xs ys e ha hb he =>
  cases rx
  cases ry
  obtain ⟨i1,r1,p1,z1⟩:=I.tuple ha
  obtain ⟨i2,r2,p2,z2⟩:=I.tuple hb
  have l1:=r1.length
  have l2:=r2.length
  rw [show xs.length=i1.toArray.size by simp only [size_toArray];omega,show ys.length=i2.toArray.size by simp only [size_toArray];omega] at q
  refine SeqAt.RcAt.tuples p1 p2 (by omega) (fun j j1 j2=>?_) _ _ _ _ ⟨.bl _,H,I,rfl,q⟩
  obtain ⟨x1,q1,w1⟩:=yfi r1 j1
  obtain ⟨y1,q2,w2⟩:=yfi r2 j2
  exact yur I (he j x1 y1 q1 q2) w1 w2 (by show X.A.units+1+40<cLine;omega)
theorem yut {k:Nat}{A:Around}(r:Room k A):A.units+60<cLine:=by have:=r.un;omega
end
end PX
namespace PX
open PySem L2 PySem.Spec PyProof.Rows
section
variable {X:Cx}{A:Nat->Addr}{o e:Expr}{es:List Expr}{xa xb:XE}{aa:XA}{pos apos pos':Pos}{m f:Str}{n k kc:Nat}{pl:Sem Bool}{p:Fn}{fa:Addr}{fd:FuncData}{ps:List Str}
theorem ydz {st:Stmt}:ZS X A st yhs:=wS yrN (ysZ (K:=ckX X A))
theorem yU (ho:ZE X A o xa) (hm:Meth X.K (A kc) m fa) (F:FnOk X.prog X.w X.K X.mg X.base CX0 k fa fd ps (spE (ckX X A) (n+1) p)) (hb:Binds X.K fd ps []) (ha:ZA X A (e::es) n aa) (c:Cls X.K (A kc):=by exact T.cl _) (hr:Room k X.A:=by exact hr.mono (by omega)) (hst:starEach (e::es) X.env=(false,eval e X.env)::starEach es X.env:=by rfl) (hpl:(backTo pos (starEach es X.env)).any (·.1)=false:=by rfl) (ht:eval (.Call (.Attribute o m apos) (e::es) [] pos) X.env=(do
   let ov <- eval o X.env
   standAt apos.atName
   let (f,first) <- holding [ov] (getMethod ov m pl)
   callWith pos f first (backTo pos (starEach (e::es) X.env)) (backToKw pos (keywordEach [] X.env))):=by rfl) :
  ZE X A (.Call (.Attribute o m apos) (e::es) [] pos) (yu kc m p xa aa):=wE (ypw ho.of c hm F hr hb .nil ynX ha.of hst hpl ht) (ykQ (K:=ckX X A) sE sA ha.len)
theorem yB (ho:ZE X A o xa) (hm:Meth X.K (A kc) m fa) (F:FnOk X.prog X.w X.K X.mg X.base CX0 k fa fd ps (spE (ckX X A) 1 p)) (hb:Binds X.K fd ps []) (c:Cls X.K (A kc):=by exact T.cl _) (hr:Room k X.A:=by exact hr.mono (by omega)) (ht:eval (.Call (.Attribute o m apos) [] [] pos) X.env=(do
   let ov <- eval o X.env
   standAt apos.atName
   let (f,first) <- holding [ov] (getMethod ov m pl)
   callWith pos f first (backTo pos (starEach [] X.env)) (backToKw pos (keywordEach [] X.env))):=by rfl) :
  ZE X A (.Call (.Attribute o m apos) [] [] pos) (yu kc m p xa yk):=wE (ymV ho.of c hm F hr hb .nil ynX ht) (ykQ (K:=ckX X A) (n:=0) sE ypQ ypS)
theorem ywx {cs:List Nat}{value:Expr}(hc:∀ k∈cs,Cls X.K (A k)/\NoAttr X.K (A k) f) (ho:ZE X A o xa) (hv:ZE X A value xb) (hs:swapsWith value (some (.Attribute o f pos')) pos.line X.env=pure false:=by rfl) :
  ZS X A (.Assign [.Attribute o f pos'] value pos) (yta cs f xa xb):=wS (ytV ho.of hv.of hs) (ytb (K:=ckX X A) hc sE sE)
end
end PX
namespace KasS
open PySem PySem.W PyProof.Rows
section
variable (key:Nat->Int)
end
end KasS
namespace KasS
open PySem PySem.W PyProof.Rows PySem.Calls
section
variable {prog:Program}{w:World}{A:Around}{E:Value->Shared->Prop}{s:Shared}
end
end KasS
namespace PXS
open PySem L2 PySem.Spec PyProof.Rows KasS PX
section
variable {X:Cx}
variable {A:Nat->Addr}{o:Expr}{xa:XE}{pos p apos cpos:Pos}{x:Str}
end
end PXS
namespace PX
open PySem L2 PySem.Spec PyProof.Rows
section
variable {X:Cx}{A:Nat->Addr}{tg a:Expr}{p pos:Pos}{xa:XE}
end
end PX
namespace PX
open PySem L2 PySem.Spec PyProof.Rows
section
variable {X:Cx}{A:Nat->Addr}{a o:Expr}{xa xb:XE}{pos apos cpos:Pos}
end
end PX
namespace PX
open PySem L2 PySem.Spec PyProof.Rows
variable {X:Cx}{A:Nat->Addr}{x:Str}
end PX
namespace PX
open PySem L2 PySem.Spec PyProof.Rows
variable {X:Cx}{A:Nat->Addr}{x y:Str}{py spos:Pos}{iy:Nat}
theorem ytk {elt iter:Expr}{px:Pos}{scope:Scope}{cpos:Pos}{it:XA}{xe:XE}{ix:List Nat}(fr:List Str) (hi:ZI X A (.Name x px) iter it) (he:∀ (cl:List (Str×Addr)) (C:Addr) (s₃:Shared) (H₃:Hp) (fp:List Addr) (pins:List (Addr×Obj)),ZE (cxC X scope cl C (x::fr) s₃ H₃ fp pins) A elt xe) (hc:X.calm=true:=by rfl) (hfr:FrOk X scope ix fr:=by repeat' first|exact True.intro|exact rfl|refine And.intro ?_ ?_) (hnd:(x::fr).Nodup:=by rfl') (hkind:scope.kind=.function:=by rfl) (hcell:∀ y∈scope.names,y.2≠.cell:=by rfl') (hnames:∀ y∈scope.names,y.2=.local->scope.names.lookup y.1=some .local:=by rfl') (hfree0:∀ y∈scope.names,y.2=.free->y.1∈fr:=by rfl') (hx:scope.names.lookup x=some .local:=by rfl) (hs:∀ v,foldedSetIterable iter X.env v=pure v:=by exact fun _=>rfl) (hN:X.N.Nodup:=by exact nd) (hyi:X.N[iy]?=some y:=by rfl) (hyx:Loc X.env.scope y:=by first|exact Or.inl rfl|exact Or.inr rfl) (hyf:X.fn y=true\/X.env.scope.names.lookup y=some .local:=by exact Or.inl rfl) (hsw:swapsWith (.ListComp elt [⟨.Name x px,iter,[],0⟩] scope cpos) (some (.Name y py)) spos.line X.env=pure true:=by rfl):ZS X A (.Assign [.Name y py] (.ListComp elt [⟨.Name x px,iter,[],0⟩] scope cpos) spos) (ybc (xFz (yho it ix xe)) (yl iy)) :=
 wS (yDw (ytg ix fr hc hi.of hfr (te:=cE (ckX X A) xe) (fun cl C s₃ H₃ fp pins=>(he cl C s₃ H₃ fp pins).of) (fun _ _ _ _ _ _=>.nil) hnd hkind hcell hnames hfree0 hx hs hN hyi hyx hyf hsw)) (ymk (yud (ynf (K:=ckX X A) ix sI sE)) (yhQ iy))
end PX
namespace PX
open PySem L2 PySem.Spec PyProof.Rows KasS PXS
section
variable {X:Cx}{A:Nat->Addr}
theorem yhM {vs:List Value}{ns:List Int}(h:IntsAre vs ns):Vals (ns.map V.int) vs:=by
 induction h with
 | nil=>exact .nil
 | cons n t _ ih=>exact .cons ⟨t,rfl⟩ ih
variable {a:Expr}{xa:XE}{aa:XA}{pos p:Pos}{x:Str}{n:Nat}
end
end PX
namespace PX
open PySem L2 PySem.Spec PyProof.Rows KasS PXS
section
variable {X:Cx}{A:Nat->Addr}{tg a:Expr}{p pos:Pos}{xa:XE}
end
end PX
namespace PX
open PySem L2 PySem.Spec PyProof.Rows
section
variable {X:Cx}{A:Nat->Addr}
variable {pos p apos:Pos}{x m:Str}{e:Expr}{es:List Expr}{aa:XA}{n:Nat}
theorem yAc {a:Addr}{ss:List Str}(hm:X.mg x=some (.ref a)) (hk:KTp X.K a (ss.map V.str)) (nm:Nm x:=by exact ⟨by rfl',by rfl',by rfl'⟩) (hg:Gl X x:=by rfl):ZE X A (.Name x pos) (xC (.tup (ss.map PV.str))):=wE (yvz hg hm nm.d) (ytc (K:=ckX X A) hk)
end
section
variable {P:Program}{w:World}{K:PySem.W.Frag}{mg:Str->Option Value}{base:Heap}{A:Nat->Addr}
end
end PX
namespace PX
open PySem L2 PySem.Spec PyProof.Rows
section
variable {X:Cx}{A:Nat->Addr}
end
end PX
namespace PX
open PySem L2 PySem.Spec PyProof.Rows
section
variable {prog:Program}{w:World}{A:Around}{E:Value->Shared->Prop}{s:Shared}
end
section
variable {X:Cx}{A:Nat->Addr}
end
end PX
namespace PX
open PySem L2 PySem.Spec PyProof.Rows
open Builtin Builtin.Str in
section
variable {prog:Program}{w:World}{A:Around}{E:Value->Shared->Prop}{s:Shared}
theorem yox {x y:Str}{t u:Tok}{Q:Value->Shared->Prop}(hy:(y.length == 0)=false) (hz:x.length+2<=sizeLine)
  (h:∀ (l:List (Str×Tok)) (k:Nat),l.map (·.1)=Txt.split x y->Q (.ref s.heap.objs.size) { s with heap:=s.heap.push { cls:=.type "list",data:=.seq (strValues l).toArray },toks:=k }) :
  wpAny (model prog w) A (call (.builtin "str.split") [.str x t,.str y u]) Q E s:=by
 have h2:(partsBetween x (occurrences x y 0 x.length (x.length+1)) y.length).length<=sizeLine:=by
  have:=StrLaws.occ_length_le x y 0 x.length (x.length+1)
  rw [length_partsBetween]
  omega
 by_cases c1:(decide (x.length<y.length) || decide (strKind x<strKind y))=true
 .exact call_meets F.slot_str_split (typeIs_str _ _ _) F.entry_str_split (F.args_str_split_2 _ _) (meets_str_split_cannot_occur x y t u c1) (h [(x,t)] s.toks (if_pos c1).symm)
 .have c1':(decide (x.length<y.length) || decide (strKind x<strKind y))=false:=by simpa using c1
  by_cases c2:(occurrences x y 0 x.length (x.length+1)).isEmpty=true
  .exact call_meets F.slot_str_split (typeIs_str _ _ _) F.entry_str_split (F.args_str_split_2 _ _) (meets_str_split_not_found x y t u c1' hy c2) (h [(x,t)] s.toks ((if_neg c1).trans (if_pos c2)).symm)
  .refine call_meets F.slot_str_split (typeIs_str _ _ _) F.entry_str_split (F.args_str_split_2 _ _) (meets_str_split_sep x y t u c1' hy (by simpa using c2) (by omega) h2) ?_
   show wants Q E _ { s with toks:=_,heap:=s.heap.push { cls:=.type "list",data:=.seq (strsFrom s.toks (partsBetween x (occurrences x y 0 x.length (x.length+1)) y.length)).toArray } }
   rw [strsFrom_eq]
   exact h _ _ ((numbered_texts _ _).trans ((if_neg c1).trans (if_neg c2)).symm)
end
theorem ynp (z:Str):Txt.split z " " = ymn z:=by
 have e:(" ":Str)=⟨#[32]⟩:=by rfl'
 have h:=ygh (Txt.split z " ") (fun q=>by have:=split_pos z " ";rw [q] at this;simp at this) (by rw [e];exact StrLaws.split_free z 32)
 rw [StrLaws.join_split] at h
 exact h.symm
theorem ykW:∀ (l:List (Str×Tok)),Vals ((l.map (·.1)).map V.str) (strValues l)
 | []=>.nil
 | (_,t)::l=>.cons ⟨t,rfl⟩ (ykW l)
section
variable {X:Cx}{A:Nat->Addr}
theorem yqF:CallR X (.type "str") yzR:=call_str_int.or fun pins s σ H xs us Q I r h=>by
 obtain ⟨x,rfl,q⟩:=h
 obtain ⟨u,rfl,t,rfl⟩:=vals1 r
 exact PySem.P.str_of_str ⟨.str x,H,I,⟨t,rfl⟩,q⟩
theorem ynq:MtR X "str.split" yqv:=by
 intro pins s σ H x xs v us Q I rx rv h
 obtain ⟨z,rfl,rfl,hz,q⟩:=h
 obtain ⟨t,rfl⟩:=rx
 obtain ⟨u,rfl,ru⟩:=vals1 rv
 obtain ⟨t',rfl⟩:=ru
 have hs:z.length+2<=sizeLine:=by simp only [PySem.sizeLine_eq];omega
 refine yox (by decide) hs fun l k e=>?_
 have e2:l.map (·.1)=ymn z:=e.trans (ynp z)
 have e3:=split_le z " "
 rw [ynp] at e3
 refine ⟨.ref s.heap.objs.size,_,I.laid (t':=k) (o:=.lst ((ymn z).map V.str)) (fun b o e=>Heap.get?_push_of_some _ e) (Nat.le_refl _) ?_,rfl,q _ (I.hok.fresh (Nat.le_refl _))⟩
 exact ⟨by rw [length_map];exact Nat.le_trans e3 hs,strValues l,0,e2 ▸ ykW l,Heap.get?_push_size _ rfl⟩
end
section
variable {X:Cx}{pins:List (Addr×Obj)}{σ:L2.St}{H:Hp}{s:Shared}{h':Heap}
end
section
variable {X:Cx}{A:Nat->Addr}{elts:List Expr}{x1:Nat}{tp p pos:Pos}{a b:Expr}{aa:XA}{n:Nat}
end
section
variable {X:Cx}{A:Nat->Addr}{pos:Pos}
theorem yAd {i j n:Nat}{x y:Str}{a b:Expr}{aa:XA}{px py pt:Pos}{kt k2 pt2} (ha:ZA X A [a,b] n aa) (hc:X.calm=true:=by rfl) (hN:X.N.Nodup:=by exact nd) (hi:X.N[i]?=some x:=by rfl) (hj:X.N[j]?=some y:=by rfl) (hij:i≠j:=by decide) (hx:X.env.scope.names.lookup x=some .local:=by rfl) (hy:X.env.scope.names.lookup y=some .local:=by rfl) (hw:swappedStores [.Tuple [.Name x px,.Name y py] kt pt] (.Tuple [a,b] k2 pt2) X.env=pure (some [x,y]):=by rfl) (hs:swapsWithSole [.Tuple [.Name x px,.Name y py] kt pt] (.Tuple [a,b] k2 pt2) pos.line X.env=pure false:=by rfl) :
  ZS X A (.Assign [.Tuple [.Name x px,.Name y py] kt pt] (.Tuple [a,b] k2 pt2) pos) (ybc (yiO aa) (ysu 2 (yhn (yl i) (yhn (yl j) yvQ)))):=wS (yyr hc hN hi hj hij hx hy ha.of hw hs) (ywp (K:=ckX X A) sA)
end
end PX
namespace PX
open PySem L2 PySem.Spec PyProof.Rows
section
variable {X:Cx}{A:Nat->Addr}{a:Expr}{es:List Expr}{p pos:Pos}{x:Str}{aa:XA}{n lv:Nat}{f:Addr}{fd:FuncData}{ps:List Str}{fn:Fn}
end
end PX
namespace PX
open PySem L2 PySem.Spec PyProof.Rows
section
variable {X:Cx}{A:Nat->Addr}{tg a b c:Expr}{p pos:Pos}{aa:XA}{n:Nat}
end
end PX
namespace PX
open PySem L2 PySem.Spec PyProof.Rows
section
variable {X:Cx}{A:Nat->Addr}{tg a:Expr}{p pos:Pos}{xa:XE}{x:Str}{es:List Expr}{aa:XA}{n:Nat}
end
end PX
namespace PX
open PySem L2 PySem.Spec PyProof.Rows KasS PXS
section
variable {X:Cx}{A:Nat->Addr}{xa:XE}{x:Str}
end
end PX
namespace PX
open PySem L2 PySem.Spec PyProof.Rows KasS PXS
section
variable {X:Cx}{A:Nat->Addr}{elts:List Expr}{x1:Nat}{tp pos apos cpos:Pos}{a:Expr}{xa:XE}
end
end PX
namespace PX
open PySem L2 PySem.Spec PyProof.Rows
section
variable (K:Ck) (E:XK)
noncomputable def cR (r:XR):TE:=fun σ H _=>∃ (W0 W:Wd) (ρ:PSt) (c:Str) (h':AH),W.H=H/\Good K W0 W ρ σ/\r ρ W.h=some (c,h')/\∀ W' a,W'.h=h'->Le K W W'->W'.H a=none->E (.ref (xAd K.K c)) (some a) W'.H
noncomputable def cRS (r:XR):TS:=fun _ σ H=>∃ (W0 W:Wd) (ρ:PSt) (c:Str) (h':AH),W.H=H/\Good K W0 W ρ σ/\r ρ W.h=some (c,h')/\∀ W' a,W'.h=h'->Le K W0 W'->W'.H a=none->E (.ref (xAd K.K c)) (some a) W'.H
end
noncomputable def spR (K:Ck) (n:Nat) (f:FnR):Sp:=fun vs H _ E=>∃ (W:Wd) (xs:List PV) (c:Str) (h':AH),W.H=H/\WOk K W/\ydt K W xs vs/\xs.length=n/\f xs W.h=some (c,h')/\∀ W' a,W'.h=h'->Le K W W'->W'.H a=none->E (.ref (xAd K.K c)) (some a) W'.H
theorem ywy {K:Ck}{n:Nat}{f:FnR}{vs:List V}{H:Hp}{Q:VK}{E:XK}(h:spR K n f vs H Q E):vs.length=n:=by
 obtain ⟨W,xs,c,h',rfl,w,r,hn,_⟩:=h
 rw [r.len,hn]
structure YE (X:Cx) (A:Nat->Addr) (E:XK) (e:Expr) (r:XR):Prop where of:PE X e (cR (ckX X A) E r)
structure YS (X:Cx) (A:Nat->Addr) (E:XK) (e:Stmt) (r:XR):Prop where of:PS X e (cRS (ckX X A) E r)
structure YSs (X:Cx) (A:Nat->Addr) (E:XK) (e:List Stmt) (r:XR):Prop where of:PSs X e (cRS (ckX X A) E r)
section
variable {X:Cx}{A:Nat->Addr}{E:XK}{o e a:Expr}{es:List Expr}{xa xb:XE}{aa:XA}{pos apos pos' p:Pos}{m f x:Str}{n k kc:Nat}{c:Str}{pl:Sem Bool}{fa:Addr}{fd:FuncData}{ps:List Str}{r r':XR}{rf:FnR}{lv:Nat}{st:Stmt}{rest:List Stmt}{s:XS}{xc:XT}
theorem ybO (ho:ZE X A o xa) (hm:Meth X.K (A kc) m fa) (F:FnOk X.prog X.w X.K X.mg X.base (CXr X.prog X.w) k fa fd ps (spR (ckX X A) (n+1) rf)) (hb:Binds X.K fd ps []) (ha:ZA X A (e::es) n aa) (hp:yfa (CXr X.prog X.w) X E:=by exact yqG) (c:Cls X.K (A kc):=by exact T.cl _) (hr:Room k X.A:=by exact hr.mono (by omega)) (hst:starEach (e::es) X.env=(false,eval e X.env)::starEach es X.env:=by rfl) (hpl:(backTo pos (starEach es X.env)).any (·.1)=false:=by rfl) (ht:eval (.Call (.Attribute o m apos) (e::es) [] pos) X.env=(do
   let ov <- eval o X.env
   standAt apos.atName
   let (f,first) <- holding [ov] (getMethod ov m pl)
   callWith pos f first (backTo pos (starEach (e::es) X.env)) (backToKw pos (keywordEach [] X.env))):=by rfl) :
  YE X A E (.Call (.Attribute o m apos) (e::es) [] pos) (yV kc m rf xa aa):=⟨fun pins s σ H Q I h=>by
 refine ypw ho.of c hm F hr hb .nil hp ha.of hst hpl ht pins s σ H Q I ?_
 obtain ⟨W0,W,ρ,c,h',rfl,g,er,q⟩:=h
 obtain ⟨x,h1,e1,f1⟩:=yj er
 refine ⟨W0,W,ρ,x,h1,rfl,g,e1,fun v W1 w1 l1 r1=>?_⟩
 subst w1
 split at f1
 .rename_i k' ns xs hi
  split at f1
  .rename_i hc
   obtain ⟨ys,h2,e2,f2⟩:=yj f1
   obtain ⟨p,dx,vs,ev,hp,hl,rs⟩:=yek l1.ok hi r1
   rw [hc.1] at hp
   refine ⟨p,dx,_,ev,hp,yct hc.2,?_⟩
   refine ⟨W0,W1,ρ,ys,h2,rfl,g.step l1,e2,fun us W2 w2 l2 r2=>?_⟩
   subst w2
   rw [append_nil]
   exact ⟨W2,x::ys,c,h',rfl,l2.ok,⟨v,us,rfl,l2.rep r1,r2⟩,by rw [length_cons,ha.len _ _ _ _ e2],f2,fun W' a w3 l3 n=>q W' a w3 ((l1.trans l2).trans l3) n⟩
  .cases f1
 .cases f1⟩
theorem ywz {K:Ck}{σ:L2.St}{H:Hp}{D:Ends}{Q:VK}(h:cRS K E r D σ H):cR K E r σ H Q:=by
 obtain ⟨W0,W,ρ,c,h',rfl,g,er,q⟩:=h
 exact ⟨W0,W,ρ,c,h',rfl,g,er,fun W' a w l n=>q W' a w (g.le.trans l) n⟩
theorem ygj (h:YE X A E e r):YS X A E (.Return (some e) pos) r:=⟨fun pins s σ H D I q=>ytQ h.of pins s σ H D I (ywz q)⟩
theorem ygJ (h:YE X A E e r) (hs:swapsWith e none pos.line X.env=pure false:=by rfl):YS X A E (.Expr e pos) r:=⟨fun pins s σ H D I q=>yjr h.of hs pins s σ H D I (ywz q)⟩
theorem ycp {i:Nat}(h:YE X A E e r) (hi:X.N[i]?=some x:=by rfl) (hN:X.N.Nodup:=by exact nd) (hx:Loc X.env.scope x:=by first|exact Or.inl rfl|exact Or.inr rfl) (hs:swapsWith e (some (.Name x pos')) pos.line X.env=pure false:=by rfl) (hf:X.fn x=true\/X.env.scope.names.lookup x=some .local:=by exact Or.inl rfl):YS X A E (.Assign [.Name x pos'] e pos) r:=⟨fun pins s σ H D I q=>yph hN hi hx h.of hs hf pins s σ H D I (ywz q)⟩
theorem ydA (c':XCls X.K (xAd X.K x)) (hm:X.mg x=some (.ref (xAd X.K x))) (ha:ZE X A e xa) (hE:XEs X E:=by exact yAe) (hx:X.ex=[]:=by rfl) (hc:X.calm=true:=by rfl) (hg:Gl X x:=by rfl) (hst:starEach [e] X.env=[(false,eval e X.env)]:=by rfl) (hd:(x == ("__debug__":Str))=false:=by decide) {np cpos:Pos} :
  YS X A E (.Raise (some (.Call (.Name x np) [e] [] cpos)) none pos) (yfg x xa):=⟨fun pins s σ H D I h=>by
 refine ysj c' hE hx hc hg hm ha.of hst hd pins s σ H D I ?_
 obtain ⟨W0,W,ρ,c,h',rfl,g,er,q⟩:=h
 obtain ⟨y,h1,e1,f1⟩:=yj er
 cases f1
 exact ⟨W0,W,ρ,y,_,rfl,g,e1,fun v W' w l rv=>⟨rfl,fun a na=>q W' a w (g.le.trans l) na⟩⟩⟩
theorem yhd:YSs X A E rest rNo:=⟨fun pins s σ H D I h=>by
 obtain ⟨W0,W,ρ,c,h',rfl,g,er,q⟩:=h
 cases er⟩
theorem ydc {tt:List Stmt}{cc:Expr}(hc:ZT X A cc xc) (ha:YSs X A E tt r) (hb:YSs X A E rest r'):YSs X A E (.If cc tt [] pos::rest) (rIf xc r r'):=⟨fun pins s σ H D I h=>by
 refine yga (yyn hc.of ha.of ypd) hb.of pins s σ H D I ?_
 obtain ⟨W0,W,ρ,c,h',rfl,g,er,q⟩:=h
 obtain ⟨b,h1,e1,f1⟩:=yj er
 refine ⟨W0,W,ρ,b,h1,rfl,g,e1,fun W1 w1 l1=>?_⟩
 subst w1
 cases b with
 | true=>exact ⟨W0,W1,ρ,c,h',rfl,g.step l1,f1,q⟩
 | false=>exact ⟨W0,W1,ρ,c,h',rfl,g.step l1,f1,q⟩⟩
theorem yX (h:YS X A E st r):YSs X A E (st::rest) r:=⟨fun pins s σ H D I q=>yga h.of ypg pins s σ H D I q⟩
theorem yjK (h1:ZS X A st s) (h2:YSs X A E rest r):YSs X A E (st::rest) (yrE s r):=⟨fun pins s σ H D I h=>by
 refine yga h1.of h2.of pins s σ H D I ?_
 obtain ⟨W0,W,ρ,c,h',rfl,g,er,q⟩:=h
 obtain ⟨o,h1,e1,f1⟩:=yj er
 refine ⟨W0,W,ρ,o,h1,rfl,g,e1,?_⟩
 cases o with
 | nx ρ'=>exact fun W' σ' w l g'=>by subst w;exact ⟨W0,W',ρ',c,h',rfl,g',f1,q⟩
 | rt y=>cases f1
 | bk y=>cases f1
 | ct y=>cases f1⟩
end
section
variable {P:Program}{w:World}{K:PySem.W.Frag}{mg:Str->Option Value}{base:Heap}{A:Nat->Addr}
theorem yfn {x qual:Str}{st:Stmt}{f:Addr}{fd:FuncData}{N ps:List Str}{k:Nat}{r:XR}(F:Fun K x qual st f fd) (S:yez N ps (ybE st))
  (h:∀ (cdv:Value) (Ar:Around) (outer:List Env) (sh:Shared) (H:Hp) (E:XK),Room k (Ar.deeper (envOfC qual (ybE st) sh.heap.objs.size f cdv))->YSs (ymW (CXr P w) P w K mg base N qual (ybE st) f cdv Ar outer sh H E) A E (yfR st) r) :
  FnOk P w K mg base (CXr P w) (k+1) f fd ps (spR ⟨K,A⟩ ps.length (ylH N.length r)):=by
 obtain ⟨oc,od,kV,doc,pm,an,cdv,ct,osl,rfl,lk,hcd⟩:=F.ex
 refine yyC lk hcd S (fun _ _ _ _ h=>ywy h) fun Ar outer s H vs Q E hr hsp=>?_
 refine ⟨_,(h cdv Ar outer s H E hr).of,?_⟩
 obtain ⟨W,xs,c,h',rfl,wo,rp,_,er,q⟩:=hsp
 exact ⟨W,W,_,c,h',rfl,ygD wo rp,er,q⟩
theorem yAe {N:List Str}{qual:Str}{scope:Scope}{f:Addr}{cd:Value}{Ar:Around}{outer:List Env}{s:Shared}{H:Hp}{E:XK}:XEs (ymW (CXr P w) P w K mg base N qual scope f cd Ar outer s H E) E:=fun _ _ _ _ _ F q=>yub F q
theorem yqG {N:List Str}{qual:Str}{scope:Scope}{f:Addr}{cd:Value}{Ar:Around}{outer:List Env}{s:Shared}{H:Hp}{E:XK}:yfa (CXr P w) (ymW (CXr P w) P w K mg base N qual scope f cd Ar outer s H E) E:=yyQ fun _ _ _ q=>q
end
end PX
namespace L2
open PySem PySem.Spec PyProof.Rows
section
variable {X:Cx}{CX:CXT}{k:Nat}{f:Addr}{fd:FuncData}{ps:List Str}{sp:Sp}{dvs:List V}{ds:List Value}{E:XK}
theorem ywA {pins:List (Addr×Obj)}{σ:St}{H:Hp}{s:Shared}{Q:VK}{us:List Value}{vs:List V}{XE:Value->Shared->Prop}(F:FnOk X.prog X.w X.K X.mg X.base CX k f fd ps sp) (hr:Room k X.A) (hb:Binds X.K fd ps ds) (hd:Vals dvs ds)
  (I:Inv X pins σ H s) (r:Vals vs us) (h:sp (vs++dvs) H Q E) (hx:∀ e s',CX X.stack H s E e s'->XE e s'):wpAny (model X.prog X.w) X.A (call (.ref f) us) (EP X pins σ Q) XE s:=by
 have r2:Vals (vs++dvs) (us++ds):=r.append hd
 have hl:(us++ds).length=ps.length:=by rw [<- r2.length];exact F.len _ _ _ _ h
 refine wpAny_call (codeAny_mono (F.run X.A X.stack s H ⟨us,[]⟩ (us++ds) (vs++dvs) Q E hr I.env0 (hb s us I.kIn hl) r2 h) fun r s' hq=>?_)
 cases r with
 | error e=>exact hx e s' hq
 | ok fl =>
  cases fl with
  | ret u=>exact I.after hq
  | next=>exact False.elim hq
  | brk=>exact False.elim hq
  | cont=>exact False.elim hq
end
end L2
namespace PX
open PySem L2 PySem.Spec PyProof.Rows
structure YB (X:Cx) (A:Nat->Addr) (b:List Stmt) (r:XR):Prop where of:BX X b (fun E σ H=>cR (ckX X A) E r σ H fun _ _=>False)
section
variable {X:Cx}{A:Nat->Addr}{e a:Expr}{es:List Expr}{aa:XA}{pos epos p:Pos}{x n:Str}{N lv i:Nat}{fa:Addr}{fd:FuncData}{ps:List Str}{r:XR}{rf:FnR}{s:XS}{body suite:List Stmt}{b₀:Stmt}
theorem ywB (F:FnOk X.prog X.w X.K X.mg X.base (CXr X.prog X.w) lv fa fd ps (spR (ckX X A) (N+1) rf)) (hm:X.mg x=some (.ref fa)) (hk:keepIn X.K (.ref fa)=true) (hb:Binds X.K fd ps [])
  (ha:∀ xe,ZA (X.wX xe) A (a::es) (N+1) aa) (hr:Room lv X.A:=by exact hr.mono (by omega)) (m:Nm x:=by exact ⟨by rfl',by rfl',by rfl'⟩) (hg:Gl X x:=by rfl) (he:starEach (a::es) X.env=(false,eval a X.env)::starEach es X.env:=by rfl) (hpl:(backTo pos (starEach es X.env)).any (·.1)=false:=by rfl) (hs:swapsWith (.Call (.Name x p) (a::es) [] pos) none epos.line X.env=pure false:=by rfl) :
  YB X A [.Expr (.Call (.Name x p) (a::es) [] pos) epos] (ywq rf aa):=⟨fun pins s σ H E XE I h hx=>by
 obtain ⟨W0,W,ρ,c,h',rfl,g,er,q⟩:=h
 obtain ⟨xs,h1,e1,e2⟩:=yj er
 refine wpAny_execs_cons (thn (wpAny_Expr_any (Q:=fun _ _=>False) ?_ I.quiet hs) fun _ _ z=>z.elim)
 refine wpAny_Call_Name_kw (yfQ I hg hm ?_ m.d)
 refine PySem.W.callWith_K (h₀:=X.base) I.ok.mod.kin hk (thn ((ha XE).of pos pins s σ W.H (fun vs H1=>spR (ckX X A) (N+1) rf (vs++[]) H1 (fun _ _=>False) E) I.wX ⟨W0,W,ρ,xs,h1,rfl,g,e1,fun vs W1 w1 l1 r1=>?_⟩) fun us s1 ⟨vs,H1,I1,r,q⟩=>⟨I1.kIn,?_⟩) he hpl
 .subst w1
  rw [append_nil]
  exact ⟨W1,xs,c,h',rfl,l1.ok,r1,(ha XE).len _ _ _ _ e1,e2,fun W' a w2 l2 n=>q W' a w2 (l1.trans l2) n⟩
 .have I2:=I1.unX I.ok
  exact thn (ywA F hr hb .nil I2 r q fun e s' z=>hx _ _ e s' I2 z) fun _ _ ⟨_,_,_,_,z⟩=>z.elim⟩
theorem Good.unset {K:Ck}{W0 W:Wd}{ρ:PSt}{σ:L2.St}(g:Good K W0 W ρ σ) (i:Nat):Good K W0 W (ρ.set i .no) (σ.set i none) where
 le:=g.le
 len:=by rw [length_set,length_set];exact g.len
 val:=fun j x e=>by
  by_cases q:i=j
  .subst q
   rw [List.getElem?_set] at e
   simp at e
  .rw [getElem?_set_ne q] at e
   obtain ⟨v,h1,h2⟩:=g.val j x e
   exact ⟨v,by rw [getElem?_set_ne q];exact h1,h2⟩
 own:=fun j d e=>by
  by_cases q:i=j
  .subst q
   rw [List.getElem?_set] at e
   simp at e
  .rw [getElem?_set_ne q] at e
   obtain ⟨p,h1,h2⟩:=g.own j d e
   exact ⟨p,by rw [getElem?_set_ne q];exact h1,h2⟩
 ne:=fun j k d d' hjk e1 e2=>by
  by_cases q:i=j
  .subst q
   rw [List.getElem?_set] at e1
   simp at e1
  .by_cases q':i=k
   .subst q'
    rw [List.getElem?_set] at e2
    simp at e2
   .rw [getElem?_set_ne q] at e1
    rw [getElem?_set_ne q'] at e2
    rw [getElem?_set_ne q,getElem?_set_ne q']
    exact g.ne j k d d' hjk e1 e2
theorem yAf {cs:List Str}{np hpos:Pos}(hb:YB X A body r) (hs:∀ a xe,ZSs (X.inX a xe) A (b₀::suite) s) (hc:∀ k∈cs,XSub X.K (xAd X.K k) (xAd X.K x)) (hm:X.mg x=some (.ref (xAd X.K x))) (hg:Gl X x:=by rfl) (hN:X.N.Nodup:=by exact nd) (hi:X.N[i]?=some n:=by rfl) (hk:X.env.scope.names.lookup n=some .local:=by rfl)
  (hst:X.stack=X.env::X.outer:=by rfl) (hL:X.env.frame=some X.env.locals:=by rfl) (hd:(x == ("__debug__":Str))=false:=by decide) :
  ZS X A (.Try body [.ExceptHandler (some (.Name x np)) (some n) (b₀::suite) hpos] [] [] pos) (yxL cs i r s):=⟨fun pins sh σ H D I h=>by
 refine yyU (t:=fun E σ H=>cR (ckX X A) E r σ H fun _ _=>False) (ts:=cS (ckX X A) s) hb.of (fun a xe=>(hs a xe).of) hg hm hN hi hk hst hL hd pins sh σ H D I ?_
 obtain ⟨W0,W,ρ,o,h',rfl,g,er,q⟩:=h
 unfold yxL at er
 split at er
 .rename_i c' h1 e1
  split at er
  .rename_i hc'
   split at er
   .rename_i ρ' h2 e2
    cases er
    refine ⟨W0,W,ρ,c',h1,rfl,g,e1,fun W' a w l na=>⟨xAd X.K c',a,rfl,rfl,hc c' hc',?_⟩⟩
    subst w
    have l2:=ymh (o:=ExO (xAd X.K c') a) l.ok na
    refine ⟨W0,yuc W' a (ExO (xAd X.K c') a),ρ.set i (.val (.exc c')),.nx ρ',h',rfl,((g.step l).step l2).set i ⟨a,rfl,yba⟩,e2,fun W2 σ2 w2 f2 g2=>?_⟩
    exact q W2 _ w2 ((l.trans l2).lf.trans f2) (g2.unset i)
   .cases er
  .cases er
 .cases er⟩
theorem yiW {K:Ck}{tb:List (Nat×Nat×Bool)}{xc:List (Str×Str×Bool)}{xy:List (Str×String×Bool)}(ht:∀ r∈tb,∀ (H:Hp) (a dx:Addr) (fs:List (Str×V)),H a=some (.ins (K.A r.1) dx fs)->IsI K.K H (.ref a) (.ref (K.A r.2.1)) r.2.2)
  (hx:∀ r∈xc,(∀ a,PySem.W.KitX K.K (.ref a) (.ref (xAd K.K r.1)) (fun h=>∃ ox,PySem.W.InstAt h a ox (xAd K.K r.1) none))/\PySem.W.kitOne K.K (.ref (xAd K.K r.1)) (.ref (xAd K.K r.2.1))=some r.2.2)
  (hy:∀ r∈xy,(∀ a,PySem.W.KitX K.K (.ref a) (.ref (xAd K.K r.1)) (fun h=>∃ ox,PySem.W.InstAt h a ox (xAd K.K r.1) none))/\PySem.W.kitOne K.K (.ref (xAd K.K r.1)) (.type r.2.1)=some r.2.2):ygg K (yyT K.K) (ykT tb xc xy):=by
 intro W xs vs Q z h' w r e q
 unfold ykT at e
 split at e
 .rename_i k c
  split at e
  .rename_i b hb
   cases e
   obtain ⟨v,u,rfl,⟨a,rfl,ha⟩,ru⟩:=yzm r
   refine .inr ⟨a,xAd K.K k,u,?_⟩
   unfold yzT at hb
   split at hb
   .rename_i c'
    obtain ⟨⟨k1,c1,b1⟩,hf,rfl⟩:=Option.map_eq_some_iff.mp hb
    have hm:=List.mem_of_find?_eq_some hf
    have hp:=List.find?_some hf
    simp only [and_eq_true,beq_iff_eq] at hp
    obtain ⟨rfl,rfl⟩:=hp
    obtain ⟨g1,g2⟩:=hx _ hm
    obtain rfl:u=.ref (xAd K.K c1):=ru
    exact ⟨_,_,rfl,w.le _ _ ha,g1 a,rfl,g2,q _ W rfl (.refl w) rfl⟩
   .rename_i n'
    obtain ⟨⟨k1,c1,b1⟩,hf,rfl⟩:=Option.map_eq_some_iff.mp hb
    have hm:=List.mem_of_find?_eq_some hf
    have hp:=List.find?_some hf
    simp only [and_eq_true,beq_iff_eq] at hp
    obtain ⟨rfl,rfl⟩:=hp
    obtain ⟨g1,g2⟩:=hy _ hm
    obtain rfl:u=.ty c1:=ru
    exact ⟨_,_,rfl,w.le _ _ ha,g1 a,rfl,g2,q _ W rfl (.refl w) rfl⟩
   .cases hb
  .cases e
 .exact .inl (yzs ht W xs vs Q z h' w r e q)
theorem ykX (hm:X.mg x=some (.ref (xAd X.K x))) (m:Nm x:=by exact ⟨by rfl',by rfl',by rfl'⟩) (hg:Gl X x:=by rfl):ZE X A (.Name x pos) (xC (.xcl x)):=wE (yjq (v:=.ref (xAd X.K x)) hg hm rfl m.d) (fun W0 W ρ σ Q y h' g e q=>by cases e;exact q _ W rfl (.refl g.ok) rfl)
end
end PX
namespace PX
open PySem L2 PySem.Spec PyProof.Rows
section
variable {X:Cx}{A:Nat->Addr}{pos kpos:Pos}{keys:List (Option Expr)}{values:List Expr}{ks:List Str}{a:XA}{v:Expr}{xv:XE}{k:Str}{j}
end
end PX
namespace L2
open PySem PySem.Spec PyProof.Rows
abbrev ExB:List Value:=[.type "ValueError",.type "Exception",.type "BaseException",.type "object"]
structure XKit (K:PySem.W.Frag) (D:Addr):Prop where
 ex:PySem.W.excIn K D ExB "ValueError.__new__" = true
 mb:mroIn K D (.type "BaseException")=some true
 ga:findIn K (.ref D) "__getattribute__" = some (some (.builtin "BaseException.__getattribute__"))
 gn:findIn K (.ref D) "__getattr__" = some none
 cl:findIn K (.ref D) "__class__" = some (some (.builtin "object.__class__"))
 mo:mroIn K D (.type "object")=some true
 ty:typeIn K (.ref D)=some (.type "type")
theorem XKit.cls {K:PySem.W.Frag}{D:Addr}(x:XKit K D):XCls K D:=XCls.of x.ex
theorem XKit.kit {K:PySem.W.Frag}{D:Addr}(x:XKit K D) (hn:PySem.W.specialIn K (.builtin "object.__class__") "__get__" = some (some (.builtin "getset_descriptor.__get__"))) (htk:PySem.W.takesIn K (.builtin "object.__class__")=some true) (a:Addr) :
  PySem.W.KitX K (.ref a) (.ref D) (fun h=>∃ ox,PySem.W.InstAt h a ox D none):=by
 have hc:∃ c0 dd cd sl,K.lookup D=some ⟨c0,dd,.cls cd,sl⟩:=by
  have:=x.mo
  unfold mroIn PySem.W.clsIn at this
  split at this
  .rename_i c0 dd cd sl e
   exact ⟨_,_,_,_,e⟩
  .cases this
 obtain ⟨c0,dd,cd,sl,lk⟩:=hc
 refine ysm lk (fun {prog w s A E Q} X q=>PySem.W.looks_mroIn X x.mb A Q E s (fun _ _ e=>e) q) x.ga x.gn ?_ x.mo
 unfold PySem.W.findObj PySem.W.clsIn
 rw [lk,x.cl]
 simp only [bind_some,hn,htk]
theorem yAg {K:PySem.W.Frag}{D:Addr}{T:String}{b:Bool}(hm:PySem.W.kitMeta T=true) (h:mroIn K D (.type T)=some b):PySem.W.kitOne K (.ref D) (.type T)=some b:=by
 unfold PySem.W.kitOne
 rw [if_neg (by intro z;cases eq_of_beq z)]
 show (if _ then _ else _)=_
 rw [if_pos hm]
 exact h
theorem ycW {K:PySem.W.Frag}{n:Str}{D:Addr}(h:nsIn K mainGlobals n=some (some (.ref D))):xAd K n=D:=by
 unfold xAd
 rw [h]
end L2
namespace PX
open PySem L2 PySem.Spec PyProof.Rows
theorem ybs {X:Cx}{A:Nat->Addr}{E:XK}{st:Stmt}{rest:List Stmt}{s:XS}{r r':XR}(h1:YS X A E st r) (hz:ZS X A st s) (h2:YSs X A E rest r'):YSs X A E (st::rest) (yeD s r r'):=⟨fun pins sh σ H D I h=>by
 obtain ⟨W0,W,ρ,c,h',rfl,g,er,q⟩:=h
 unfold yeD at er
 split at er
 .rename_i ρ' h1' e1
  refine (yjK hz h2).of pins sh σ _ D I ⟨W0,W,ρ,c,h',rfl,g,?_,q⟩
  unfold yrE
  rw [e1]
  exact er
 .cases er
 .exact (yX h1).of pins sh σ _ D I ⟨W0,W,ρ,c,h',rfl,g,er,q⟩⟩
section
variable {X:Cx}{A:Nat->Addr}{E:XK}{x:Str}
end
end PX
namespace PX
open PySem L2 PySem.Spec PyProof.Rows
section
variable {X:Cx}{A:Nat->Addr}{E:XK}{x n:Str}{r:XR}{i:Nat}{pos:Pos}
theorem ytl {cc:Expr}{body:List Stmt}{ca:XT}{b:XS}{fu:Nat}(hc:ZT X A cc ca) (hz:ZSs X A body b) (hy:YSs X A E body r) (hp:PassesOwn (model X.prog X.w) X.A X.env X.xe:=by exact PassesOwn.leaving):YS X A E (.While cc body [] pos) (yno fu ca b r):=⟨fun pins s σ H D I h=>by
 refine ymO (tb:=fun D σ H=>cS (ckX X A) b D σ H\/cRS (ckX X A) E r D σ H) hp hc.of (fun pins s σ H D I q=>?_) pins s σ H D I ?_
 .rcases q with q|q
  .exact hz.of pins s σ H D I q
  .exact hy.of pins s σ H D I q
 .obtain ⟨W0,W,ρ,c,h',rfl,g,er,q⟩:=h
  refine ⟨fun m σ H=>∃ W' ρ',W'.H=H/\Good (ckX X A) W0 W' ρ' σ/\ytd ca b r m ρ' W'.h=some (c,h'),⟨fu,W,ρ,rfl,g,er⟩,?_⟩
  rintro m σ' _ ⟨W',ρ',rfl,g',f⟩
  cases m with
  | zero=>cases f
  | succ m =>
   obtain ⟨k,h1,e1,f1⟩:=yj f
   refine ⟨W0,W',ρ',k,h1,rfl,g',e1,fun W1 w1 l1=>?_⟩
   subst w1
   cases k with
   | false=>cases f1
   | true =>
    rw [if_pos rfl] at f1 ⊢
    refine ⟨fun σ2 H2=>∃ W2 ρ2,W2.H=H2/\Good (ckX X A) W0 W2 ρ2 σ2/\ytd ca b r m ρ2 W2.h=some (c,h'),fun σ2 H2 ⟨W2,ρ2,e2,g2,f2⟩=>⟨m,Nat.lt_succ_self m,W2,ρ2,e2,g2,f2⟩,?_⟩
    split at f1
    .rename_i ρ2 h2 e2
     exact .inl ⟨W0,W1,ρ',.nx ρ2,h2,rfl,g'.step l1,e2,fun W2 σ2 w2 _ g2=>⟨W2,ρ2,rfl,g2,by rw [w2];exact f1⟩⟩
    .cases f1
    .exact .inr ⟨W0,W1,ρ',c,h',rfl,g'.step l1,f1,q⟩⟩
end
end PX
namespace L2
open PySem PySem.Spec PyProof.Rows
section
variable {X:Cx}{CX:CXT}{k:Nat}{f C:Addr}{fd:FuncData}{ps:List Str}{sp:Sp}{dvs:List V}{ds:List Value}{E:XK}
end
end L2
namespace PX
open PySem L2 PySem.Spec PyProof.Rows
section
variable {X:Cx}{A:Nat->Addr}{a:Expr}{es:List Expr}{aa:XA}{pos apos p py:Pos}{x y:Str}{N lv k:Nat}{fa:Addr}{fd:FuncData}{ps:List Str}{rf:FnR}
end
end PX
namespace L2
open PySem PySem.Spec PyProof.Rows PX
end L2
namespace PX
open PySem L2 PySem.Spec PyProof.Rows
section
variable {K:Ck}
end
section
variable {X:Cx}{A:Nat->Addr}{x:Str}
end
end PX
namespace PX
open PySem L2 PySem.Spec PyProof.Rows
def cRA (K:Ck) (E:XK) (r:XR):TA:=fun σ H _=>cR K E r σ H fun _ _=>False
structure YA (X:Cx) (A:Nat->Addr) (E:XK) (es:List Expr) (r:XR):Prop where of:PA X es (cRA (ckX X A) E r)
section
variable {X:Cx}{A:Nat->Addr}{E:XK}{o e a:Expr}{es:List Expr}{xa xb:XE}{aa:XA}{pos apos pos' p cpos:Pos}{m f x:Str}{n k kc:Nat}{pl:Sem Bool}{fa C:Addr}{fd:FuncData}{ps:List Str}{r r':XR}{rf:FnR}{lv:Nat}{sp:Sp}
theorem ygK (h:YE X A E a r) (hs:starEach (a::es) X.env=(false,eval a X.env)::starEach es X.env:=by rfl):YA X A E (a::es) r:=⟨fun pos pins s σ H Q I q=>yhJ (t:=fun _ _ _=>False) h.of (fun _ _ _ _ _ _ _ z=>z.elim) hs pos pins s σ H Q I q⟩
theorem yjL (h1:ZE X A a xa) (h2:YA X A E es r) (hs:starEach (a::es) X.env=(false,eval a X.env)::starEach es X.env:=by rfl):YA X A E (a::es) (yos xa r):=⟨fun pos pins s σ H Q I q=>by
 refine yhJ h1.of h2.of hs pos pins s σ H Q I ?_
 obtain ⟨W0,W,ρ,c,h',rfl,g,er,q⟩:=q
 obtain ⟨x,h1,e1,f1⟩:=yj er
 refine ⟨W0,W,ρ,x,h1,rfl,g,e1,fun v W1 w1 l1 r1=>?_⟩
 subst w1
 exact ⟨W0,W1,ρ,c,h',rfl,g.step l1,f1,fun W' a w l n=>q W' a w (l1.trans l) n⟩⟩
theorem yDy (h:YA X A E es r):YE X A E (.List es pos) r:=⟨fun pins s σ H Q I q=>ytW h.of pins s σ H Q I q⟩
theorem yjM (M:Mk X.K C fa) (F:FnOk X.prog X.w X.K X.mg X.base CX0 lv fa fd ps sp) (hm:X.mg x=some (.ref C)) (hb:Binds X.K fd ps [])
  (ha:YA X A E (a::es) r) (hr:Room (lv+1) X.A:=by exact hr.mono (by omega)) (m:Nm x:=by exact ⟨by rfl',by rfl',by rfl'⟩) (hg:Gl X x:=by rfl) (he:starEach (a::es) X.env=(false,eval a X.env)::starEach es X.env:=by rfl) (hpl:(backTo pos (starEach es X.env)).any (·.1)=false:=by rfl):YE X A E (.Call (.Name x p) (a::es) [] pos) r:=⟨fun pins s σ H Q I q=>ypx M F hr hg hm hb .nil ynX ha.of m.d he hpl pins s σ H Q I q⟩
theorem yAh {i:Nat}(ha:YE X A E a r) (ho:PE X o (yvc i):=by exact ymM rfl (by first|exact Or.inl rfl|exact Or.inr (Or.inl rfl)) (by rfl') (by rfl')) (hbase:attributeBase o "append" X.env (eval o X.env)=eval o X.env:=by rfl) (hfew:((backTo cpos (starEach [a] X.env)).all (fun x=>!x.1) && (backToKw cpos (keywordEach [] X.env)).all (fun x=>x.1.isSome)
   && decide ([a].length+([]:List Keyword).length+(if ([]:List Keyword).isEmpty then 0 else 1)<30))=true:=by rfl) (hline:(apos.endLine == cpos.line)=true:=by rfl) (hs:starEach [a] X.env=(false,eval a X.env)::starEach [] X.env:=by rfl) (hplain:(backTo cpos (starEach [] X.env)).any (·.1)=false:=by rfl) (hsw:swapsWith (.Call (.Attribute o "append" apos) [a] [] cpos) none pos.line X.env=pure false:=by rfl) :
  YS X A E (.Expr (.Call (.Attribute o "append" apos) [a] [] cpos) pos) (yot i r):=⟨fun pins s σ H D I q=>by
 refine yjr (yrZ plainAttrs_list PySem.F.slot_list_append PySem.F.type_list_append ygd ho (ygK ha hs).of hbase hfew hline hs hplain) hsw pins s σ H D I ?_
 obtain ⟨W0,W,ρ,c,h',rfl,g,er,q⟩:=q
 unfold yot at er
 split at er
 .rename_i xs0 hx
  obtain ⟨p,a1,a2,a3,a4,hf,vs,hp,r⟩:=g.own _ _ hx
  exact ⟨.ref p,a1,.inl ⟨rfl,_,SqL.of hp⟩,W0,W,ρ,c,h',rfl,g,er,fun W' a w l n=>q W' a w (g.le.trans l) n⟩
 .cases er⟩
theorem ybv (ho:ZE X A o xa) (hm:Meth X.K (A kc) m fa) (F:FnOk X.prog X.w X.K X.mg X.base (CXr X.prog X.w) k fa fd ps (spR (ckX X A) 1 rf)) (hb:Binds X.K fd ps []) (hp:yfa (CXr X.prog X.w) X E:=by exact yqG) (c:Cls X.K (A kc):=by exact T.cl _) (hr:Room k X.A:=by exact hr.mono (by omega)) (ht:eval (.Call (.Attribute o m apos) [] [] pos) X.env=(do
   let ov <- eval o X.env
   standAt apos.atName
   let (f,first) <- holding [ov] (getMethod ov m pl)
   callWith pos f first (backTo pos (starEach [] X.env)) (backToKw pos (keywordEach [] X.env))):=by rfl) :
  YE X A E (.Call (.Attribute o m apos) [] [] pos) (yV kc m rf xa yk):=⟨fun pins s σ H Q I h=>by
 refine ymV ho.of c hm F hr hb .nil hp ht pins s σ H Q I ?_
 obtain ⟨W0,W,ρ,c,h',rfl,g,er,q⟩:=h
 obtain ⟨x,h1,e1,f1⟩:=yj er
 refine ⟨W0,W,ρ,x,h1,rfl,g,e1,fun v W1 w1 l1 r1=>?_⟩
 subst w1
 split at f1
 .rename_i k' ns xs hi
  split at f1
  .rename_i hc
   obtain ⟨p,dx,vs,ev,hp,hl,rs⟩:=yek l1.ok hi r1
   rw [hc.1] at hp
   refine ⟨p,dx,_,ev,hp,yct hc.2,?_⟩
   exact ⟨W1,[x],c,h',rfl,l1.ok,⟨v,[],rfl,r1,rfl⟩,rfl,f1,fun W' a w3 l3 n=>q W' a w3 (l1.trans l3) n⟩
  .cases f1
 .cases f1⟩
end
end PX
namespace L2
open PySem PySem.Spec PyProof.Rows PX
section
variable {X:Cx}{e e':Expr}{es:List Expr}{te:TE}{t:TJ}{pos:Pos}
end
end L2
namespace PX
open PySem L2 PySem.Spec PyProof.Rows
section
variable {X:Cx}{A:Nat->Addr}{e e':Expr}{es:List Expr}{xa:XE}{r:XJ}{pos:Pos}
end
end PX
namespace PX
open PySem L2
section
variable {X:Cx}
theorem ywC:MtM X "list.pop" yzU:=by
 intro pins s σ H x vs v us Q I rx rv h
 obtain ⟨l,xs,i,y,rfl,rfl,hH,hi,hy,q⟩:=h
 have hl:=(List.getElem?_eq_some_iff.mp hy).1
 exact ysb pins s σ H _ _ v us Q I rx rv ⟨l,xs,i,i,y,rfl,rfl,hH,by omega,by omega,(ylM (n:=xs.length) (i:=(i:Int)) (j:=i) (by unfold ixN;rw [if_pos (by omega),if_pos (by omega)];rfl)).1,hy,q⟩
theorem ywD {α:Type}(its:List α) (i:Nat) (x:Int) (u:α) (hx:x=(i:Nat)) (hi:i<=its.length):(have k:=if x<0 then (x+(its.toArray.size:Int)).toNat else min x.toNat its.toArray.size;(its.toArray.extract 0 k).push u++its.toArray.extract k)=(its.take i++u::its.drop i).toArray:=by
 have e:(if x<0 then (x+(its.toArray.size:Int)).toNat else min x.toNat its.toArray.size)=i:=by
  rw [if_neg (by omega),size_toArray]
  omega
 show (its.toArray.extract 0 (if x<0 then (x+(its.toArray.size:Int)).toNat else min x.toNat its.toArray.size)).push u++its.toArray.extract (if x<0 then (x+(its.toArray.size:Int)).toNat else min x.toNat its.toArray.size)=_
 rw [e]
 apply Array.ext'
 simp [Array.toList_append,Array.toList_extract,List.extract_eq_take_drop]
 rw [List.take_of_length_le (by simp)]
theorem yuu:MtM X "list.insert" yFp:=by
 intro pins s σ H x vs v us Q I rx rv h
 obtain ⟨l,xs,i,y,rfl,rfl,hH,hi,hs,q⟩:=h
 cases rx
 generalize hx:(i:Int)=x at *
 obtain ⟨u1,u2,rfl,r1,r2⟩:=rv.two
 obtain ⟨t,rfl⟩:=r1
 obtain ⟨z,its,n,r,hl,e⟩:=I.lstM hH
 have hf:¬ (!Builtin.List.listFitsIndex x)=true:=by
  rw [fitsIndex_both (by omega) (by omega)]
  exact fun z=>Bool.noConfusion z
 have hsz:its.toArray.size<=sizeLine:=by rw [size_toArray];omega
 have m:=AutoSeq1.list_insert_list_int_val_1 l its.toArray n x t u2 hf hsz
 refine call_meets F.slot_list_insert ⟨_,e,rfl⟩ F.entry_list_insert (F.args_list_insert_3 _ _ _) m ⟨e,?_⟩
 have ea:=ywD its i x u2 hx.symm (by omega)
 refine ⟨.non,_,I.lset (its':=its.take i++u2::its.drop i) hH e ea ?_ ?_,rfl,q⟩
 .exact (r.take i).append (.cons r2 (r.drop i))
 .rw [length_append,length_cons,length_take,length_drop]
  have:(100000:Nat)<=sizeLine:=by decide
  omega
end
section
variable {X:Cx}{A:Nat->Addr}{a o:Expr}{es:List Expr}{xa:XE}{aa:XA}{apos cpos:Pos}{n:Nat}
theorem yAi (ho:ZE X A o xa) (ha:ZA X A (a::es) n aa) (hbase:attributeBase o "split" X.env (eval o X.env)=eval o X.env:=by rfl) (hfew:((backTo cpos (starEach (a::es) X.env)).all (fun x=>!x.1) && (backToKw cpos (keywordEach [] X.env)).all (fun x=>x.1.isSome)
   && decide ((a::es).length+([]:List Keyword).length+(if ([]:List Keyword).isEmpty then 0 else 1)<30))=true:=by rfl) (hline:(apos.endLine == cpos.line)=true:=by rfl) (hs:starEach (a::es) X.env=(false,eval a X.env)::starEach es X.env:=by rfl) (hplain:(backTo cpos (starEach es X.env)).any (·.1)=false:=by rfl) :
  ZO X A (.Call (.Attribute o "split" apos) (a::es) [] cpos) (yqy xa aa):=wO (yrZ PySem.F.plainAttrs_str PySem.F.slot_str_split PySem.F.type_str_split ynq ho.of ha.of hbase hfew hline hs hplain) (yte (K:=ckX X A) sE sA)
end
end PX
namespace My
open PySem L2 PX
theorem yFq:("":Str).length=0:=by rfl'
theorem yAj:(" ":Str).length=1:=by rfl'
theorem yAk:(" )":Str).length=2:=by rfl'
theorem yFr:(" ) else ( )":Str).length=11:=by rfl'
theorem yFs:(" ; ":Str).length=3:=by rfl'
theorem yAl:(" else ":Str).length=6:=by rfl'
theorem yAm:(" or ":Str).length=4:=by rfl'
theorem yFt:("(":Str).length=1:=by rfl'
theorem yAn:("( ":Str).length=2:=by rfl'
theorem yDz:(")":Str).length=1:=by rfl'
theorem ywE:(", not ":Str).length=6:=by rfl'
theorem ywF:("abcdefgh":Str).length=8:=by rfl'
theorem ywG:("abcdefghijklmnopqrstuvwxyz":Str).length=26:=by rfl'
theorem yDA:("either":Str).length=6:=by rfl'
theorem ywH:("either ":Str).length=7:=by rfl'
theorem yDB:("else":Str).length=4:=by rfl'
theorem yDC:("if":Str).length=2:=by rfl'
theorem ywI:("if ":Str).length=3:=by rfl'
theorem yDD:("if c ( ":Str).length=7:=by rfl'
theorem yDE:("let":Str).length=3:=by rfl'
theorem yDF:("let a ":Str).length=6:=by rfl'
theorem ywJ:("no fault's name: ":Str).length=17:=by rfl'
theorem ywK:("no number: ":Str).length=11:=by rfl'
theorem ywL:("no part begins so: ":Str).length=19:=by rfl'
theorem ywM:("no slot: ":Str).length=9:=by rfl'
theorem yDG:("on":Str).length=2:=by rfl'
theorem yDH:("or":Str).length=2:=by rfl'
theorem yDI:("put":Str).length=3:=by rfl'
theorem yDJ:("take":Str).length=4:=by rfl'
theorem yDK:("throw":Str).length=5:=by rfl'
theorem yDL:("try":Str).length=3:=by rfl'
theorem yBS:("wait":Str).length=4:=by rfl'
theorem yBT:("wait ;  ":Str).length=8:=by rfl'
theorem ytm:("wanted is ":Str).length=10:=by rfl'
theorem ywN {v0 v1:PV}{f:Nat->Fn}{h:AH}:ygI "long" f (.ins 1 ["slot","number"] [v0,v1]) h=f 1 [.ins 1 ["slot","number"] [v0,v1]] h:=ycV (by rfl')
theorem yrF {v0 v1 v2 v3:PV}{f:Nat->Fn}{h:AH}:ygI "long" f (.ins 2 ["word","slot","one","other"] [v0,v1,v2,v3]) h=f 2 [.ins 2 ["word","slot","one","other"] [v0,v1,v2,v3]] h:=ycV (by rfl')
theorem yuv {v0 v1:PV}{f:Nat->Fn}{h:AH}:ygI "long" f (.ins 3 ["slot","place"] [v0,v1]) h=f 3 [.ins 3 ["slot","place"] [v0,v1]] h:=ycV (by rfl')
theorem ywO {v0 v1:PV}{f:Nat->Fn}{h:AH}:ygI "long" f (.ins 4 ["place","slot"] [v0,v1]) h=f 4 [.ins 4 ["place","slot"] [v0,v1]] h:=ycV (by rfl')
theorem yms {v0 v1 v2:PV}{h:AH}:yoq [5,6,7] "parts" (.ins 5 ["slot","parts","others"] [v0,v1,v2]) h=some (v1,h):=ygH (by decide) (by rfl') (by rw [show idxOf ("parts":Str) ["slot","parts","others"]=1 by rfl'];rfl)
theorem ykY {v0 v1 v2:PV}{h:AH}:yoq [5,6,7] "others" (.ins 5 ["slot","parts","others"] [v0,v1,v2]) h=some (v2,h):=ygH (by decide) (by rfl') (by rw [show idxOf ("others":Str) ["slot","parts","others"]=2 by rfl'];rfl)
theorem yxM {v0 v1 v2:PV}{f:Nat->Fn}{h:AH}:ygI "long" f (.ins 5 ["slot","parts","others"] [v0,v1,v2]) h=f 5 [.ins 5 ["slot","parts","others"] [v0,v1,v2]] h:=ycV (by rfl')
theorem yia {v0 v1:PV}{h:AH}:yoq [5,6,7] "parts" (.ins 6 ["parts","others"] [v0,v1]) h=some (v0,h):=ygH (by decide) (by rfl') (by rw [show idxOf ("parts":Str) ["parts","others"]=0 by rfl'];rfl)
theorem yhv {v0 v1:PV}{h:AH}:yoq [5,6,7] "others" (.ins 6 ["parts","others"] [v0,v1]) h=some (v1,h):=ygH (by decide) (by rfl') (by rw [show idxOf ("others":Str) ["parts","others"]=1 by rfl'];rfl)
theorem yrG {v0 v1:PV}{f:Nat->Fn}{h:AH}:ygI "long" f (.ins 6 ["parts","others"] [v0,v1]) h=f 6 [.ins 6 ["parts","others"] [v0,v1]] h:=ycV (by rfl')
theorem ykZ {v0 v1 v2 v3:PV}{h:AH}:yoq [5,6,7] "parts" (.ins 7 ["parts","name","slot","others"] [v0,v1,v2,v3]) h=some (v0,h):=ygH (by decide) (by rfl') (by rw [show idxOf ("parts":Str) ["parts","name","slot","others"]=0 by rfl'];rfl)
theorem yjN {v0 v1 v2 v3:PV}{h:AH}:yoq [5,6,7] "others" (.ins 7 ["parts","name","slot","others"] [v0,v1,v2,v3]) h=some (v3,h):=ygH (by decide) (by rfl') (by rw [show idxOf ("others":Str) ["parts","name","slot","others"]=3 by rfl'];rfl)
theorem ywP {v0 v1 v2 v3:PV}{f:Nat->Fn}{h:AH}:ygI "long" f (.ins 7 ["parts","name","slot","others"] [v0,v1,v2,v3]) h=f 7 [.ins 7 ["parts","name","slot","others"] [v0,v1,v2,v3]] h:=ycV (by rfl')
theorem ytn {v0 v1:PV}{f:Nat->Fn}{h:AH}:ygI "long" f (.ins 8 ["name","slot"] [v0,v1]) h=f 8 [.ins 8 ["name","slot"] [v0,v1]] h:=ycV (by rfl')
theorem yuw {f:Nat->Fn}{h:AH}:ygI "long" f (.ins 9 [] []) h=f 9 [.ins 9 [] []] h:=ycV (by rfl')
section
def sl_ (s:String):Array (Lean.TSyntax `Lean.Parser.Tactic.simpLemma):=(s.splitOn " ").toArray.map fun s=>⟨Lean.mkNode `Lean.Parser.Tactic.simpLemma #[Lean.mkNullNode,Lean.mkNullNode,Lean.mkIdent s.toName]⟩
local macro_rules | `(tactic| simp_all? only [$ls,*])=>`(tactic| simp only [$(sl_ "ydi yCF yCG ynj yzt x_c yFS yCI yFT yFU ywh yzu yzv yCJ yFV yCK yFW yzw yuk yCL yCM yFX yCN yCO yCP x_call yFY yFZ yqk yzx ywi yzy yCQ yCR yCS yzz yCT yCU yCV yzA yzB yzC ywj yzD yCW yCX yCY yCZ yDa yDb yDc x_i yGa yDd yql yul yDe yDf yDg yDh yDi yzF ydJ yDj yDk yDl yDm yDn ysR yDo yml yGb yDq yzG ysS yzH yzI yzJ ywk yzK yzL yCH bind_some Option.bind_none List.set_cons_zero List.set_cons_succ length_cons length_nil decide_eq_true_eq Bool.not_eq_true' decide_eq_false_iff_not if_true if_false ite_true ite_false and_self Int.reducePow Int.reduceToNat Int.reduceLT Int.reduceLE Int.reduceNeg Int.reduceAdd Int.reduceSub Nat.reduceLT Nat.reduceLeDiff Nat.reduceAdd true_and and_true reduceIte Nat.reduceEqDiff eq_self ysV yxI yxJ yxK yBQ yDs yDt yDu Int.reduceEq Bool.not_true Bool.not_false yAj yAk yAl yAm yAn ywE ywF ywG ywH ywI ywJ ywK ywL ywM ytm yms ykY yia yhv ykZ yjN"),*,$ls,*])
local macro_rules | `(tactic| symm)=>`(tactic| simp_all? only [ydi])
def tbO (cs:List Nat):List (Nat×Nat×Bool):=cs.flatMap fun i=>cs.map fun j=>(i,j,i == j)
def yjO:List (Nat×Nat×Bool):=tbO [1,2,3,4,5,6,7,8,9]
noncomputable def ywQ:List (Str×Str×Bool):=[("NoDeed","NoDeed",true),("NoDeed","NoBoxes",false),("NoDeed","NoHands",false),("NoDeed","NoHand",false),("NoDeed","NoRow",false)]
def ywR:List (Str×String×Bool):=[("NoDeed","ValueError",true)]
def ydl:Fn:=yda 2 (ybq (xCB (yzp) (yb (xFz (yho (xIS (ye 0)) [1] (xOp (yzj) (ye 0) (ye 1)))) (yk))))
def ycL:Fn:=yda 2 (yw (yck (xOr (ymf (yH (yiN (oLe) (oLe) (xC (.int 1)) (xCB (yoo) (yb (ye 0) (yk))) (xC (.int 20))))) (ymf (yH (yP ydl (yb (ye 0) (yb (xC (.str "0123456789")) (yk))))))) (ybq (xC .non)) (ybm)) (yw (yck (yyV (yH (xOp (oEq) (xOp (ywc) (ye 0) (xC (.int 0))) (xC (.str "0")))) (yH (xOp (oNe) (ye 0) (xC (.str "0"))))) (ybq (xC .non)) (ybm)) (yw (ybc (xCB (yqg) (yb (ye 0) (yk))) (yl 1)) (ybq (xIf (yH (xOp (oLt) (ye 1) (xC (.int 18446744073709551616)))) (ye 1) (xC .non))))))
def yfj:Fn:=yda 1 (ybq (xOp (yqo false) (ye 0) (xC (.tup [.str "plus",.str "minus",.str "times",.str "less",.str "same"]))))
def yfk:Fn:=yda 1 (ybq (yod (xOp (oEq) (xCB (yoo) (yb (ye 0) (yk))) (xC (.int 1))) (xOp (yzj) (ye 0) (xC (.str "abcdefgh")))))
def yfl:Fn:=yda 1 (ybq (yod (yiN (oLe) (oLe) (xC (.int 1)) (xCB (yoo) (yb (ye 0) (yk))) (xC (.int 8))) (yP ydl (yb (ye 0) (yb (xC (.str "abcdefghijklmnopqrstuvwxyz")) (yk))))))
def yea:List PV->AH->Option (Nd×AH):=yqi 3 1 (yw (ydu [1,2,3,4,5,7,8] 0 "slot" (ye 1)) (ydu [1] 0 "number" (ye 2)))
def yde:List PV->AH->Option (Nd×AH):=yqi 5 2 (yw (ydu [2] 0 "word" (ye 1)) (yw (ydu [1,2,3,4,5,7,8] 0 "slot" (ye 2)) (yw (ydu [2] 0 "one" (ye 3)) (ydu [2] 0 "other" (ye 4)))))
def ydK:List PV->AH->Option (Nd×AH):=yqi 3 3 (yw (ydu [1,2,3,4,5,7,8] 0 "slot" (ye 1)) (ydu [3,4] 0 "place" (ye 2)))
def yeb:List PV->AH->Option (Nd×AH):=yqi 3 4 (yw (ydu [3,4] 0 "place" (ye 1)) (ydu [1,2,3,4,5,7,8] 0 "slot" (ye 2)))
def yeG:List PV->AH->Option (Nd×AH):=yqi 4 5 (yw (ydu [1,2,3,4,5,7,8] 0 "slot" (ye 1)) (yw (ydu [5,6,7] 0 "parts" (xFz (ysn (yeA) (yb (ye 2) (yk))))) (ydu [5,6,7] 0 "others" (xFz (ysn (yeA) (yb (ye 3) (yk)))))))
def ydf:List PV->AH->Option (Nd×AH):=yqi 3 6 (yw (ydu [5,6,7] 0 "parts" (xFz (ysn (yeA) (yb (ye 1) (yk))))) (ydu [5,6,7] 0 "others" (xFz (ysn (yeA) (yb (ye 2) (yk))))))
def yec:List PV->AH->Option (Nd×AH):=yqi 5 7 (yw (ydu [5,6,7] 0 "parts" (xFz (ysn (yeA) (yb (ye 1) (yk))))) (yw (ydu [7,8] 0 "name" (ye 2)) (yw (ydu [1,2,3,4,5,7,8] 0 "slot" (ye 3)) (ydu [5,6,7] 0 "others" (xFz (ysn (yeA) (yb (ye 4) (yk))))))))
def ydv:List PV->AH->Option (Nd×AH):=yqi 3 8 (yw (ydu [7,8] 0 "name" (ye 1)) (ydu [1,2,3,4,5,7,8] 0 "slot" (ye 2)))
def yib:Fn:=yda 1 (ybq (xC (.int 0)))
def yiX:Fn:=yda 1 (ybq (xC (.int 1)))
def ygk:Fn:=yda 1 (ybq (xC (.int 1)))
def yic:Fn:=yda 1 (ybq (xC (.int 1)))
def yiY:Fn:=yda 1 (ybq (xC (.int 1)))
def yhe:Fn:=yda 1 (ybq (xC (.int 1)))
def yid:Fn:=yda 1 (ybq (xC (.int 1)))
mutual
noncomputable def yfm:Nat->Nat->Fn
 | 0,_=>fun _ _=>none
 | n+1,k=>match k with|0=>yib|1=>yiX|2=>ygk|3=>yic|4=>yiY|5=>ygl n|6=>ydB n|7=>yfD n|8=>yhe|9=>yid|_=>fun _ _=>none
noncomputable def ybj:Nat->Fn
 | 0=>fun _ _=>none
 | n+1=>yda 1 (ybq (xCB (yoV) (yb (xFz (yho (xIL (ye 0)) [] (yhr "long" (yfm n) (ye 0)))) (yk))))
noncomputable def ygl:Nat->Fn
 | 0=>fun _ _=>none
 | n+1=>yda 1 (ybq (xOp yfe (xOp yfe (xC (.int 2)) (yP (ybj n) (yb (ynh [5,6,7] "parts" (ye 0)) (yk)))) (yP (ybj n) (yb (ynh [5,6,7] "others" (ye 0)) (yk)))))
noncomputable def ydB:Nat->Fn
 | 0=>fun _ _=>none
 | n+1=>yda 1 (ybq (xOp yfe (xOp yfe (xC (.int 3)) (yP (ybj n) (yb (ynh [5,6,7] "parts" (ye 0)) (yk)))) (yP (ybj n) (yb (ynh [5,6,7] "others" (ye 0)) (yk)))))
noncomputable def yfD:Nat->Fn
 | 0=>fun _ _=>none
 | n+1=>yda 1 (ybq (xOp yfe (xOp yfe (xC (.int 3)) (yP (ybj n) (yb (ynh [5,6,7] "parts" (ye 0)) (yk)))) (yP (ybj n) (yb (ynh [5,6,7] "others" (ye 0)) (yk)))))
end
def ycC:List PV->AH->Option (Nd×AH):=yqi 2 10 (yw (ydu [10] 0 "words" (xFz (ysn (yeA) (yb (ye 1) (yk))))) (ydu [10] 0 "at" (xC (.int 0))))
def yem:Fn:=yda 1 (yw (yck (yH (xOp (oEq) (ye 0) (xC (.str "")))) (ybq (xFz (ydR (yk)))) (ybm)) (ybq (xBM isStr (yhc) (ye 0) (yb (xC (.str " ")) (yk)))))
def yO:Fn:=yda 1 (yw (yck (yH (xOp (oLt) (ynh [10] "at" (ye 0)) (xCB (yhq) (yb (ynh [10] "words" (ye 0)) (yk))))) (ybq (xOp (yfM) (ynh [10] "words" (ye 0)) (ynh [10] "at" (ye 0)))) (ybm)) (ybq (xC .non)))
def yL:Fn:=yda 2 (yw (ybc (yu 10 "ahead" yO (ye 0) (yk)) (yl 1)) (yw (yck (yH (xOp (ysL) (ye 1) (xC .non))) (yhs) (ybm)) (yw (yta [10] "at" (ye 0) (xOp yfe (ynh [10] "at" (ye 0)) (xC (.int 1)))) (ybq (ye 1)))))
def yq:Fn:=yda 3 (yw (ybc (yu 10 "taken" yL (ye 0) (yk)) (yl 2)) (yck (yH (xOp (oNe) (ye 2) (ye 1))) (yhs) (ybm)))
def yh:Fn:=yda 2 (yw (ybc (yu 10 "taken" yL (ye 0) (yk)) (yl 1)) (yw (yck (ymf (yH (yP yfk (yb (ye 1) (yk))))) (yhs) (ybm)) (ybq (ye 1))))
def ybb:Fn:=yda 2 (yw (ybc (yu 10 "taken" yL (ye 0) (yk)) (yl 1)) (yw (yck (ymf (yH (yP yfl (yb (ye 1) (yk))))) (yhs) (ybm)) (ybq (ye 1))))
def ybK:Fn:=yda 3 (yw (ybc (yu 10 "taken" yL (ye 0) (yk)) (yl 1)) (yw (ybc (yP ycL (yb (ye 1) (yk))) (yl 2)) (yw (yck (yH (xOp (ysL) (ye 2) (xC .non))) (yhs) (ybm)) (ybq (ye 2)))))
def ybL:Fn:=yda 5 (yw (ybc (yu 10 "slot_taken" yh (ye 0) (yk)) (yl 2)) (yw (ybc (yu 10 "slot_taken" yh (ye 0) (yk)) (yl 3)) (yw (ybc (yu 10 "slot_taken" yh (ye 0) (yk)) (yl 4)) (ybq (xFz (ygG yde (yb (ye 1) (yb (ye 2) (yb (ye 3) (yb (ye 4) (yk)))))))))))
def ybQ:Fn:=yda 5 (yw (yck (yH (xOp (oEq) (ye 1) (xC (.str "let")))) (yw (ybc (yu 10 "slot_taken" yh (ye 0) (yk)) (yl 2)) (ybq (xFz (ygG yea (yb (ye 2) (yb (yu 10 "number_taken" ybK (ye 0) (yk)) (yk))))))) (ybm)) (yw (yck (yH (xOp (oEq) (ye 1) (xC (.str "take")))) (yw (ybc (yu 10 "slot_taken" yh (ye 0) (yk)) (yl 2)) (ybq (xFz (ygG ydK (yb (ye 2) (yb (yu 10 "slot_taken" yh (ye 0) (yk)) (yk))))))) (ybm)) (yw (yck (yH (xOp (oEq) (ye 1) (xC (.str "put")))) (yw (ybc (yu 10 "slot_taken" yh (ye 0) (yk)) (yl 3)) (ybq (xFz (ygG yeb (yb (ye 3) (yb (yu 10 "slot_taken" yh (ye 0) (yk)) (yk))))))) (ybm)) (yw (yck (yH (xOp (oEq) (ye 1) (xC (.str "throw")))) (yw (ybc (yu 10 "name_taken" ybb (ye 0) (yk)) (yl 4)) (ybq (xFz (ygG ydv (yb (ye 4) (yb (yu 10 "slot_taken" yh (ye 0) (yk)) (yk))))))) (ybm)) (yw (yck (yH (xOp (oEq) (ye 1) (xC (.str "wait")))) (ybq (xFz (yni 9))) (ybm)) (yw (yck (yH (yP yfj (yb (ye 1) (yk)))) (ybq (yu 10 "reckon_taken" ybL (ye 0) (yb (ye 1) (yk)))) (ybm)) (yhs)))))))
def yeW:XT:=yH (xOp (oEq) (yu 10 "ahead" yO (ye 0) (yk)) (xC (.str ";")))
mutual
noncomputable def yI:Nat->Fn
 | 0=>fun _ _=>none
 | n+1=>yda 3 (yw (yck (xOr (yH (xOp (ysL) (yu 10 "ahead" yO (ye 0) (yk)) (xC .non))) (yH (xOp (oEq) (yu 10 "ahead" yO (ye 0) (yk)) (xC (.str ")"))))) (ybq (xFz (ydR (yk)))) (ybm)) (yw (yoh (ydR (yb (yu 10 "part_taken" (yx n) (ye 0) (yb (ye 1) (yk))) (yk))) 2) (yw (yiP 1000 (yeW) (yw (yeh (yu 10 "pass_over" yq (ye 0) (yb (xC (.str ";")) (yk)))) (yfF 2 (yu 10 "part_taken" (yx n) (ye 0) (yb (ye 1) (yk)))))) (yze 2 (ybq (ye 2))))))
noncomputable def yp:Nat->Fn
 | 0=>fun _ _=>none
 | n+1=>yda 3 (yw (yeh (yu 10 "pass_over" yq (ye 0) (yb (xC (.str "(")) (yk)))) (yw (ybc (yu 10 "list_taken" (yI n) (ye 0) (yb (ye 1) (yk))) (yl 2)) (yw (yeh (yu 10 "pass_over" yq (ye 0) (yb (xC (.str ")")) (yk)))) (ybq (ye 2)))))
noncomputable def yx:Nat->Fn
 | 0=>fun _ _=>none
 | n+1=>yda 3 (yw (yck (yH (xOp (oGt) (ye 1) (xC (.int 8)))) (yhs) (ybm)) (yw (ybc (yu 10 "taken" yL (ye 0) (yk)) (yl 2)) (yw (yck (yH (xOp (oEq) (ye 2) (xC (.str "if")))) (ybq (yu 10 "if_taken" (ycD n) (ye 0) (yb (xOp yfe (ye 1) (xC (.int 1))) (yk)))) (ybm)) (yw (yck (yH (xOp (oEq) (ye 2) (xC (.str "either")))) (ybq (yu 10 "either_taken" (ybM n) (ye 0) (yb (xOp yfe (ye 1) (xC (.int 1))) (yk)))) (ybm)) (yw (yck (yH (xOp (oEq) (ye 2) (xC (.str "try")))) (ybq (yu 10 "try_taken" (ycq n) (ye 0) (yb (xOp yfe (ye 1) (xC (.int 1))) (yk)))) (ybm)) (ybq (yu 10 "plain_taken" ybQ (ye 0) (yb (ye 2) (yk)))))))))
noncomputable def ycD:Nat->Fn
 | 0=>fun _ _=>none
 | n+1=>yda 5 (yw (ybc (yu 10 "slot_taken" yh (ye 0) (yk)) (yl 2)) (yw (ybc (yu 10 "side_taken" (yp n) (ye 0) (yb (ye 1) (yk))) (yl 3)) (yw (yeh (yu 10 "pass_over" yq (ye 0) (yb (xC (.str "else")) (yk)))) (yw (ybc (yu 10 "side_taken" (yp n) (ye 0) (yb (ye 1) (yk))) (yl 4)) (ybq (xFz (ygG yeG (yb (ye 2) (yb (ye 3) (yb (ye 4) (yk)))))))))))
noncomputable def ybM:Nat->Fn
 | 0=>fun _ _=>none
 | n+1=>yda 4 (yw (ybc (yu 10 "side_taken" (yp n) (ye 0) (yb (ye 1) (yk))) (yl 2)) (yw (yeh (yu 10 "pass_over" yq (ye 0) (yb (xC (.str "or")) (yk)))) (yw (ybc (yu 10 "side_taken" (yp n) (ye 0) (yb (ye 1) (yk))) (yl 3)) (ybq (xFz (ygG ydf (yb (ye 2) (yb (ye 3) (yk)))))))))
noncomputable def ycq:Nat->Fn
 | 0=>fun _ _=>none
 | n+1=>yda 6 (yw (ybc (yu 10 "side_taken" (yp n) (ye 0) (yb (ye 1) (yk))) (yl 2)) (yw (yeh (yu 10 "pass_over" yq (ye 0) (yb (xC (.str "on")) (yk)))) (yw (ybc (yu 10 "name_taken" ybb (ye 0) (yk)) (yl 3)) (yw (ybc (yu 10 "slot_taken" yh (ye 0) (yk)) (yl 4)) (yw (ybc (yu 10 "side_taken" (yp n) (ye 0) (yb (ye 1) (yk))) (yl 5)) (ybq (xFz (ygG yec (yb (ye 2) (yb (ye 3) (yb (ye 4) (yb (ye 5) (yk)))))))))))))
end
def yhf:Fn:=yda 3 (yw (ybc (yvD (ygG ycC (yb (yP yem (yb (ye 0) (yk))) (yk)))) (yl 1)) (yw (ybc (yu 10 "list_taken" (yI 45) (ye 1) (yb (xC (.int 0)) (yk))) (yl 2)) (yw (yck (yH (xOp (yqb) (yu 10 "ahead" yO (ye 1) (yk)) (xC .non))) (yhs) (ybm)) (yw (yck (yH (xOp (oGt) (xOp yfe (yP (ybj 45) (yb (ye 2) (yk))) (xC (.int 1))) (xC (.int 80)))) (yhs) (ybm)) (ybq (ye 2))))))
def ybl:FnR:=ylH 2 (yrE (ybc (yu 10 "ahead" yO (ye 0) (yk)) (yl 1)) (rIf (yH (xOp (ysL) (ye 1) (xC .non))) (yfg "NoDeed" (xC (.str "the text ends too soon"))) (rNo)))
def yJ:FnR:=ylH 3 (yeD (ybc (yu 10 "taken" yL (ye 0) (yk)) (yl 2)) (yV 10 "taken" ybl (ye 0) (yk)) (rIf (yH (xOp (oNe) (ye 2) (ye 1))) (yfg "NoDeed" (xOp ybJ (xOp ybJ (xOp ybJ (xC (.str "wanted is ")) (ye 1)) (xC (.str ", not "))) (ye 2))) (rNo)))
def yr:FnR:=ylH 2 (yeD (ybc (yu 10 "taken" yL (ye 0) (yk)) (yl 1)) (yV 10 "taken" ybl (ye 0) (yk)) (rIf (ymf (yH (yP yfk (yb (ye 1) (yk))))) (yfg "NoDeed" (xOp ybJ (xC (.str "no slot: ")) (ye 1))) (rNo)))
def ybp:FnR:=ylH 2 (yeD (ybc (yu 10 "taken" yL (ye 0) (yk)) (yl 1)) (yV 10 "taken" ybl (ye 0) (yk)) (rIf (ymf (yH (yP yfl (yb (ye 1) (yk))))) (yfg "NoDeed" (xOp ybJ (xC (.str "no fault's name: ")) (ye 1))) (rNo)))
def ybw:FnR:=ylH 3 (yeD (ybc (yu 10 "taken" yL (ye 0) (yk)) (yl 1)) (yV 10 "taken" ybl (ye 0) (yk)) (yrE (ybc (yP ycL (yb (ye 1) (yk))) (yl 2)) (rIf (yH (xOp (ysL) (ye 2) (xC .non))) (yfg "NoDeed" (xOp ybJ (xC (.str "no number: ")) (ye 1))) (rNo))))
def ybx:FnR:=ylH 5 (yeD (ybc (yu 10 "slot_taken" yh (ye 0) (yk)) (yl 2)) (yV 10 "slot_taken" yr (ye 0) (yk)) (yeD (ybc (yu 10 "slot_taken" yh (ye 0) (yk)) (yl 3)) (yV 10 "slot_taken" yr (ye 0) (yk)) (yV 10 "slot_taken" yr (ye 0) (yk))))
def ybF:FnR:=ylH 5 (rIf (yH (xOp (oEq) (ye 1) (xC (.str "let")))) (yeD (ybc (yu 10 "slot_taken" yh (ye 0) (yk)) (yl 2)) (yV 10 "slot_taken" yr (ye 0) (yk)) (yos (ye 2) (yV 10 "number_taken" ybw (ye 0) (yk)))) (rIf (yH (xOp (oEq) (ye 1) (xC (.str "take")))) (yeD (ybc (yu 10 "slot_taken" yh (ye 0) (yk)) (yl 2)) (yV 10 "slot_taken" yr (ye 0) (yk)) (yos (ye 2) (yV 10 "slot_taken" yr (ye 0) (yk)))) (rIf (yH (xOp (oEq) (ye 1) (xC (.str "put")))) (yeD (ybc (yu 10 "slot_taken" yh (ye 0) (yk)) (yl 3)) (yV 10 "slot_taken" yr (ye 0) (yk)) (yos (ye 3) (yV 10 "slot_taken" yr (ye 0) (yk)))) (rIf (yH (xOp (oEq) (ye 1) (xC (.str "throw")))) (yeD (ybc (yu 10 "name_taken" ybb (ye 0) (yk)) (yl 4)) (yV 10 "name_taken" ybp (ye 0) (yk)) (yos (ye 4) (yV 10 "slot_taken" yr (ye 0) (yk)))) (rIf (yH (xOp (oEq) (ye 1) (xC (.str "wait")))) (rNo) (rIf (yH (yP yfj (yb (ye 1) (yk)))) (yV 10 "reckon_taken" ybx (ye 0) (yb (ye 1) (yk))) (yfg "NoDeed" (xOp ybJ (xC (.str "no part begins so: ")) (ye 1)))))))))
mutual
noncomputable def yK:Nat->FnR
 | 0=>fun _ _=>none
 | n+1=>ylH 3 (rIf (xOr (yH (xOp (ysL) (yu 10 "ahead" yO (ye 0) (yk)) (xC .non))) (yH (xOp (oEq) (yu 10 "ahead" yO (ye 0) (yk)) (xC (.str ")"))))) (rNo) (yeD (yoh (ydR (yb (yu 10 "part_taken" (yx 45) (ye 0) (yb (ye 1) (yk))) (yk))) 2) (yV 10 "part_taken" (yD n) (ye 0) (yb (ye 1) (yk))) (yno 1000 (yeW) (yw (yeh (yu 10 "pass_over" yq (ye 0) (yb (xC (.str ";")) (yk)))) (yfF 2 (yu 10 "part_taken" (yx 45) (ye 0) (yb (ye 1) (yk))))) (yeD (yeh (yu 10 "pass_over" yq (ye 0) (yb (xC (.str ";")) (yk)))) (yV 10 "pass_over" yJ (ye 0) (yb (xC (.str ";")) (yk))) (yot 2 (yV 10 "part_taken" (yD n) (ye 0) (yb (ye 1) (yk))))))))
noncomputable def yv:Nat->FnR
 | 0=>fun _ _=>none
 | n+1=>ylH 3 (yeD (yeh (yu 10 "pass_over" yq (ye 0) (yb (xC (.str "(")) (yk)))) (yV 10 "pass_over" yJ (ye 0) (yb (xC (.str "(")) (yk))) (yeD (ybc (yu 10 "list_taken" (yI 45) (ye 0) (yb (ye 1) (yk))) (yl 2)) (yV 10 "list_taken" (yK n) (ye 0) (yb (ye 1) (yk))) (yV 10 "pass_over" yJ (ye 0) (yb (xC (.str ")")) (yk)))))
noncomputable def yD:Nat->FnR
 | 0=>fun _ _=>none
 | n+1=>ylH 3 (rIf (yH (xOp (oGt) (ye 1) (xC (.int 8)))) (yfg "NoDeed" (xC (.str "a part lies too deep"))) (yeD (ybc (yu 10 "taken" yL (ye 0) (yk)) (yl 2)) (yV 10 "taken" ybl (ye 0) (yk)) (rIf (yH (xOp (oEq) (ye 2) (xC (.str "if")))) (yV 10 "if_taken" (yce n) (ye 0) (yb (xOp yfe (ye 1) (xC (.int 1))) (yk))) (rIf (yH (xOp (oEq) (ye 2) (xC (.str "either")))) (yV 10 "either_taken" (yby n) (ye 0) (yb (xOp yfe (ye 1) (xC (.int 1))) (yk))) (rIf (yH (xOp (oEq) (ye 2) (xC (.str "try")))) (yV 10 "try_taken" (ybR n) (ye 0) (yb (xOp yfe (ye 1) (xC (.int 1))) (yk))) (yV 10 "plain_taken" ybF (ye 0) (yb (ye 2) (yk))))))))
noncomputable def yce:Nat->FnR
 | 0=>fun _ _=>none
 | n+1=>ylH 5 (yeD (ybc (yu 10 "slot_taken" yh (ye 0) (yk)) (yl 2)) (yV 10 "slot_taken" yr (ye 0) (yk)) (yeD (ybc (yu 10 "side_taken" (yp 45) (ye 0) (yb (ye 1) (yk))) (yl 3)) (yV 10 "side_taken" (yv n) (ye 0) (yb (ye 1) (yk))) (yeD (yeh (yu 10 "pass_over" yq (ye 0) (yb (xC (.str "else")) (yk)))) (yV 10 "pass_over" yJ (ye 0) (yb (xC (.str "else")) (yk))) (yV 10 "side_taken" (yv n) (ye 0) (yb (ye 1) (yk))))))
noncomputable def yby:Nat->FnR
 | 0=>fun _ _=>none
 | n+1=>ylH 4 (yeD (ybc (yu 10 "side_taken" (yp 45) (ye 0) (yb (ye 1) (yk))) (yl 2)) (yV 10 "side_taken" (yv n) (ye 0) (yb (ye 1) (yk))) (yeD (yeh (yu 10 "pass_over" yq (ye 0) (yb (xC (.str "or")) (yk)))) (yV 10 "pass_over" yJ (ye 0) (yb (xC (.str "or")) (yk))) (yV 10 "side_taken" (yv n) (ye 0) (yb (ye 1) (yk)))))
noncomputable def ybR:Nat->FnR
 | 0=>fun _ _=>none
 | n+1=>ylH 6 (yeD (ybc (yu 10 "side_taken" (yp 45) (ye 0) (yb (ye 1) (yk))) (yl 2)) (yV 10 "side_taken" (yv n) (ye 0) (yb (ye 1) (yk))) (yeD (yeh (yu 10 "pass_over" yq (ye 0) (yb (xC (.str "on")) (yk)))) (yV 10 "pass_over" yJ (ye 0) (yb (xC (.str "on")) (yk))) (yeD (ybc (yu 10 "name_taken" ybb (ye 0) (yk)) (yl 3)) (yV 10 "name_taken" ybp (ye 0) (yk)) (yeD (ybc (yu 10 "slot_taken" yh (ye 0) (yk)) (yl 4)) (yV 10 "slot_taken" yr (ye 0) (yk)) (yV 10 "side_taken" (yv n) (ye 0) (yb (ye 1) (yk)))))))
end
def ydU:FnR:=ylH 3 (yrE (ybc (yvD (ygG ycC (yb (yP yem (yb (ye 0) (yk))) (yk)))) (yl 1)) (yeD (ybc (yu 10 "list_taken" (yI 45) (ye 1) (yb (xC (.int 0)) (yk))) (yl 2)) (yV 10 "list_taken" (yK 45) (ye 1) (yb (xC (.int 0)) (yk))) (rIf (yH (xOp (yqb) (yu 10 "ahead" yO (ye 1) (yk)) (xC .non))) (yfg "NoDeed" (xC (.str "words stand behind the deed's end"))) (rIf (yH (xOp (oGt) (xOp yfe (yP (ybj 45) (yb (ye 2) (yk))) (xC (.int 1))) (xC (.int 80)))) (yfg "NoDeed" (xC (.str "the deed has too many rows"))) (rNo)))))
def ybo:Fn:=yda 2 (yw (yck (yH (xOp (oLt) (ye 1) (xCB (yhq) (yb (ye 0) (yk))))) (ybq (xOp (yfM) (ye 0) (ye 1))) (ybm)) (ybq (xC (.int 0))))
def ydL:Fn:=yda 7 (yw (yck (yH (xOp (oEq) (xOp oMod (ye 0) (xC (.int 4))) (xC (.int 1)))) (ybq (xOp (yfM) (xFz (ydR (yb (xC (.str "on")) (yb (xC (.str "else")) (yb (xC (.str "a")) (yb (xC (.str "wait")) (yb (xC (.str "or")) (yb (xC (.str "let")) (yb (xC (.str "throw")) (yb (xC (.str "if")) (yk))))))))))) (xOp oMod (xOp oDiv (ye 0) (xC (.int 4))) (xC (.int 8))))) (ybm)) (yw (ybc (xC (.str "abcdefghijklmnopqrstuvwxyz")) (yl 1)) (yw (ybc (xOp yfe (xC (.int 1)) (xOp oMod (xOp oDiv (ye 0) (xC (.int 4))) (xC (.int 8)))) (yl 2)) (yw (ybc (xOp oMod (xOp oDiv (ye 0) (xC (.int 32))) (ye 2)) (yl 3)) (yw (ybc (xC (.str "")) (yl 4)) (yw (ylF (ysC (yb (ye 2) (yk))) (yl 5) (yw (ybc (xOp yfe (xOp oDiv (ye 0) (xC (.int 256))) (xOp yzh (ye 5) (ye 5))) (yl 6)) (yw (yck (yH (xOp (oEq) (ye 5) (ye 3))) (ybc (xOp yfe (ye 6) (xOp oDiv (ye 0) (xC (.int 6656)))) (yl 6)) (ybm)) (ybc (xOp ybJ (ye 4) (xOp (ywc) (ye 1) (xOp oMod (ye 6) (xC (.int 26))))) (yl 4))))) (ybq (ye 4))))))))
def ycv:Fn:=yda 1 (ybq (xOp (ywc) (xC (.str "abcdefgh")) (xOp oMod (ye 0) (xC (.int 8)))))
def ydC:Fn:=yda 1 (yw (yck (yH (xOp (oEq) (xOp oMod (ye 0) (xC (.int 3))) (xC (.int 0)))) (ybq (xOp oMod (xOp oDiv (ye 0) (xC (.int 3))) (xC (.int 12)))) (ybm)) (yw (yck (yH (xOp (oEq) (xOp oMod (ye 0) (xC (.int 3))) (xC (.int 1)))) (ybq (xOp yzg (xOp yzg (xOp ywa (xC (.int 2)) (xC (.int 64))) (xC (.int 1))) (xOp oMod (xOp oDiv (ye 0) (xC (.int 3))) (xC (.int 5))))) (ybm)) (ybq (xOp oMod (xOp oDiv (ye 0) (xC (.int 3))) (xOp ywa (xC (.int 2)) (xC (.int 64)))))))
def ydV:Fn:=yda 5 (yw (ybc (xOp oMod (ye 0) (xC (.int 10))) (yl 1)) (yw (ybc (xOp oMod (xOp yzh (xOp oDiv (ye 0) (xC (.int 10))) (xC (.int 48271))) (xC (.int 2147483647))) (yl 2)) (yw (ybc (yP ycv (yb (ye 2) (yk))) (yl 3)) (yw (ybc (yP ycv (yb (xOp oDiv (ye 2) (xC (.int 8))) (yk))) (yl 4)) (yw (yck (yH (xOp (oLt) (ye 1) (xC (.int 2)))) (ybq (yiO (yb (xC (.str "let")) (yb (ye 3) (yb (yP ydC (yb (xOp oDiv (ye 0) (xC (.int 10))) (yk))) (yk)))))) (ybm)) (yw (yck (yH (xOp (oLt) (ye 1) (xC (.int 4)))) (ybq (yiO (yb (xOp (yfM) (xFz (ydR (yb (xC (.str "plus")) (yb (xC (.str "minus")) (yb (xC (.str "times")) (yb (xC (.str "less")) (yb (xC (.str "same")) (yk)))))))) (xOp oMod (xOp oDiv (ye 2) (xC (.int 512))) (xC (.int 5)))) (yb (ye 3) (yb (ye 4) (yb (yP ycv (yb (xOp oDiv (ye 2) (xC (.int 64))) (yk))) (yk))))))) (ybm)) (yw (yck (yH (xOp (oLt) (ye 1) (xC (.int 6)))) (ybq (yiO (yb (xC (.str "take")) (yb (ye 3) (yb (ye 4) (yk)))))) (ybm)) (yw (yck (yH (xOp (oLt) (ye 1) (xC (.int 8)))) (ybq (yiO (yb (xC (.str "put")) (yb (ye 3) (yb (ye 4) (yk)))))) (ybm)) (yw (yck (yH (xOp (oEq) (ye 1) (xC (.int 8)))) (ybq (yiO (yb (xC (.str "throw")) (yb (yP ydL (yb (xOp oDiv (ye 0) (xC (.int 10))) (yk))) (yb (ye 3) (yk)))))) (ybm)) (ybq (yiO (yb (xC (.str "wait")) (yk)))))))))))))
def ydW:Fn:=yda 5 (yw (ybc (xOp oMod (xOp yzh (ye 0) (xC (.int 69621))) (xC (.int 2147483629))) (yl 3)) (yw (yck (yH (xOp (oEq) (xOp oMod (ye 3) (xC (.int 2))) (xC (.int 1)))) (ybc (yiO (yb (ye 2) (yb (ye 1) (yk)))) (ysu 2 (yhn (yl 1) (yhn (yl 2) (yvQ))))) (ybm)) (yw (ybc (xOp oMod (xOp oDiv (ye 3) (xC (.int 2))) (xC (.int 3))) (yl 4)) (yw (yck (yH (xOp (oEq) (ye 4) (xC (.int 0)))) (ybq (yiO (yb (xC (.str "if")) (yb (yP ycv (yb (xOp oDiv (ye 3) (xC (.int 6))) (yk))) (yb (ye 1) (yb (ye 2) (yk))))))) (ybm)) (yw (yck (yH (xOp (oEq) (ye 4) (xC (.int 1)))) (ybq (yiO (yb (xC (.str "either")) (yb (ye 1) (yb (ye 2) (yk)))))) (ybm)) (ybq (yiO (yb (xC (.str "try")) (yb (ye 1) (yb (yP ydL (yb (ye 0) (yk))) (yb (yP ycv (yb (xOp oDiv (ye 3) (xC (.int 6))) (yk))) (yb (ye 2) (yk)))))))))))))
def ycw:Fn:=yda 1 (yw (yck (yH (xOp (oEq) (xOp (yei) (ye 0) (xC (.int 0))) (xC (.str "if")))) (ybq (xFz (ydR (yb (xOp (yei) (ye 0) (xC (.int 2))) (yb (xOp (yei) (ye 0) (xC (.int 3))) (yk)))))) (ybm)) (yw (yck (yH (xOp (oEq) (xOp (yei) (ye 0) (xC (.int 0))) (xC (.str "either")))) (ybq (xFz (ydR (yb (xOp (yei) (ye 0) (xC (.int 1))) (yb (xOp (yei) (ye 0) (xC (.int 2))) (yk)))))) (ybm)) (yw (yck (yH (xOp (oEq) (xOp (yei) (ye 0) (xC (.int 0))) (xC (.str "try")))) (ybq (xFz (ydR (yb (xOp (yei) (ye 0) (xC (.int 1))) (yb (xOp (yei) (ye 0) (xC (.int 4))) (yk)))))) (ybm)) (ybq (xFz (ydR (yk)))))))
def ycx:Nat->Fn
 | 0=>fun _ _=>none
 | n+1=>yda 4 (yw (ybc (xUn yCA (xC (.int 1))) (yl 1)) (yw (ylF (xIL (ye 0)) (yl 2) (yw (ylF (xIL (yP ycw (yb (ye 2) (yk)))) (yl 3) (ybc (xCB (yhS) (yb (ye 1) (yb (xOp yfe (xC (.int 1)) (yP (ycx n) (yb (ye 3) (yk)))) (yk)))) (yl 1))) (ybc (xCB (yhS) (yb (ye 1) (yb (xC (.int 0)) (yk)))) (yl 1)))) (ybq (ye 1))))
def ybP:Nat->Fn
 | 0=>fun _ _=>none
 | n+1=>yda 3 (yw (ybc (xC (.int 0)) (yl 1)) (yw (ylF (xIL (ye 0)) (yl 2) (yw (ybc (xOp yfe (xOp yfe (ye 1) (xC (.int 1))) (xCB (yoV) (yb (xFz (yho (xIL (yP ycw (yb (ye 2) (yk)))) [] (yP (ybP n) (yb (ye 0) (yk))))) (yk)))) (yl 1)) (ybc (xOp yfe (xOp yfe (ye 1) (xCB (ykN) (yb (xOp (yqo false) (xOp (yei) (ye 2) (xC (.int 0))) (yiO (yb (xC (.str "if")) (yb (xC (.str "either")) (yb (xC (.str "try")) (yk)))))) (yk)))) (xCB (ykN) (yb (xOp (yqo false) (xOp (yei) (ye 2) (xC (.int 0))) (yiO (yb (xC (.str "either")) (yb (xC (.str "try")) (yk))))) (yk)))) (yl 1)))) (ybq (ye 1))))
def yeH:Fn:=yda 5 (yw (ybc (xOp oMod (ye 1) (xOp ywa (xC (.int 10)) (xC (.int 60)))) (yl 1)) (yw (yck (yH (xOp (oGt) (xOp oMod (ye 1) (xC (.int 3))) (xC (.int 0)))) (ybc (xFz (ykJ yiQ (ye 0) (xFz (ydR (yb (yP ydV (yb (xOp oDiv (ye 1) (xC (.int 3))) (yk))) (yk)))))) (yl 2)) (yw (ybc (xCB (yhS) (yb (xC (.int 0)) (yb (xOp yzg (xCB (yhq) (yb (ye 0) (yk))) (xOp oMod (xOp oDiv (ye 1) (xC (.int 3))) (xC (.int 4)))) (yk)))) (yl 3)) (yw (ybc (xCB (yhS) (yb (xC (.int 0)) (yb (xOp yzg (ye 3) (xOp oMod (xOp oDiv (ye 1) (xC (.int 12))) (xC (.int 3)))) (yk)))) (yl 4)) (ybc (xFz (ykJ yiQ (xFz (yrC yom (ye 0) (yfd) (ygf (ye 4)))) (xFz (ydR (yb (yP ydW (yb (xOp oDiv (ye 1) (xC (.int 36))) (yb (xFz (yrC yom (ye 0) (ygf (ye 3)) (yfd))) (yb (xFz (yrC yom (ye 0) (ygf (ye 4)) (ygf (ye 3)))) (yk))))) (yk)))))) (yl 2))))) (yw (yck (xOr (yH (xOp (oGt) (yP (ycx 15) (yb (ye 2) (yk))) (xC (.int 8)))) (yH (xOp (oGt) (yP (ybP 15) (yb (ye 2) (yk))) (xC (.int 79))))) (ybq (ye 0)) (ybm)) (ybq (ye 2)))))
mutual
noncomputable def ybC:Nat->Fn
 | 0=>fun _ _=>none
 | n+1=>yda 1 (yw (yck (yH (xOp (yzO) (ye 0) (xFz (ydR (yk))))) (ybq (xC (.str "( )"))) (ybm)) (ybq (xOp ybJ (xOp ybJ (xC (.str "( ")) (yP (ydM n) (yb (ye 0) (yk)))) (xC (.str " )")))))
noncomputable def ydM:Nat->Fn
 | 0=>fun _ _=>none
 | n+1=>yda 4 (yw (yoh (ydR (yk)) 1) (yw (ylF (xIL (ye 0)) (yl 2) (yck (yH (xOp (oEq) (xOp (yei) (ye 2) (xC (.int 0))) (xC (.str "if")))) (yfF 1 (xOp ybJ (xOp ybJ (xOp ybJ (xOp ybJ (xOp ybJ (xC (.str "if ")) (xOp (yei) (ye 2) (xC (.int 1)))) (xC (.str " "))) (yP (ybC n) (yb (xOp (yei) (ye 2) (xC (.int 2))) (yk)))) (xC (.str " else "))) (yP (ybC n) (yb (xOp (yei) (ye 2) (xC (.int 3))) (yk))))) (yck (yH (xOp (oEq) (xOp (yei) (ye 2) (xC (.int 0))) (xC (.str "either")))) (yfF 1 (xOp ybJ (xOp ybJ (xOp ybJ (xC (.str "either ")) (yP (ybC n) (yb (xOp (yei) (ye 2) (xC (.int 1))) (yk)))) (xC (.str " or "))) (yP (ybC n) (yb (xOp (yei) (ye 2) (xC (.int 2))) (yk))))) (yck (yH (xOp (oEq) (xOp (yei) (ye 2) (xC (.int 0))) (xC (.str "try")))) (yw (ybc (xFz (ydR (yb (xC (.str "try")) (yb (yP (ybC n) (yb (xOp (yei) (ye 2) (xC (.int 1))) (yk))) (yb (xC (.str "on")) (yb (xOp (yei) (ye 2) (xC (.int 2))) (yb (xOp (yei) (ye 2) (xC (.int 3))) (yb (yP (ybC n) (yb (xOp (yei) (ye 2) (xC (.int 4))) (yk))) (yk))))))))) (yl 3)) (yfF 1 (xBM isStr (yeC) (xC (.str " ")) (yb (ye 3) (yk))))) (yfF 1 (xBM isStr (yeC) (xC (.str " ")) (yb (xFz (yho (xIT (ye 2)) [] (xCB (ymo) (yb (ye 0) (yk))))) (yk)))))))) (yze 1 (ybq (xBM isStr (yeC) (xC (.str " ; ")) (yb (ye 1) (yk)))))))
end
def ybA:Fn:=yda 3 (yw (ybc (xFz (ydR (yk))) (yl 1)) (yw (yxL ["NoDeed"] 2 (ywq ydU (yb (ye 0) (yk))) (yw (ybc (xFz (ydR (yb (xCB (ykT yjO ywQ ywR) (yb (ye 2) (yb (xC (.ty "ValueError")) (yk)))) (yb (xCB (ykT yjO ywQ ywR) (yb (ye 2) (yb (xC (.xcl "NoDeed")) (yk)))) (yb (xCB (ykT yjO ywQ ywR) (yb (ye 2) (yb (xC (.xcl "NoBoxes")) (yk)))) (yb (xCB (ykT yjO ywQ ywR) (yb (ye 2) (yb (xC (.xcl "NoHands")) (yk)))) (yk))))))) (yl 1)) (ybc (xFz (ykJ yiQ (ye 1) (xFz (ydR (yb (xCB (ykT yjO ywQ ywR) (yb (ye 2) (yb (xC (.xcl "NoHand")) (yk)))) (yb (xCB (ykT yjO ywQ ywR) (yb (ye 2) (yb (xC (.xcl "NoRow")) (yk)))) (yk))))))) (yl 1)))) (ybq (xOp (yzO) (ye 1) (xFz (ydR (yb (xC (.bl true)) (yb (xC (.bl true)) (yb (xC (.bl false)) (yb (xC (.bl false)) (yb (xC (.bl false)) (yb (xC (.bl false)) (yk)))))))))))))
def ybk:Fn:=yda 3 (yw (ybc (yP yhf (yb (ye 0) (yk))) (yl 2)) (ybq (yod (xCB (yzr yjO) (yb (ye 2) (yb (xC (.ty "list")) (yk)))) (xOp (oEq) (xCB (yoV) (yb (xFz (yho (xIL (ye 2)) [] (yhr "long" (yfm 45) (ye 0)))) (yk))) (ye 1)))))
def ycy:Fn:=yda 2 (yw (ybc (xFz (ydR (yb (xC (.str "")) (yb (xC (.str "Wait")) (yb (xC (.str "LET")) (yb (xC (.str "1a")) (yb (xC (.str "007")) (yb (xC (.str "-1")) (yb (xC (.str "+1")) (yb (xC (.str "18446744073709551616")) (yb (xC (.str "[")) (yb (xC (.str "]")) (yb (xC (.str "()")) (yb (xC (.str "( )")) (yb (xC (.str "wait;")) (yb (xC (.str ";;")) (yk))))))))))))))))) (yl 1)) (yw (ybc (xFz (ykJ yiQ (ye 1) (xFz (ydR (yb (xC (.str "abcdefghi")) (yb (xC (.str "a.")) (yb (xC (.str "a,b")) (yb (xC (.str "{")) (yb (xC (.str "1.0")) (yb (xC (.str "Let")) (yb (xC (.str "A")) (yb (xC (.str "a-b")) (yb (xC (.str "99999999999999999999")) (yb (xC (.str "wait ;;")) (yb (xC (.str "!")) (yk)))))))))))))))) (yl 1)) (ybq (xOp (yfM) (ye 1) (xOp oMod (ye 0) (xC (.int 25)))))))
def ycX:Fn:=yda 2 (yw (ybc (xFz (ydR (yb (xC (.str " ")) (yb (xC (.str ";")) (yb (xC (.str "( )")) (yb (xC (.str "( wait )")) (yb (xC (.str "wait ;")) (yb (xC (.str "; wait")) (yb (xC (.str "wait;wait")) (yb (xC (.str "wait wait")) (yb (xC (.str "let a")) (yb (xC (.str "let a 05")) (yb (xC (.str "let i 5")) (yk)))))))))))))) (yl 1)) (yw (ybc (xFz (ykJ yiQ (ye 1) (xFz (ydR (yb (xC (.str "let ab 5")) (yb (xC (.str "plus a b")) (yb (xC (.str "plus a b c d")) (yb (xC (.str "over a b c")) (yb (xC (.str "take a")) (yb (xC (.str "put a b c")) (yb (xC (.str "throw a")) (yb (xC (.str "throw A a")) (yk))))))))))))) (yl 1)) (yw (ybc (xFz (ykJ yiQ (ye 1) (xFz (ydR (yb (xC (.str "throw abcdefghi a")) (yb (xC (.str "if a ( )")) (yb (xC (.str "if a ( ) else")) (yb (xC (.str "if a ( ) or ( )")) (yb (xC (.str "if ( ) else ( )")) (yk)))))))))) (yl 1)) (yw (ybc (xFz (ykJ yiQ (ye 1) (xFz (ydR (yb (xC (.str "either ( )")) (yb (xC (.str "either ( ) else ( )")) (yb (xC (.str "either a ( ) or ( )")) (yb (xC (.str "try ( ) on x ( )")) (yb (xC (.str "try ( ) on a b")) (yk)))))))))) (yl 1)) (yw (ybc (xFz (ykJ yiQ (ye 1) (xFz (ydR (yb (xC (.str "try ( ) on X a ( )")) (yb (xC (.str "try ( ) or x a ( )")) (yb (xC (.str "if a ( wait else ( )")) (yb (xC (.str "if a wait else ( )")) (yb (xC (.str "lay")) (yk)))))))))) (yl 1)) (yw (ybc (xFz (ykJ yiQ (ye 1) (xFz (ydR (yb (xC (.str "settle")) (yb (xC (.str "jump 1")) (yb (xC (.str "either ( ; ) or ( )")) (yb (xC (.str "either ( wait ; ) or ( )")) (yb (xC (.str "if a ( ) else ( ) )")) (yb (xC (.str "(")) (yk))))))))))) (yl 1)) (ybq (xOp (yfM) (ye 1) (xOp oMod (ye 0) (xC (.int 40)))))))))))
def yBU:XS:=(ybq (xBM isStr (yeC) (xC (.str " ")) (yb (ye 3) (yk))))
def spA:XS:=(yck (xOr (yyV (yH (xOp (oEq) (ye 1) (xC (.int 3)))) (yH (xOp (oEq) (xOp (yfM) (ye 3) (ye 4)) (xC (.str "wait"))))) (yH (xOp (oEq) (xCB (yhq) (yb (ye 3) (yk))) (xC (.int 1))))) (ybc (xC (.int 0)) (yl 1)) (ybm))
def spB:XS:=(yck (xOr (yH (xOp (oEq) (ye 1) (xC (.int 0)))) (yH (xOp (oEq) (ye 0) (xC (.str ""))))) (yw (yeh (xBM yix (ymp) (ye 3) (yb (ye 4) (yb (ye 5) (yk))))) (yck (yH (xOp (oEq) (ye 0) (xC (.str "")))) (ybc (yvD (ydR (yb (xC (.str "wait")) (yb (ye 5) (yk))))) (yl 3)) (ybm))) (yck (yH (xOp (oEq) (ye 1) (xC (.int 1)))) (yqm (ye 3) (ye 4) (ye 5)) (yck (yH (xOp (oEq) (ye 1) (xC (.int 2)))) (yeh (xBM yix (ymp) (ye 3) (yb (ye 4) (yb (xOp (yfM) (ye 3) (ye 4)) (yk))))) (yeh (xBM yix (yqx) (ye 3) (yb (ye 4) (yk)))))))
def ycY:Fn:=yda 6 (yw (ybc (yvD (yqy (ye 0) (yb (xC (.str " ")) (yk)))) (yl 3)) (yw (ybc (xOp oMod (ye 2) (xCB (yhq) (yb (ye 3) (yk)))) (yl 4)) (yw (ybc (yP ycy (yb (xOp oDiv (ye 2) (xC (.int 1009))) (yk))) (yl 5)) (yw spA (yw spB yBU)))))
def ycQ:Fn:=yda 2 (yw (yck (yH (xOp (oEq) (ye 1) (xC (.int 0)))) (ybq (xOp ybJ (xC (.str " ")) (ye 0))) (ybm)) (yw (yck (yH (xOp (oEq) (ye 1) (xC (.int 1)))) (ybq (xOp ybJ (ye 0) (xC (.str " ")))) (ybm)) (ybq (xOp ybJ (xC (.str "wait ;  ")) (ye 0)))))
def nbB:XS:=(yw (ybc (xOp (yfM) (ye 1) (xOp oMod (xOp yfe (xOp oDiv (ye 0) (xC (.int 22))) (xOp yzh (ye 4) (xOp oMod (xOp oDiv (ye 0) (xC (.int 132))) (xC (.int 5))))) (xC (.int 6)))) (yl 5)) (yw (ybc (xFz (ykJ yiQ (xFz (ykJ yiQ (xFz (ydR (yb (xOp (yfM) (ye 5) (xC (.int 0))) (yk)))) (ye 2))) (xFz (ydR (yb (xOp (yfM) (ye 5) (xC (.int 1))) (yk)))))) (yl 2)) (ybc (xOp yfe (xOp yfe (ye 3) (xC (.int 2))) (xCB (ykN) (yb (xOp (oNe) (xSl yBO (xOp (yfM) (ye 5) (xC (.int 0))) (yfd) (ygf (xC (.int 2)))) (xC (.str "if"))) (yk)))) (yl 3))))
def ydD:Fn:=yda 6 (yw (ybc (xFz (ydR (yb (xFz (ydR (yb (xC (.str "if b (")) (yb (xC (.str ") else ( )")) (yk))))) (yb (xFz (ydR (yb (xC (.str "if b ( ) else (")) (yb (xC (.str ")")) (yk))))) (yb (xFz (ydR (yb (xC (.str "either (")) (yb (xC (.str ") or ( )")) (yk))))) (yb (xFz (ydR (yb (xC (.str "either ( ) or (")) (yb (xC (.str ")")) (yk))))) (yk))))))) (yl 1)) (yw (ybc (xFz (ykJ yiQ (ye 1) (xFz (ydR (yb (xFz (ydR (yb (xC (.str "try (")) (yb (xC (.str ") on x a ( )")) (yk))))) (yb (xFz (ydR (yb (xC (.str "try ( ) on x a (")) (yb (xC (.str ")")) (yk))))) (yk))))))) (yl 1)) (yw (ybc (xFz (ykJ yzl (xFz (ydR (yb (xC (.str "wait")) (yk)))) (xOp oMod (ye 0) (xC (.int 2))))) (yl 2)) (yw (ybc (xOp oMod (ye 0) (xC (.int 2))) (yl 3)) (yw (ylF (ysC (yb (xOp oMod (xOp oDiv (ye 0) (xC (.int 2))) (xC (.int 11))) (yk))) (yl 4) nbB) (ybq (yiO (yb (xBM isStr (yeC) (xC (.str " ")) (yb (ye 2) (yk))) (yb (xOp yfe (xOp oMod (xOp oDiv (ye 0) (xC (.int 2))) (xC (.int 11))) (xOp oMod (ye 0) (xC (.int 2)))) (yb (ye 3) (yk)))))))))))
def ybX:Fn:=yda 4 (yw (ybc (yP ydD (yb (ye 0) (yk))) (ysu 3 (yhn (yl 1) (yhn (yl 2) (yhn (yl 3) (yvQ)))))) (yw (yck (yH (xOp (oGt) (ye 2) (xC (.int 9)))) (ybq (yP ybA (yb (ye 1) (yk)))) (ybm)) (ybq (yP ybk (yb (ye 1) (yb (ye 3) (yk)))))))
def lrT:XS:=(yw (yck (yH (xOp (oGt) (ye 1) (xC (.int 79)))) (ybq (yP ybA (yb (ye 3) (yk)))) (ybm)) (ybq (yP ybk (yb (ye 3) (yb (ye 1) (yk))))))
def ybY:Fn:=yda 6 (yw (ybc (xOp yfe (xC (.int 70)) (xOp oMod (ye 0) (xC (.int 21)))) (yl 1)) (yw (ybc (xFz (yho (ysC (yb (ye 1) (yk))) [] (xOp ybJ (xC (.str "let a ")) (xCB (yop) (yb (ye 0) (yk)))))) (yl 2)) (yw (ybc (xBM isStr (yeC) (xC (.str " ; ")) (yb (ye 2) (yk))) (yl 3)) (yw (yck (yH (xOp (oEq) (xOp oMod (xOp oDiv (ye 0) (xC (.int 21))) (xC (.int 2))) (xC (.int 1)))) (yw (ybc (xOp oMod (xOp oDiv (ye 0) (xC (.int 42))) (ye 1)) (yl 4)) (yw (ybc (xBM isStr (yeC) (xC (.str " ; ")) (yb (xFz (yrC yom (ye 2) (ygf (ye 4)) (yfd))) (yk))) (yl 5)) (yw (ybc (xBM isStr (yeC) (xC (.str " ; ")) (yb (xFz (ykJ yiQ (xFz (yrC yom (ye 2) (yfd) (ygf (ye 4)))) (xFz (ydR (yb (xOp ybJ (xOp ybJ (xC (.str "if c ( ")) (ye 5)) (xC (.str " ) else ( )"))) (yk)))))) (yk))) (yl 3)) (ybc (xOp yfe (ye 1) (xC (.int 2))) (yl 1))))) (ybm)) lrT))))
def ymt:XS:=(ybc (yP yeH (yb (ye 1) (yb (ye 2) (yk)))) (yl 1))
def yto:Fn:=yda 6 (yw (ybc (xFz (ydR (yk))) (yl 1)) (yw (ylF (xIL (xFz (yrC yom (ye 0) (ygf (xC (.int 3))) (ygf (xC (.int 43)))))) (yl 2) ymt) (yw (ybc (yP (ydM 30) (yb (ye 1) (yk))) (yl 3)) (yw (ybc (xOp oMod (yP ybo (yb (ye 0) (yb (xC (.int 0)) (yk)))) (xOp ywa (xC (.int 10)) (xC (.int 30)))) (yl 4)) (yw (yck (ymf (yH (yP ybk (yb (ye 3) (yb (yP (ybP 15) (yb (ye 1) (yk))) (yk)))))) (ybq (xC (.bl false))) (ybm)) (yw (ybc (yP ycY (yb (ye 3) (yb (xOp oMod (ye 4) (xC (.int 4))) (yb (xOp oDiv (ye 4) (xC (.int 4))) (yk))))) (yl 5)) (yw (yck (ymf (yH (yP ybA (yb (ye 5) (yk))))) (ybq (xC (.bl false))) (ybm)) (yw (yck (ymf (yH (yP ybA (yb (yP ycX (yb (xOp oDiv (ye 4) (xC (.int 4))) (yk))) (yk))))) (ybq (xC (.bl false))) (ybm)) (yw (yck (ymf (yH (yP ybA (yb (yP ycQ (yb (ye 3) (yb (xOp oMod (ye 4) (xC (.int 3))) (yk)))) (yk))))) (ybq (xC (.bl false))) (ybm)) (yw (yck (ymf (yH (yP ybX (yb (xOp oMod (yP ybo (yb (ye 0) (yb (xC (.int 1)) (yk)))) (xOp ywa (xC (.int 10)) (xC (.int 9)))) (yk))))) (ybq (xC (.bl false))) (ybm)) (yw (yck (ymf (yH (yP ybY (yb (xOp oMod (yP ybo (yb (ye 0) (yb (xC (.int 2)) (yk)))) (xOp ywa (xC (.int 10)) (xC (.int 9)))) (yk))))) (ybq (xC (.bl false))) (ybm)) (ybq (yP ybk (yb (ye 3) (yb (yP (ybP 15) (yb (ye 1) (yk))) (yk))))))))))))))))
abbrev B64:Int:=18446744073709551616
inductive T where
 | base
 | let_ (r:Str) (n:Int)
 | reckon (w r s t:Str)
 | take (r s:Str)
 | put (s t:Str)
 | if_ (r:Str) (a b:List T)
 | either (a b:List T)
 | try_ (a:List T) (nm r:Str) (b:List T)
 | throw (nm r:Str)
 | wait
noncomputable def kd:T->Nat
 | .base=>0|.let_ ..=>1|.reckon ..=>2|.take ..=>3|.put ..=>4|.if_ ..=>5|.either ..=>6|.try_ ..=>7|.throw ..=>8|.wait=>9
def ybD (inner:Str):Str:=if inner = "" then "( )" else Str.join " " ["(",inner,")"]
mutual
noncomputable def yca:T->Str
 | .base=>""
 | .let_ r n=>Str.join " " ["let",r,(toString n:String)]
 | .reckon w r s t=>Str.join " " [w,r,s,t]
 | .take r s=>Str.join " " ["take",r,s]
 | .put s t=>Str.join " " ["put",s,t]
 | .if_ r a b=>Str.join " " ["if",r,ybD (Str.join " ; " (yG a)),"else",ybD (Str.join " ; " (yG b))]
 | .either a b=>Str.join " " ["either",ybD (Str.join " ; " (yG a)),"or",ybD (Str.join " ; " (yG b))]
 | .try_ a nm r b=>Str.join " " ["try",ybD (Str.join " ; " (yG a)),"on",nm,r,ybD (Str.join " ; " (yG b))]
 | .throw nm r=>Str.join " " ["throw",nm,r]
 | .wait=>"wait"
noncomputable def yG:List T->List Str
 | []=>[]
 | t::r=>yca t::yG r
end
mutual
noncomputable def ycM:T->Int
 | .base=>0
 | .if_ _ a b=>2+(yt a).sum+(yt b).sum
 | .either a b=>3+(yt a).sum+(yt b).sum
 | .try_ a _ _ b=>3+(yt a).sum+(yt b).sum
 | _=>1
noncomputable def yt:List T->List Int
 | []=>[]
 | t::r=>ycM t::yt r
end
mutual
noncomputable def yhA:T->Nat
 | .if_ _ a b=>1+max (ybz a) (ybz b)
 | .either a b=>1+max (ybz a) (ybz b)
 | .try_ a _ _ b=>1+max (ybz a) (ybz b)
 | _=>0
noncomputable def ybz:List T->Nat
 | []=>0
 | t::r=>max (yhA t) (ybz r)
end
mutual
noncomputable def wT:T->Nat
 | .base=>0
 | .let_ r n=>10+r.length+(Str.ofString (toString n)).length
 | .reckon w r s t=>10+w.length+r.length+s.length+t.length
 | .take r s=>10+r.length+s.length
 | .put s t=>10+s.length+t.length
 | .if_ r a b=>40+r.length+wL a+wL b
 | .either a b=>40+wL a+wL b
 | .try_ a nm r b=>40+nm.length+r.length+wL a+wL b
 | .throw nm r=>10+nm.length+r.length
 | .wait=>10
noncomputable def wL:List T->Nat
 | []=>0
 | t::r=>5+wT t+wL r
end
def yxN (c:Int):Int:=if c%3=0 then c/3%12 else if c%3=1 then B64-1-c/3%5 else c/3%B64
def slotsV:Str:="abcdefgh"
def lettersV:Str:="abcdefghijklmnopqrstuvwxyz"
def yla (z:Str) (i:Int):Str:=⟨#[(z.cps.toList[i.toNat]?).getD 0]⟩
def ygm (n:Int):Str:=yla slotsV (n%8)
def wordsL:List Str:=["on","else","a","wait","or","let","throw","if"]
noncomputable def nameStep (c at':Int) (k:Nat):Str:=yla lettersV ((if (k:Int)=at' then c/256+(k:Int)*(k:Int)+c/6656 else c/256+(k:Int)*(k:Int))%26)
def yeT (c at':Int):Nat->Str
 | 0=>""
 | k+1=>yeT c at' k++nameStep c at' k
def yoy (c:Int):Str:=if c%4=1 then (wordsL[(c/4%8).toNat]?).getD "" else yeT c (c/32%(1+c/4%8)) (1+c/4%8).toNat
def yqH (m:Int):Str:=((["plus","minus","times","less","same"]:List Str)[(m/512%5).toNat]?).getD ""
def yoY (c:Int):Int:=c*48271%2147483647
def ylb (w c:Int):T :=
 if w=0 then .let_ (ygm (yoY c)) (yxN c)
 else if w=1 then .reckon (yqH (yoY c)) (ygm (yoY c)) (ygm (yoY c/8)) (ygm (yoY c/64))
 else if w=2 then .take (ygm (yoY c)) (ygm (yoY c/8))
 else if w=3 then .put (ygm (yoY c)) (ygm (yoY c/8))
 else if w=4 then .throw (yoy c) (ygm (yoY c))
 else .wait
theorem ycl (a b:Str):(a++b).length=a.length+b.length:=by
 show (a.cps++b.cps).size=_
 simp [Str.length]
theorem ycH (sep:Str):∀ l:List Str,(Str.join sep l).length<=(l.map (·.length)).sum+sep.length*l.length
 | []=>zero_le _
 | [x]=>by simp [Str.join]
 | x::y::r=>by
  have ih:=ycH sep (y::r)
  show (x++sep++Str.join sep (y::r)).length<=_
  rw [ycl,ycl]
  simp only [map_cons,List.sum_cons,length_cons] at *
  have e:sep.length*(r.length+1+1)=sep.length*(r.length+1)+sep.length:=by rw [Nat.mul_succ]
  omega
theorem ycI (x:Str):(ybD x).length<=x.length+10:=by
 unfold ybD
 split
 .exact Nat.le_trans (show ("( )":Str).length<=10 by rfl') (Nat.le_add_left _ _)
 .have:=ycH " " ["(",x,")"]
  have e1:(" ":Str).length=1:=by rfl'
  have e2:("(":Str).length=1:=by rfl'
  have e3:(")":Str).length=1:=by rfl'
  simp only [map_cons,map_nil,List.sum_cons,List.sum_nil,length_cons,length_nil,e1,e2,e3] at this
  omega
theorem l1:(" ":Str).length=1:=by rfl'
theorem l3:(" ; ":Str).length=3:=by rfl'
theorem lk (s:Str) (h:s.length<=6):s.length<=6:=h
theorem yDM:("let":Str).length=3:=by rfl'
theorem yAo:("take":Str).length=4:=by rfl'
theorem yDN:("put":Str).length=3:=by rfl'
theorem yDO:("if":Str).length=2:=by rfl'
theorem yAp:("else":Str).length=4:=by rfl'
theorem ytp:("either":Str).length=6:=by rfl'
theorem yDP:("or":Str).length=2:=by rfl'
theorem yAq:("try":Str).length=3:=by rfl'
theorem yAr:("on":Str).length=2:=by rfl'
theorem ywS:("throw":Str).length=5:=by rfl'
theorem yux:("wait":Str).length=4:=by rfl'
theorem ynr:("":Str).length=0:=by rfl'
mutual
theorem yqI:∀ t:T,(yca t).length<=wT t
 | .base=>by show ("":Str).length<=0;rw [ynr];omega
 | .let_ r n=>by
  have:=ycH " " ["let",r,(toString n:String)]
  simp only [map_cons,map_nil,List.sum_cons,List.sum_nil,length_cons,length_nil,l1,yDM] at this
  show (Str.join " " ["let",r,(toString n:String)]).length<=10+r.length+(Str.ofString (toString n)).length
  omega
 | .reckon w r s t=>by
  have:=ycH " " [w,r,s,t]
  simp only [map_cons,map_nil,List.sum_cons,List.sum_nil,length_cons,length_nil,l1] at this
  show (Str.join " " [w,r,s,t]).length<=10+w.length+r.length+s.length+t.length
  omega
 | .take r s=>by
  have:=ycH " " ["take",r,s]
  simp only [map_cons,map_nil,List.sum_cons,List.sum_nil,length_cons,length_nil,l1,yAo] at this
  show (Str.join " " ["take",r,s]).length<=10+r.length+s.length
  omega
 | .put s t=>by
  have:=ycH " " ["put",s,t]
  simp only [map_cons,map_nil,List.sum_cons,List.sum_nil,length_cons,length_nil,l1,yDN] at this
  show (Str.join " " ["put",s,t]).length<=10+s.length+t.length
  omega
 | .if_ r a b=>by
  have ha:=ybr a
  have hb:=ybr b
  have h1:=ycI (Str.join " ; " (yG a))
  have h2:=ycI (Str.join " ; " (yG b))
  have:=ycH " " ["if",r,ybD (Str.join " ; " (yG a)),"else",ybD (Str.join " ; " (yG b))]
  simp only [map_cons,map_nil,List.sum_cons,List.sum_nil,length_cons,length_nil,l1,yDO,yAp] at this
  show (Str.join " " ["if",r,ybD (Str.join " ; " (yG a)),"else",ybD (Str.join " ; " (yG b))]).length<=40+r.length+wL a+wL b
  omega
 | .either a b=>by
  have ha:=ybr a
  have hb:=ybr b
  have h1:=ycI (Str.join " ; " (yG a))
  have h2:=ycI (Str.join " ; " (yG b))
  have:=ycH " " ["either",ybD (Str.join " ; " (yG a)),"or",ybD (Str.join " ; " (yG b))]
  simp only [map_cons,map_nil,List.sum_cons,List.sum_nil,length_cons,length_nil,l1,ytp,yDP] at this
  show (Str.join " " ["either",ybD (Str.join " ; " (yG a)),"or",ybD (Str.join " ; " (yG b))]).length<=40+wL a+wL b
  omega
 | .try_ a nm r b=>by
  have ha:=ybr a
  have hb:=ybr b
  have h1:=ycI (Str.join " ; " (yG a))
  have h2:=ycI (Str.join " ; " (yG b))
  have:=ycH " " ["try",ybD (Str.join " ; " (yG a)),"on",nm,r,ybD (Str.join " ; " (yG b))]
  simp only [map_cons,map_nil,List.sum_cons,List.sum_nil,length_cons,length_nil,l1,yAq,yAr] at this
  show (Str.join " " ["try",ybD (Str.join " ; " (yG a)),"on",nm,r,ybD (Str.join " ; " (yG b))]).length<=40+nm.length+r.length+wL a+wL b
  omega
 | .throw nm r=>by
  have:=ycH " " ["throw",nm,r]
  simp only [map_cons,map_nil,List.sum_cons,List.sum_nil,length_cons,length_nil,l1,ywS] at this
  show (Str.join " " ["throw",nm,r]).length<=10+nm.length+r.length
  omega
 | .wait=>by show ("wait":Str).length<=10;rw [yux];omega
theorem ygL:∀ ts:List T,((yG ts).map (·.length)).sum+5*ts.length<=wL ts/\(yG ts).length=ts.length
 | []=>⟨Nat.le_refl _,rfl⟩
 | t::r=>by
  have h1:=yqI t
  have h2:=ygL r
  refine ⟨?_,?_⟩
  .show ((yca t).length::(yG r).map (·.length)).sum+5*(t::r).length<=5+wT t+wL r
   simp only [List.sum_cons,length_cons]
   omega
  .show (yca t::yG r).length=_
   simp only [length_cons]
   omega
theorem ybr:∀ ts:List T,(Str.join " ; " (yG ts)).length<=wL ts:=fun ts=>by
 have h:=ygL ts
 have j:=ycH " ; " (yG ts)
 rw [l3,h.2] at j
 omega
end
theorem ybB:∀ ts:List T,yG ts=ts.map yca
 | []=>rfl
 | t::r=>by
  show yca t::yG r=_
  rw [ybB r];rfl
theorem ylc:∀ ts:List T,yt ts=ts.map ycM
 | []=>rfl
 | t::r=>by
  show ycM t::yt r=_
  rw [ylc r];rfl
theorem yie:∀ {ts:List T}{t:T},t∈ts->yhA t<=ybz ts
 | u::r,t,h=>by
  show yhA t<=max (yhA u) (ybz r)
  rcases mem_cons.mp h with rfl|h
  .omega
  .have:=yie h
   omega
theorem ywT:∀ {ts:List T}{t:T},t∈ts->wT t<=wL ts
 | u::r,t,h=>by
  show wT t<=5+wT u+wL r
  rcases mem_cons.mp h with rfl|h
  .omega
  .have:=ywT h
   omega
theorem w_count:∀ ts:List T,5*ts.length<=wL ts
 | []=>Nat.le_refl _
 | t::r=>by
  have:=w_count r
  show 5*(r.length+1)<=5+wT t+wL r
  omega
theorem yci (a b c:Str):a++b++c=a++(b++c):=by
 show (⟨(a.cps++b.cps)++c.cps⟩:Str)=⟨a.cps++(b.cps++c.cps)⟩
 rw [Array.append_assoc]
theorem ydm (a:Int) {b:Int}(h:0<b):0<=a%b/\a%b<b:=⟨Int.emod_nonneg a (by omega),Int.emod_lt_of_pos a h⟩
theorem yle (c at':Int):∀ k:Nat,(yeT c at' k).length=k
 | 0=>by show ("":Str).length=0;rfl'
 | k+1=>by
  show (yeT c at' k++nameStep c at' k).length=_
  rw [ycl,yle c at' k]
  rfl
theorem yAs (i:Int):∃ s,atI (wordsL.map PV.str) (i%8)=some (.str s)/\s=(wordsL[(i%8).toNat]?).getD ""/\s.length<=8:=by
 have h:=ydm i (show (0:Int)<8 by decide)
 generalize i%8=k at *
 have:k=0\/k=1\/k=2\/k=3\/k=4\/k=5\/k=6\/k=7:=by omega
 rcases this with rfl|rfl|rfl|rfl|rfl|rfl|rfl|rfl
 all_goals exact ⟨_,rfl,rfl,by rfl'⟩
theorem yAt (m:Int):∃ s,atI [PV.str "plus",PV.str "minus",PV.str "times",PV.str "less",PV.str "same"] (m/512%5)=some (.str s)/\s=yqH m/\s.length<=8:=by
 unfold yqH
 have h:=ydm (m/512) (show (0:Int)<5 by decide)
 generalize m/512%5=k at *
 have:k=0\/k=1\/k=2\/k=3\/k=4:=by omega
 rcases this with rfl|rfl|rfl|rfl|rfl
 all_goals exact ⟨_,rfl,rfl,by rfl'⟩
theorem yAu (c:Int):0<=yxN c/\yxN c<B64:=by
 unfold yxN B64
 repeat' split
 all_goals omega
theorem yAv:B64<10 ^ 20:=by decide
theorem yqJ (w c:Int):yhA (ylb w c)=0:=by
 unfold ylb
 repeat' split
 all_goals rfl
theorem j3 (a b c:Str):Str.join " " [a,b,c]=a++" "++b++" "++c:=by
 show a++" "++(b++" "++c)=_
 simp only [yci]
theorem yqK {z:Str}{i:Int}(h0:0<=i) (h:i<z.cps.toList.length):atI z.cps.toList i=some ((z.cps.toList[i.toNat]?).getD 0):=by
 obtain ⟨j,rfl⟩:∃ j:Nat,i=(j:Int):=⟨i.toNat,by omega⟩
 have hl:j<z.cps.toList.length:=by omega
 rw [ydr (List.getElem?_eq_getElem hl),Int.toNat_natCast,List.getElem?_eq_getElem hl];rfl
def plain:T->Prop
 | .if_ ..=>False
 | .either ..=>False
 | .try_ ..=>False
 | _=>True
theorem ytq (sep x:Str) (r:List Str) (h:1<=x.length):1<=(Str.join sep (x::r)).length:=by
 cases r with
 | nil=>exact h
 | cons y r =>
  show 1<=(x++sep++Str.join sep (y::r)).length
  rw [ycl,ycl];omega
mutual
noncomputable def ydN:T->PV
 | .base=>.ins 0 [] []
 | .let_ r n=>.ins 1 ["slot","number"] [.str r,.int n]
 | .reckon w r s t=>.ins 2 ["word","slot","one","other"] [.str w,.str r,.str s,.str t]
 | .take r s=>.ins 3 ["slot","place"] [.str r,.str s]
 | .put s t=>.ins 4 ["place","slot"] [.str s,.str t]
 | .if_ r a b=>.ins 5 ["slot","parts","others"] [.str r,.lst (ybN a),.lst (ybN b)]
 | .either a b=>.ins 6 ["parts","others"] [.lst (ybN a),.lst (ybN b)]
 | .try_ a nm r b=>.ins 7 ["parts","name","slot","others"] [.lst (ybN a),.str nm,.str r,.lst (ybN b)]
 | .throw nm r=>.ins 8 ["name","slot"] [.str nm,.str r]
 | .wait=>.ins 9 [] []
noncomputable def ybN:List T->List PV
 | []=>[]
 | t::r=>ydN t::ybN r
end
theorem yen:∀ ts:List T,ybN ts=ts.map ydN
 | []=>rfl
 | t::r=>by show ydN t::ybN r=_;rw [yen r];rfl
section
variable {h:AH}
theorem yqL (c:Int):ycv [.int c] h=some (.str (ygm c),h):=by
 unfold ycv
 rw [yN]
 show ob (ybq _ [.val (.int c)] h) fnK=_
 have b:=ydm c (show (0:Int)<8 by decide)
 symm
 rw [yqK (z:="abcdefgh") b.1 (by rw [show ("abcdefgh":Str).cps.toList.length=8 by rfl'];exact b.2)]
 rfl
theorem yqM (c:Int):ydC [.int c] h=some (.int (yxN c),h):=by
 unfold ydC
 rw [yN]
 show ob (yw _ _ [.val (.int c)] h) fnK=_
 symm
 unfold yxN
 split
 .rfl
 .split<;>rfl
theorem yqN (c:Int):ydL [.int c] h=some (.str (yoy c),h):=by
 unfold ydL
 rw [yN]
 show ob (yw _ _ [.val (.int c),.no,.no,.no,.no,.no,.no] h) fnK=_
 have b:=ydm (c/4) (show (0:Int)<8 by decide)
 symm
 unfold yoy
 split
 .obtain ⟨s,h1,h2,_⟩:=yAs (c/4)
  rw [show [PV.str "on",PV.str "else",PV.str "a",PV.str "wait",PV.str "or",PV.str "let",PV.str "throw",PV.str "if"]=wordsL.map PV.str from rfl,h1,<- h2]
  rfl
 rw [if_pos (by omega)]
 rw [yqs (j:=1+c/4%8) (h1:=h) (by symm) (by omega) (by omega),ydi]
 generalize hz:1+c/4%8=sz at *
 refine yqq (fun i ρ h1=>∃ c1 c2:PVar,ρ=[.val (.int c),.val (.str "abcdefghijklmnopqrstuvwxyz"),.val (.int sz),.val (.int (c/32%sz)),.val (.str (yeT c (c/32%sz) i)),c1,c2]/\h1=h) ⟨.no,.no,rfl,rfl⟩ ?_ ?_
 .rintro i x ρ h1 hx ⟨c1,c2,rfl,rfl⟩
  obtain ⟨hi,rfl⟩:=yqr hx
  rw [zero_add]
  have hat:∀ k:Int,atI ("abcdefghijklmnopqrstuvwxyz":Str).cps.toList (k%26)=some ((("abcdefghijklmnopqrstuvwxyz":Str).cps.toList[(k%26).toNat]?).getD 0):=fun k=>yqK (ydm k (by decide)).1 (by rw [show ("abcdefghijklmnopqrstuvwxyz":Str).cps.toList.length=26 by rfl'];exact (ydm k (by decide)).2)
  have hm:MulOk (i:Int) (i:Int):=.inl ⟨by omega,by omega⟩
  refine ⟨_,[.val (.int c),.val (.str "abcdefghijklmnopqrstuvwxyz"),.val (.int sz),.val (.int (c/32%sz)),.val (.str (yeT c (c/32%sz) (i+1))),.val (.int i),.val (.int (if (i:Int)=c/32%sz then c/256+(i:Int)*i+c/6656 else c/256+(i:Int)*i))],h1,rfl,.inl ?_,_,_,rfl,rfl⟩
  symm
  rw [if_pos hm]
  split
  .rename_i hk
   rw [hat,bind_some]
   simp only [ydi,ydJ,sgn]
   rw [if_pos (by rw [yle];show i+1<=100000;omega)]
   simp only [ydi,bind_some,yeT,nameStep,if_pos hk]
   rfl
  .rename_i hk
   rw [hat,bind_some]
   simp only [ydi,ydJ,sgn]
   rw [if_pos (by rw [yle];show i+1<=100000;omega)]
   simp only [ydi,bind_some,yeT,nameStep,if_neg hk]
   rfl
 .rintro ρ' h' ⟨c1,c2,rfl,rfl⟩
  symm
  rw [yjG]
theorem yfO {sep:Str}{xs:List PV}{ts:List Str}(e:strsOf xs=some ts) (hs:sep.length<=16) (hl:(ts.map (·.length)).sum+ts.length<=1048576):yeC (.str sep) [.lst xs] h=some (.str (Str.join sep ts),h):=by
 unfold yeC ycd
 simp only [e]
 exact if_pos ⟨hs,hl⟩
theorem j1:(" ":Str).length<=16:=by rfl'
theorem ytr {i:Nat}{ρ:PSt}{xs:List PV}(e:ye i ρ h=some (.lst xs,h)):xIL (ye i) ρ h=some (xs,h):=yBP e
theorem yoz (t:T):∃ ns xs,ydN t=.ins (kd t) ns xs/\("shown":Str)∉ns/\("long":Str)∉ns:=by
 cases t
 all_goals exact ⟨_,_,rfl,by rfl',by rfl'⟩
theorem ylf {m:Str}{f:Nat->Fn}(t:T) (hm:m = "shown"\/m = "long"):ygI m f (ydN t) h=f (kd t) [ydN t] h:=by
 obtain ⟨ns,xs,e,h1,h2⟩:=yoz t
 rw [e]
 rcases hm with rfl|rfl
 .exact ycV h1
 .exact ycV h2
theorem yoA:∀ ts:List T,strsOf ((yG ts).map PV.str)=some (yG ts):=fun ts=>yej _
def ylg (n:Nat):Prop:=∀ (h:AH) (t:T),3*yhA t+1<=n->wT t<=100000->yfm n (kd t) [ydN t] h=some (.int (ycM t),h)
theorem ycz {n:Nat}(G:ylg n) {ts:List T}(hd:3*ybz ts+1<=n) (hw:wL ts<=100000):ybj (n+1) [.lst (ybN ts)] h=some (.int (yt ts).sum,h):=by
 unfold ybj
 rw [yN]
 show ob (ybq _ [.val (.lst (ybN ts))] h) fnK=_
 have wc:=w_count ts
 symm
 rw [ytr rfl,ydi,yen]
 rw [if_pos (by rw [length_map];omega)]
 have e:yki (yhr "long" (yfm n) (ye 0)) (yiw [] [PVar.val (PV.lst (ts.map ydN))]) (ts.map ydN) h=some ((yt ts).map PV.int,h):=by
  have:∀ us:List T,(∀ t∈us,t∈ts)->yki (yhr "long" (yfm n) (ye 0)) (yiw [] [PVar.val (PV.lst (ts.map ydN))]) (us.map ydN) h=some ((yt us).map PV.int,h):=by
   intro us
   induction us with
   | nil=>intro _;rfl
   | cons t r ih =>
    intro hm
    have ht:=hm t mem_cons_self
    have e1:yhr "long" (yfm n) (ye 0) (yiw [] [PVar.val (PV.lst (ts.map ydN))] (ydN t)) h=some (.int (ycM t),h):=by
     show yhr "long" (yfm n) (ye 0) [.val (ydN t)] h=_
     rw [yql,ynj,ydi,ylf t (.inr rfl)]
     have:=yie ht
     have:=ywT ht
     exact G h t (by omega) (by omega)
    show ob (yhr "long" (yfm n) (ye 0) (yiw [] [PVar.val (PV.lst (ts.map ydN))] (ydN t)) h) _=_
    rw [e1,ydi,ih fun u hu=>hm u (mem_cons_of_mem _ hu)]
    rfl
  exact this ts fun _ h=>h
 rw [e]
 symm
 show ob (yoV [.lst ((yt ts).map PV.int)] h) _=_
 unfold yoV ycd
 simp only [yfC]
 rfl
theorem ywU {n:Nat}(G:ylg n) {r:Str}{x y:List T}(hd:3*yhA (.if_ r x y)+1<=n+3) (hw:wT (.if_ r x y)<=100000):ygl (n+2) [ydN (.if_ r x y)] h=some (.int (ycM (.if_ r x y)),h):=by
 have hd:3*(1+max (ybz x) (ybz y))+1<=n+3:=hd
 have hw:40+r.length+wL x+wL y<=100000:=hw
 unfold ygl
 rw [yN]
 show ob (ybq _ [.val (.ins 5 ["slot","parts","others"] [.str r,.lst (ybN x),.lst (ybN y)])] h) fnK=_
 symm
 rw [ycz G (ts:=x) (by omega) (by omega)]
 symm
 rw [ycz G (ts:=y) (by omega) (by omega)]
 symm
 rfl
theorem ymu {n:Nat}(G:ylg n) {x y:List T}(hd:3*yhA (.either x y)+1<=n+3) (hw:wT (.either x y)<=100000):ydB (n+2) [ydN (.either x y)] h=some (.int (ycM (.either x y)),h):=by
 have hd:3*(1+max (ybz x) (ybz y))+1<=n+3:=hd
 have hw:40+wL x+wL y<=100000:=hw
 unfold ydB
 rw [yN]
 show ob (ybq _ [.val (.ins 6 ["parts","others"] [.lst (ybN x),.lst (ybN y)])] h) fnK=_
 symm
 rw [ycz G (ts:=x) (by omega) (by omega)]
 symm
 rw [ycz G (ts:=y) (by omega) (by omega)]
 symm
 rfl
theorem yts {n:Nat}(G:ylg n) {nm r:Str}{x y:List T}(hd:3*yhA (.try_ x nm r y)+1<=n+3) (hw:wT (.try_ x nm r y)<=100000):yfD (n+2) [ydN (.try_ x nm r y)] h=some (.int (ycM (.try_ x nm r y)),h):=by
 have hd:3*(1+max (ybz x) (ybz y))+1<=n+3:=hd
 have hw:40+nm.length+r.length+wL x+wL y<=100000:=hw
 unfold yfD
 rw [yN]
 show ob (ybq _ [.val (.ins 7 ["parts","name","slot","others"] [.lst (ybN x),.str nm,.str r,.lst (ybN y)])] h) fnK=_
 symm
 rw [ycz G (ts:=x) (by omega) (by omega)]
 symm
 rw [ycz G (ts:=y) (by omega) (by omega)]
 symm
 rfl
theorem yif:∀ n:Nat,ylg n
 | 0=>fun h t hd=>by omega
 | n+1=>fun h t hd hw=>by
  cases t with
  | base=>rfl
  | let_ r m=>rfl
  | reckon w r s u=>rfl
  | take r s=>rfl
  | put r s=>rfl
  | throw nm r=>rfl
  | wait=>rfl
  | if_ r x y =>
   have h1:3*(1+max (ybz x) (ybz y))+1<=n+1:=hd
   obtain ⟨m,rfl⟩:∃ m,n=m+2:=⟨n-2,by omega⟩
   exact ywU (yif m) hd hw
  | either x y =>
   have h1:3*(1+max (ybz x) (ybz y))+1<=n+1:=hd
   obtain ⟨m,rfl⟩:∃ m,n=m+2:=⟨n-2,by omega⟩
   exact ymu (yif m) hd hw
  | try_ x nm r y =>
   have h1:3*(1+max (ybz x) (ybz y))+1<=n+1:=hd
   obtain ⟨m,rfl⟩:∃ m,n=m+2:=⟨n-2,by omega⟩
   exact yts (yif m) hd hw
end
def ytt (m:Nat):List Nat:=(Nat.toDigits 10 m).map Char.toNat
theorem yAw:∀ d:Nat,d<10->(Nat.digitChar d).toNat=48+d:=by
 intro d h
 have:d=0\/d=1\/d=2\/d=3\/d=4\/d=5\/d=6\/d=7\/d=8\/d=9:=by omega
 rcases this with rfl|rfl|rfl|rfl|rfl|rfl|rfl|rfl|rfl|rfl
 all_goals decide
theorem ytu (cs:List Nat) (c:Nat):yoU (cs++[c])=yoU cs*10+((c:Int)-48):=by
 unfold yoU
 rw [List.foldl_append];rfl
theorem yqO:∀ m:Nat,ytt m≠[]/\(∀ c∈ytt m,48<=c/\c<=57)/\yoU (ytt m)=m/\(m≠0->(ytt m)[0]?≠some 48)/\(m=0->ytt m=[48]):=by
 intro m
 induction m using Nat.strongRecOn with
 | ind m ih =>
  unfold ytt at *
  by_cases h:m<10
  .rw [Nat.toDigits_of_lt_base h,List.map_singleton,yAw m h]
   refine ⟨by simp,fun c hc=>?_,?_,fun hm e=>?_,fun e=>by subst e;rfl⟩
   .rw [List.mem_singleton.mp hc];omega
   .show (0:Int)*10+(((48+m:Nat):Int)-48)=m
    omega
   .have:48+m=48:=by simpa using e
    omega
  .rw [Nat.toDigits_of_base_le (by decide) (by omega),map_append,List.map_singleton,yAw (m%10) (by omega)]
   obtain ⟨h1,h2,h3,h4,h5⟩:=ih (m/10) (by omega)
   refine ⟨by simp,fun c hc=>?_,?_,fun _ e=>?_,fun e=>by omega⟩
   .rcases List.mem_append.mp hc with hc|hc
    .exact h2 c hc
    .rw [List.mem_singleton.mp hc];omega
   .rw [ytu,h3];omega
   .refine h4 (by omega) ?_
    generalize (Nat.toDigits 10 (m/10)).map Char.toNat=l at *
    cases l with
    | nil=>exact absurd rfl h1
    | cons a l=>simpa using e
theorem yqP {n:Int}(h:0<=n):(Str.ofString (toString n)).cps.toList=ytt n.toNat:=by
 obtain ⟨m,rfl⟩:∃ m:Nat,n=m:=⟨n.toNat,by omega⟩
 rw [Str.ofString_eq_toList]
 show (toString m).toList.map Char.toNat=_
 rw [Int.toNat_natCast,show (toString m)=m.repr from rfl,Nat.toList_repr];rfl
def ydn (r:Str):Prop:=∃ c:Nat,97<=c/\c<=104/\r=⟨#[c]⟩
def yiZ (z:Str):Prop:=1<=z.length/\z.length<=8/\∀ c∈z.cps.toList,97<=c/\c<=122
def ylh (w:Str):Prop:=w = "plus"\/w = "minus"\/w = "times"\/w = "less"\/w = "same"
mutual
noncomputable def gdT:T->Prop
 | .base=>False
 | .let_ r n=>ydn r/\0<=n/\n<B64
 | .reckon w r s t=>ylh w/\ydn r/\ydn s/\ydn t
 | .take r s=>ydn r/\ydn s
 | .put r s=>ydn r/\ydn s
 | .if_ r a b=>ydn r/\gdL a/\gdL b
 | .either a b=>gdL a/\gdL b
 | .try_ a nm r b=>yiZ nm/\ydn r/\gdL a/\gdL b
 | .throw nm r=>yiZ nm/\ydn r
 | .wait=>True
noncomputable def gdL:List T->Prop
 | []=>True
 | t::r=>gdT t/\gdL r
end
def wsd (l:List Str):List Str:=("(":Str)::(l++[(")":Str)])
mutual
noncomputable def wdT:T->List Str
 | .base=>[]
 | .let_ r n=>["let",r,(toString n:String)]
 | .reckon w r s t=>[w,r,s,t]
 | .take r s=>["take",r,s]
 | .put s t=>["put",s,t]
 | .if_ r a b=>("if":Str)::r::(wsd (wdL a)++("else":Str)::wsd (wdL b))
 | .either a b=>("either":Str)::(wsd (wdL a)++("or":Str)::wsd (wdL b))
 | .try_ a nm r b=>("try":Str)::(wsd (wdL a)++("on":Str)::nm::r::wsd (wdL b))
 | .throw nm r=>["throw",nm,r]
 | .wait=>["wait"]
noncomputable def wdL:List T->List Str
 | []=>[]
 | t::r=>wdT t++wdR r
noncomputable def wdR:List T->List Str
 | []=>[]
 | t::r=>";"::(wdT t++wdR r)
end
theorem yqQ:∀ {t:T},gdT t->wdT t≠[]
 | .base,g=>g.elim
 | .let_ ..,_=>fun z=>by cases z
 | .reckon ..,_=>fun z=>by cases z
 | .take ..,_=>fun z=>by cases z
 | .put ..,_=>fun z=>by cases z
 | .if_ ..,_=>fun z=>by cases z
 | .either ..,_=>fun z=>by cases z
 | .try_ ..,_=>fun z=>by cases z
 | .throw ..,_=>fun z=>by cases z
 | .wait,_=>fun z=>by cases z
theorem ybS {sep:Str}:∀ {a b:List Str},a≠[]->b≠[]->Str.join sep (a++b)=Str.join sep a++sep++Str.join sep b
 | [],_,h,_=>absurd rfl h
 | [x],[],_,h=>absurd rfl h
 | [x],y::b,_,_=>rfl
 | x::y::a,b,_,hb=>by
  have ih:=ybS (sep:=sep) (a:=y::a) (b:=b) (fun z=>by cases z) hb
  show x++sep++Str.join sep ((y::a)++b)=x++sep++Str.join sep (y::a)++sep++Str.join sep b
  rw [ih];simp only [yci]
theorem yli {sep x:Str}{b:List Str}(h:b≠[]):Str.join sep (x::b)=x++sep++Str.join sep b:=ybS (a:=[x]) (fun z=>by cases z) h
theorem yAx:(" ; ":Str) = " "++";"++" ":=by rfl'
theorem yAy:("( )":Str) = "("++" "++")":=by rfl'
def fr (w:Str):Prop:=32∉w.cps.toList/\w.length≠0/\w.length<=20
theorem ybH {r:Str}(h:ydn r):fr r:=by
 obtain ⟨c,h1,h2,rfl⟩:=h
 refine ⟨fun z=>?_,(fun z:1=0=>by cases z),(show 1<=20 by decide)⟩
 have:32=c:=by simpa using z
 omega
theorem yjP {r:Str}(h:yiZ r):fr r:=⟨fun z=>by have:=h.2.2 _ z;omega,by have:=h.1;omega,by have:=h.2.1;omega⟩
theorem yqR {n:Int}(h:0<=n) (h2:n<B64):fr (toString n:String):=by
 have e:=yqP h
 obtain ⟨h3,h4,_⟩:=yqO n.toNat
 refine ⟨fun z=>?_,fun z=>h3 ?_,str_len h (by decide) (Int.lt_trans h2 yAv)⟩
 .rw [e] at z
  have:=h4 _ z
  omega
 .rw [<- e]
  have:(Str.ofString (toString n)).cps.size=0:=z
  exact List.eq_nil_of_length_eq_zero (by simpa using this)
theorem yqS {r:Str}(h:ylh r):fr r:=by
 rcases h with rfl|rfl|rfl|rfl|rfl
 all_goals exact ⟨by rfl',by rfl',by rfl'⟩
theorem yns (s:Str) (h:decide (32∉s.cps.toList/\s.length≠0/\s.length<=20)=true):fr s:=(show 32∉s.cps.toList/\s.length≠0/\s.length<=20 from of_decide_eq_true h)
def frs (l:List Str):Prop:=∀ w∈l,fr w
theorem yeI:frs []:=fun _ h=>by cases h
theorem yS {w:Str}{l:List Str}(h:fr w) (k:frs l):frs (w::l):=fun x hx=>(mem_cons.mp hx).elim (fun e=>e ▸ h) (k x)
theorem ygM {a b:List Str}(h:frs a) (k:frs b):frs (a++b):=fun x hx=>(List.mem_append.mp hx).elim (h x) (k x)
theorem yDQ:fr "let":=yns _ (by rfl')
theorem yAz:fr "take":=yns _ (by rfl')
theorem yDR:fr "put":=yns _ (by rfl')
theorem yGe:fr "if":=yns _ (by rfl')
theorem yAA:fr "else":=yns _ (by rfl')
theorem ytv:fr "either":=yns _ (by rfl')
theorem yGf:fr "or":=yns _ (by rfl')
theorem yDS:fr "try":=yns _ (by rfl')
theorem yGg:fr "on":=yns _ (by rfl')
theorem ywV:fr "throw":=yns _ (by rfl')
theorem yAB:fr "wait":=yns _ (by rfl')
theorem yGh:fr "(":=yns _ (by rfl')
theorem yGi:fr ")":=yns _ (by rfl')
theorem yGj:fr ";":=yns _ (by rfl')
theorem yja {l:List Str}(h:frs l):frs (wsd l):=yS yGh (ygM h (yS yGi yeI))
mutual
theorem ywW:∀ {t:T},gdT t->frs (wdT t)
 | .base,g=>g.elim
 | .let_ r n,g=>yS yDQ (yS (ybH g.1) (yS (yqR g.2.1 g.2.2) yeI))
 | .reckon w r s t,g=>yS (yqS g.1) (yS (ybH g.2.1) (yS (ybH g.2.2.1) (yS (ybH g.2.2.2) yeI)))
 | .take r s,g=>yS yAz (yS (ybH g.1) (yS (ybH g.2) yeI))
 | .put r s,g=>yS yDR (yS (ybH g.1) (yS (ybH g.2) yeI))
 | .if_ r a b,g=>yS yGe (yS (ybH g.1) (ygM (yja (yfo g.2.1)) (yS yAA (yja (yfo g.2.2)))))
 | .either a b,g=>yS ytv (ygM (yja (yfo g.1)) (yS yGf (yja (yfo g.2))))
 | .try_ a nm r b,g=>yS yDS (ygM (yja (yfo g.2.2.1)) (yS yGg (yS (yjP g.1) (yS (ybH g.2.1) (yja (yfo g.2.2.2))))))
 | .throw nm r,g=>yS ywV (yS (yjP g.1) (yS (ybH g.2) yeI))
 | .wait,_=>yS yAB yeI
theorem yfo:∀ {ts:List T},gdL ts->frs (wdL ts)
 | [],_=>yeI
 | _::_,g=>ygM (ywW g.1) (yAC g.2)
theorem yAC:∀ {ts:List T},gdL ts->frs (wdR ts)
 | [],_=>yeI
 | _::_,g=>yS yGj (ygM (ywW g.1) (yAC g.2))
end
theorem yig {sep:Str}{l:List Str}(h:frs l) (hl:l≠[]):Str.join sep l≠"":=by
 cases l with
 | nil=>exact absurd rfl hl
 | cons x r =>
  intro e
  have h1:=(h x mem_cons_self).2.1
  have:=ytq sep x r (by omega)
  rw [e,ynr] at this
  omega
theorem yoB (l:List Str):wsd l≠[]:=fun z=>by cases z
theorem yeo {l:List Str}(h:frs l):ybD (Str.join " " l)=Str.join " " (wsd l):=by
 unfold ybD
 by_cases e:l=[]
 .subst e
  rw [if_pos (by rfl')]
  exact yAy
 .rw [if_neg (yig h e)]
  show "("++" "++(Str.join " " l++" "++")")=Str.join " " (("(":Str)::(l++[(")":Str)]))
  rw [yli (by simp),ybS e (fun z=>by cases z)]
  rfl
theorem ynt:∀ (t:T) (r:List T),(∀ u∈t::r,yca u=Str.join " " (wdT u))->gdL (t::r)->Str.join " ; " (yG (t::r))=Str.join " " (wdT t++wdR r)
 | t,[],h,_=>by
  show yca t=Str.join " " (wdT t++[])
  rw [append_nil];exact h t mem_cons_self
 | t,u::r,h,g=>by
  have ih:=ynt u r (fun v hv=>h v (mem_cons_of_mem _ hv)) g.2
  show yca t++" ; "++Str.join " ; " (yG (u::r))=Str.join " " (wdT t++(";":Str)::(wdT u++wdR r))
  have ne:wdT u++wdR r≠[]:=fun z=>yqQ g.2.1 (List.append_eq_nil_iff.mp z).1
  rw [ih,h t mem_cons_self,ybS (yqQ g.1) (fun z=>by cases z),yli ne,yAx]
  simp only [yci]
mutual
theorem ynu:∀ (t:T),gdT t->yca t=Str.join " " (wdT t)
 | .base,g=>g.elim
 | .let_ ..,_=>rfl
 | .reckon ..,_=>rfl
 | .take ..,_=>rfl
 | .put ..,_=>rfl
 | .throw ..,_=>rfl
 | .wait,_=>rfl
 | .if_ r a b,g=>by
  show Str.join " " ["if",r,ybD (Str.join " ; " (yG a)),"else",ybD (Str.join " ; " (yG b))]=Str.join " " ((["if",r]:List Str)++(wsd (wdL a)++((["else"]:List Str)++wsd (wdL b))))
  rw [ycj a g.2.1,ycj b g.2.2,yeo (yfo g.2.1),yeo (yfo g.2.2),ybS (a:=["if",r]) (fun z=>by cases z) (fun z=>by cases z),ybS (yoB _) (fun z=>by cases z),ybS (a:=["else"]) (fun z=>by cases z) (yoB _)]
  simp only [Str.join,yci]
 | .either a b,g=>by
  show Str.join " " ["either",ybD (Str.join " ; " (yG a)),"or",ybD (Str.join " ; " (yG b))]=Str.join " " ((["either"]:List Str)++(wsd (wdL a)++((["or"]:List Str)++wsd (wdL b))))
  rw [ycj a g.1,ycj b g.2,yeo (yfo g.1),yeo (yfo g.2),ybS (a:=["either"]) (fun z=>by cases z) (fun z=>by cases z),ybS (yoB _) (fun z=>by cases z),ybS (a:=["or"]) (fun z=>by cases z) (yoB _)]
  simp only [Str.join,yci]
 | .try_ a nm r b,g=>by
  show Str.join " " ["try",ybD (Str.join " ; " (yG a)),"on",nm,r,ybD (Str.join " ; " (yG b))]=Str.join " " ((["try"]:List Str)++(wsd (wdL a)++((["on",nm,r]:List Str)++wsd (wdL b))))
  rw [ycj a g.2.2.1,ycj b g.2.2.2,yeo (yfo g.2.2.1),yeo (yfo g.2.2.2),ybS (a:=["try"]) (fun z=>by cases z) (fun z=>by cases z),ybS (yoB _) (fun z=>by cases z),ybS (a:=["on",nm,r]) (fun z=>by cases z) (yoB _)]
  simp only [Str.join,yci]
theorem ycj:∀ (ts:List T),gdL ts->Str.join " ; " (yG ts)=Str.join " " (wdL ts)
 | [],_=>rfl
 | t::r,g=>ynt t r (ylj (t::r) g) g
theorem ylj:∀ (ts:List T),gdL ts->∀ u∈ts,yca u=Str.join " " (wdT u)
 | [],_,u,h=>by cases h
 | t::r,g,u,h=>by
  rcases mem_cons.mp h with e|h
  .rw [e];exact ynu t g.1
  .exact ylj r g.2 u h
end
theorem ynv:(("let":Str) = "if")=False:=eq_false (by rfl')
theorem yhg:(("let":Str) = "either")=False:=eq_false (by rfl')
theorem ylk:(("let":Str) = "try")=False:=eq_false (by rfl')
theorem yxO:(("take":Str) = "let")=False:=eq_false (by rfl')
theorem yll:(("take":Str) = "if")=False:=eq_false (by rfl')
theorem ygn:(("take":Str) = "either")=False:=eq_false (by rfl')
theorem yjb:(("take":Str) = "try")=False:=eq_false (by rfl')
theorem yAD:(("put":Str) = "let")=False:=eq_false (by rfl')
theorem yxP:(("put":Str) = "take")=False:=eq_false (by rfl')
theorem ynw:(("put":Str) = "if")=False:=eq_false (by rfl')
theorem yhh:(("put":Str) = "either")=False:=eq_false (by rfl')
theorem ylm:(("put":Str) = "try")=False:=eq_false (by rfl')
theorem ywX:(("throw":Str) = "let")=False:=eq_false (by rfl')
theorem yuy:(("throw":Str) = "take")=False:=eq_false (by rfl')
theorem ywY:(("throw":Str) = "put")=False:=eq_false (by rfl')
theorem yjc:(("throw":Str) = "if")=False:=eq_false (by rfl')
theorem yfP:(("throw":Str) = "either")=False:=eq_false (by rfl')
theorem yih:(("throw":Str) = "try")=False:=eq_false (by rfl')
theorem yxQ:(("wait":Str) = "let")=False:=eq_false (by rfl')
theorem ywZ:(("wait":Str) = "take")=False:=eq_false (by rfl')
theorem yxR:(("wait":Str) = "put")=False:=eq_false (by rfl')
theorem yuz:(("wait":Str) = "throw")=False:=eq_false (by rfl')
theorem yln:(("wait":Str) = "if")=False:=eq_false (by rfl')
theorem ygo:(("wait":Str) = "either")=False:=eq_false (by rfl')
theorem yjd:(("wait":Str) = "try")=False:=eq_false (by rfl')
theorem yii:(("if":Str) = "either")=False:=eq_false (by rfl')
theorem ynx:(("if":Str) = "try")=False:=eq_false (by rfl')
theorem yeJ:(("either":Str) = "if")=False:=eq_false (by rfl')
theorem yhi:(("either":Str) = "try")=False:=eq_false (by rfl')
theorem yhB:(("try":Str) = "if")=False:=eq_false (by rfl')
theorem yhj:(("try":Str) = "either")=False:=eq_false (by rfl')
theorem yqT {w:Str}(g:ylh w):(w = "let")=False/\(w = "take")=False/\(w = "put")=False/\(w = "throw")=False/\(w = "wait")=False/\(w = "if")=False/\(w = "either")=False/\(w = "try")=False:=by
 rcases g with rfl|rfl|rfl|rfl|rfl
 all_goals exact ⟨eq_false (by rfl'),eq_false (by rfl'),eq_false (by rfl'),eq_false (by rfl'),eq_false (by rfl'),eq_false (by rfl'),eq_false (by rfl'),eq_false (by rfl')⟩
local macro_rules | `(tactic| walk_at "qq")=>`(tactic| simp_all? only [$(sl_ "ynv yhg ylk yll ygn yjb ynw yhh ylm yjc yfP yih yln ygo yjd yii ynx yeJ yhi yhB yhj"),*,↓reduceIte])
local macro_rules | `(tactic| right)=>`(tactic| simp_all? only [$(sl_ "ysV yxI yxJ yxK yBQ ynv yhg ylk yll ygn yjb ynw yhh ylm yjc yfP yih yln ygo yjd yii ynx yeJ yhi yhB yhj"),*,↓reduceIte])
mutual
noncomputable def rdT:T->Int
 | .if_ _ a b=>max 0 (max (1+rdL a) (1+rdL b))
 | .either a b=>max 0 (max (1+rdL a) (1+rdL b))
 | .try_ a _ _ b=>max 0 (max (1+rdL a) (1+rdL b))
 | _=>0
noncomputable def rdL:List T->Int
 | []=>-1
 | t::r=>max (rdT t) (rdL r)
end
theorem yiy:∀ t:T,0<=rdT t
 | .base=>by show (0:Int)<=0;omega
 | .let_ ..=>by show (0:Int)<=0;omega
 | .reckon ..=>by show (0:Int)<=0;omega
 | .take ..=>by show (0:Int)<=0;omega
 | .put ..=>by show (0:Int)<=0;omega
 | .throw ..=>by show (0:Int)<=0;omega
 | .wait=>by show (0:Int)<=0;omega
 | .if_ _ a b=>by show 0<=max 0 (max (1+rdL a) (1+rdL b));omega
 | .either a b=>by show 0<=max 0 (max (1+rdL a) (1+rdL b));omega
 | .try_ a _ _ b=>by show 0<=max 0 (max (1+rdL a) (1+rdL b));omega
theorem fw:∀ {t:T},gdT t->∃ w tl,wdT t=w::tl/\w≠")"
 | .base,g=>g.elim
 | .let_ ..,_=>⟨_,_,rfl,by rfl'⟩
 | .reckon ..,g=>⟨_,_,rfl,by rcases g.1 with rfl|rfl|rfl|rfl|rfl;all_goals rfl'⟩
 | .take ..,_=>⟨_,_,rfl,by rfl'⟩
 | .put ..,_=>⟨_,_,rfl,by rfl'⟩
 | .if_ ..,_=>⟨_,_,rfl,by rfl'⟩
 | .either ..,_=>⟨_,_,rfl,by rfl'⟩
 | .try_ ..,_=>⟨_,_,rfl,by rfl'⟩
 | .throw ..,_=>⟨_,_,rfl,by rfl'⟩
 | .wait,_=>⟨_,_,rfl,by rfl'⟩
mutual
theorem yhC:∀ {t:T},gdT t->1<=ycM t
 | .base,g=>g.elim
 | .let_ ..,_=>by show (1:Int)<=1;omega
 | .reckon ..,_=>by show (1:Int)<=1;omega
 | .take ..,_=>by show (1:Int)<=1;omega
 | .put ..,_=>by show (1:Int)<=1;omega
 | .throw ..,_=>by show (1:Int)<=1;omega
 | .wait,_=>by show (1:Int)<=1;omega
 | .if_ r a b,g=>by
  have h1:=yT g.2.1
  have h2:=yT g.2.2
  show 1<=2+(yt a).sum+(yt b).sum
  omega
 | .either a b,g=>by
  have h1:=yT g.1
  have h2:=yT g.2
  show 1<=3+(yt a).sum+(yt b).sum
  omega
 | .try_ a nm r b,g=>by
  have h1:=yT g.2.2.1
  have h2:=yT g.2.2.2
  show 1<=3+(yt a).sum+(yt b).sum
  omega
theorem yT:∀ {ts:List T},gdL ts->(ts.length:Int)<=(yt ts).sum
 | [],_=>Int.le_refl _
 | t::r,g=>by
  have h1:=yhC g.1
  have h2:=yT g.2
  show ((r.length+1:Nat):Int)<=(ycM t::yt r).sum
  rw [List.sum_cons]
  omega
end
mutual
theorem yAE:∀ {t:T},gdT t->(wT t:Int)+5<=100*ycM t
 | .base,g=>g.elim
 | .let_ r n,g=>by
  have h1:=(ybH g.1).2.2
  have h2:=(yqR g.2.1 g.2.2).2.2
  show ((10+r.length+(Str.ofString (toString n)).length:Nat):Int)+5<=100*1
  omega
 | .reckon w r s t,g=>by
  have h1:=(yqS g.1).2.2
  have h2:=(ybH g.2.1).2.2
  have h3:=(ybH g.2.2.1).2.2
  have h4:=(ybH g.2.2.2).2.2
  show ((10+w.length+r.length+s.length+t.length:Nat):Int)+5<=100*1
  omega
 | .take r s,g=>by
  have h1:=(ybH g.1).2.2
  have h2:=(ybH g.2).2.2
  show ((10+r.length+s.length:Nat):Int)+5<=100*1
  omega
 | .put r s,g=>by
  have h1:=(ybH g.1).2.2
  have h2:=(ybH g.2).2.2
  show ((10+r.length+s.length:Nat):Int)+5<=100*1
  omega
 | .throw r s,g=>by
  have h1:=(yjP g.1).2.2
  have h2:=(ybH g.2).2.2
  show ((10+r.length+s.length:Nat):Int)+5<=100*1
  omega
 | .wait,_=>by show ((10:Nat):Int)+5<=100*1;omega
 | .if_ r a b,g=>by
  have h0:=(ybH g.1).2.2
  have h1:=yed g.2.1
  have h2:=yed g.2.2
  show ((40+r.length+wL a+wL b:Nat):Int)+5<=100*(2+(yt a).sum+(yt b).sum)
  omega
 | .either a b,g=>by
  have h1:=yed g.1
  have h2:=yed g.2
  show ((40+wL a+wL b:Nat):Int)+5<=100*(3+(yt a).sum+(yt b).sum)
  omega
 | .try_ a nm r b,g=>by
  have h0:=(ybH g.2.1).2.2
  have h3:=(yjP g.1).2.2
  have h1:=yed g.2.2.1
  have h2:=yed g.2.2.2
  show ((40+nm.length+r.length+wL a+wL b:Nat):Int)+5<=100*(3+(yt a).sum+(yt b).sum)
  omega
theorem yed:∀ {ts:List T},gdL ts->(wL ts:Int)<=100*(yt ts).sum
 | [],_=>Int.le_refl _
 | t::r,g=>by
  have h1:=yAE g.1
  have h2:=yed g.2
  show ((5+wT t+wL r:Nat):Int)<=100*(ycM t::yt r).sum
  rw [List.sum_cons]
  omega
end
mutual
theorem yAF:∀ t:T,(yhA t:Int)<=rdT t+1
 | .base=>by show (0:Int)<=0+1;omega
 | .let_ ..=>by show (0:Int)<=0+1;omega
 | .reckon ..=>by show (0:Int)<=0+1;omega
 | .take ..=>by show (0:Int)<=0+1;omega
 | .put ..=>by show (0:Int)<=0+1;omega
 | .throw ..=>by show (0:Int)<=0+1;omega
 | .wait=>by show (0:Int)<=0+1;omega
 | .if_ r a b=>by
  have h1:=yeK a
  have h2:=yeK b
  show ((1+max (ybz a) (ybz b):Nat):Int)<=max 0 (max (1+rdL a) (1+rdL b))+1
  omega
 | .either a b=>by
  have h1:=yeK a
  have h2:=yeK b
  show ((1+max (ybz a) (ybz b):Nat):Int)<=max 0 (max (1+rdL a) (1+rdL b))+1
  omega
 | .try_ a nm r b=>by
  have h1:=yeK a
  have h2:=yeK b
  show ((1+max (ybz a) (ybz b):Nat):Int)<=max 0 (max (1+rdL a) (1+rdL b))+1
  omega
theorem yeK:∀ ts:List T,(ybz ts:Int)<=rdL ts+1
 | []=>by show (0:Int) <= -1+1;omega
 | t::r=>by
  have h1:=yAF t
  have h2:=yeK r
  show ((max (yhA t) (ybz r):Nat):Int)<=max (rdT t) (rdL r)+1
  omega
end
structure OkL (ts:List T):Prop where
 gd:gdL ts
 rd:rdL ts<=8
 lg:(yt ts).sum<=79
theorem OkL.len {ts:List T}(g:OkL ts):ts.length<=79:=by have:=yT g.gd;have:=g.lg;omega
theorem OkL.w {ts:List T}(g:OkL ts):wL ts<=7900:=by have:=yed g.gd;have:=g.lg;omega
theorem OkL.dep {ts:List T}(g:OkL ts):ybz ts<=9:=by have:=yeK ts;have:=g.rd;omega
def ycR (ts:List T):Str:=Str.join " ; " (yG ts)
mutual
noncomputable def yef:T->PV
 | .base=>.tup []
 | .let_ r n=>.tup [.str "let",.str r,.int n]
 | .reckon w r s t=>.tup [.str w,.str r,.str s,.str t]
 | .take r s=>.tup [.str "take",.str r,.str s]
 | .put r s=>.tup [.str "put",.str r,.str s]
 | .if_ r a b=>.tup [.str "if",.str r,.lst (yQ a),.lst (yQ b)]
 | .either a b=>.tup [.str "either",.lst (yQ a),.lst (yQ b)]
 | .try_ a nm r b=>.tup [.str "try",.lst (yQ a),.str nm,.str r,.lst (yQ b)]
 | .throw nm r=>.tup [.str "throw",.str nm,.str r]
 | .wait=>.tup [.str "wait"]
noncomputable def yQ:List T->List PV
 | []=>[]
 | t::r=>yef t::yQ r
end
theorem yep:∀ ts:List T,yQ ts=ts.map yef
 | []=>rfl
 | t::r=>by show yef t::yQ r=_;rw [yep r];rfl
theorem ylo (ts:List T):(yQ ts).length=ts.length:=by rw [yep,length_map]
def yiz:T->List (List T)
 | .if_ _ a b=>[a,b]
 | .either a b=>[a,b]
 | .try_ a _ _ b=>[a,b]
 | _=>[]
section
variable {h:AH}
theorem yny {t:T}(g:gdT t):ycw [yef t] h=some (.lst ((yiz t).map fun a=>.lst (yQ a)),h):=by
 unfold ycw
 rw [yN]
 cases t with
 | base=>exact g.elim
 | reckon w r s t =>
  obtain ⟨n1,n2,n3,n4,n5,n6,n7,n8⟩:=yqT g.1
  show ob (yw _ _ [.val (.tup [.str w,.str r,.str s,.str t])] h) fnK=_
  simp_all? only [ysV,yxI,yxJ,yxK,yBQ,n6,n7,n8,↓reduceIte]
  rfl
 | let_ r n =>
  show ob (yw _ _ [.val (.tup [.str "let",.str r,.int n])] h) fnK=_
  right
  rfl
 | take r s =>
  show ob (yw _ _ [.val (.tup [.str "take",.str r,.str s])] h) fnK=_
  right
  rfl
 | put r s =>
  show ob (yw _ _ [.val (.tup [.str "put",.str r,.str s])] h) fnK=_
  right
  rfl
 | throw r s =>
  show ob (yw _ _ [.val (.tup [.str "throw",.str r,.str s])] h) fnK=_
  right
  rfl
 | wait =>
  show ob (yw _ _ [.val (.tup [.str "wait"])] h) fnK=_
  right
  rfl
 | if_ r a b =>
  show ob (yw _ _ [.val (.tup [.str "if",.str r,.lst (yQ a),.lst (yQ b)])] h) fnK=_
  right
  rfl
 | either a b =>
  show ob (yw _ _ [.val (.tup [.str "either",.lst (yQ a),.lst (yQ b)])] h) fnK=_
  right
  rfl
 | try_ a nm r b =>
  show ob (yw _ _ [.val (.tup [.str "try",.lst (yQ a),.str nm,.str r,.lst (yQ b)])] h) fnK=_
  right
  rfl
end
section
def ymv (n:Nat):XS:=ybc (xCB (yhS) (yb (ye 1) (yb (xOp yfe (xC (.int 1)) (yP (ycx n) (yb (ye 3) (yk)))) (yk)))) (yl 1)
def yoC (n:Nat):XS:=yw (ylF (xIL (yP ycw (yb (ye 2) (yk)))) (yl 3) (ymv n)) (ybc (xCB (yhS) (yb (ye 1) (yb (xC (.int 0)) (yk)))) (yl 1))
def yjQ (n:Nat):Prop:=∀ (ts:List T) (h:AH),gdL ts->ybz ts+1<=n->ycx n [.lst (yQ ts)] h=some (.int (rdL ts),h)
theorem yAG (a b:Int):(if b>a then b else a)=max a b:=by
 rw [Int.max_def]
 by_cases h:b>a
 .rw [if_pos h,if_pos (by omega)]
 .rw [if_neg h]
  by_cases h2:a<=b
  .rw [if_pos h2];omega
  .rw [if_neg h2]
theorem yjR {a b:Int}{h:AH}:yhS [.int a,.int b] h=some (.int (max a b),h):=by
 show some (PV.int (if b>a then b else a),h)=_
 rw [yAG]
theorem ynz {n:Nat}(G:yjQ n) {a:List T}(g:gdL a) (hd:ybz a+1<=n) (x0 v:PVar) (acc:Int) (h:AH):ymv n [x0,.val (.int acc),v,.val (.lst (yQ a))] h=some (.nx [x0,.val (.int (max acc (1+rdL a))),v,.val (.lst (yQ a))],h):=by
 unfold ymv
 symm
 rw [G a h g hd]
 simp_all? only [yjR]
theorem yqU {s:XS}{x0 v c3 c3':PVar}{x y:PV}{a1 a2 a3:Int}{h:AH}(e1:s [x0,.val (.int a1),v,.val x] h=some (.nx [x0,.val (.int a2),v,.val x],h)) (e2:s [x0,.val (.int a2),v,.val y] h=some (.nx [x0,.val (.int a3),v,.val y],h)) :
  yeZ (yl 3) s [x,y] [x0,.val (.int a1),v,c3] h=some (.nx [x0,.val (.int a3),v,.val y],h):=by
 rw [yhR,show yl 3 x [x0,.val (.int a1),v,c3]=some [x0,.val (.int a1),v,.val x] from rfl,bind_some,e1,ydi]
 show yeZ (yl 3) s [y] [x0,.val (.int a2),v,.val x] h=_
 rw [yhR,show yl 3 y [x0,.val (.int a2),v,.val x]=some [x0,.val (.int a2),v,.val y] from rfl,bind_some,e2,ydi]
 rfl
theorem yoD {n:Nat}(G:yjQ n) {t:T}(g:gdT t) (hd:yhA t<=n) (x0 c3:PVar) (acc:Int) (h:AH):∃ c3',yoC n [x0,.val (.int acc),.val (yef t),c3] h=some (.nx [x0,.val (.int (max acc (rdT t))),.val (yef t),c3'],h):=by
 unfold yoC
 symm
 rw [yBP (xs:=(yiz t).map fun a=>PV.lst (yQ a)) (h1:=h) (by symm;rw [yny g]),ydi]
 have two:∀ (a b:List T),yiz t=[a,b]->gdL a->gdL b->ybz a+1<=n->ybz b+1<=n->rdT t=max 0 (max (1+rdL a) (1+rdL b))->∃ c3',ob (yeZ (yl 3) (ymv n) ((yiz t).map fun a=>PV.lst (yQ a)) [x0,.val (.int acc),.val (yef t),c3] h) (sqK (ybc (xCB yhS (yb (ye 1) (yb (xC (.int 0)) yk))) (yl 1)))=some (Out.nx [x0,.val (.int (max acc (rdT t))),.val (yef t),c3'],h):=by
  intro a b es ga gb da db er
  refine ⟨.val (.lst (yQ b)),?_⟩
  rw [es]
  show ob (yeZ (yl 3) (ymv n) [PV.lst (yQ a),PV.lst (yQ b)] _ h) _=_
  rw [yqU (c3':=c3) (ynz G ga da x0 _ acc h) (ynz G gb db x0 _ _ h)]
  simp_all? only [yjR]
  rw [er,show max (max (max acc (1+rdL a)) (1+rdL b)) 0=max acc (max 0 (max (1+rdL a) (1+rdL b))) by omega]
 have nil_:yiz t=[]->rdT t=0->∃ c3',ob (yeZ (yl 3) (ymv n) ((yiz t).map fun a=>PV.lst (yQ a)) [x0,.val (.int acc),.val (yef t),c3] h) (sqK (ybc (xCB yhS (yb (ye 1) (yb (xC (.int 0)) yk))) (yl 1)))=some (Out.nx [x0,.val (.int (max acc (rdT t))),.val (yef t),c3'],h):=by
  intro es er
  refine ⟨c3,?_⟩
  rw [es,er]
  show ob (yeZ (yl 3) (ymv n) [] _ h) _=_
  rw [yzE]
  simp_all? only [yjR]
 cases t with
 | base=>exact g.elim
 | let_ r m=>exact nil_ rfl rfl
 | reckon w r s t=>exact nil_ rfl rfl
 | take r s=>exact nil_ rfl rfl
 | put r s=>exact nil_ rfl rfl
 | throw r s=>exact nil_ rfl rfl
 | wait=>exact nil_ rfl rfl
 | if_ r a b =>
  have hd:1+max (ybz a) (ybz b)<=n:=hd
  exact two a b rfl g.2.1 g.2.2 (by omega) (by omega) rfl
 | either a b =>
  have hd:1+max (ybz a) (ybz b)<=n:=hd
  exact two a b rfl g.1 g.2 (by omega) (by omega) rfl
 | try_ a nm r b =>
  have hd:1+max (ybz a) (ybz b)<=n:=hd
  exact two a b rfl g.2.2.1 g.2.2.2 (by omega) (by omega) rfl
theorem yje {n:Nat}(G:yjQ n) (x0:PVar) (h:AH):∀ (us:List T) (acc:Int) (c2 c3:PVar),gdL us->ybz us<=n->-1<=acc->∃ c2' c3',yeZ (yl 2) (yoC n) (yQ us) [x0,.val (.int acc),c2,c3] h=some (.nx [x0,.val (.int (max acc (rdL us))),c2',c3'],h)
 | [],acc,c2,c3,_,_,ha=>⟨c2,c3,by
  show some (Out.nx [x0,.val (.int acc),c2,c3],h)=some (Out.nx [x0,.val (.int (max acc (-1))),c2,c3],h)
  rw [show max acc (-1)=acc by omega]⟩
 | t::r,acc,c2,c3,g,hd,ha=>by
  have hd:max (yhA t) (ybz r)<=n:=hd
  obtain ⟨d3,e⟩:=yoD G g.1 (by omega) x0 c3 acc h
  obtain ⟨d2,d3',e2⟩:=yje G x0 h r (max acc (rdT t)) (.val (yef t)) d3 g.2 (by omega) (by omega)
  refine ⟨d2,d3',?_⟩
  show yeZ (yl 2) (yoC n) (yef t::yQ r) _ h=some (Out.nx [x0,.val (.int (max acc (max (rdT t) (rdL r)))),d2,d3'],h)
  rw [yhR,show yl 2 (yef t) [x0,.val (.int acc),c2,c3]=some [x0,.val (.int acc),.val (yef t),c3] from rfl,bind_some,e,ydi]
  show yeZ (yl 2) (yoC n) (yQ r) _ h=_
  rw [e2,show max (max acc (rdT t)) (rdL r)=max acc (max (rdT t) (rdL r)) by omega]
theorem ynA:∀ n:Nat,yjQ n
 | 0=>fun ts h g hd=>by omega
 | n+1=>fun ts h g hd=>by
  unfold ycx
  rw [yN]
  show ob (yw _ (yw (ylF (xIL (ye 0)) (yl 2) (yoC n)) _) [.val (.lst (yQ ts)),.no,.no,.no] h) fnK=_
  symm
  rw [ytr rfl,ydi]
  obtain ⟨c2,c3,e⟩:=yje (ynA n) (.val (.lst (yQ ts))) h ts (-1) .no .no g (by omega) (by omega)
  rw [e]
  symm
  rw [show max (-1) (rdL ts)=rdL ts by cases ts with
   | nil=>rfl
   | cons t r =>
    have:=yiy t
    show max (-1) (max (rdT t) (rdL r))=max (rdT t) (rdL r)
    omega]
end
section
theorem ynB:∀ l:List Str,svs (l.map PV.str)=some (l.map V.str)
 | []=>rfl
 | a::l=>by
  show svs (PV.str a::l.map PV.str)=_
  unfold svs
  rw [ynB l];rfl
theorem yFu {w:Str}{l:List Str}{neg:Bool}{h:AH}:yqo neg (.str w) (.tup (l.map .str)) h=some (.bl (if neg then !(l.any fun a=>a == w) else l.any fun a=>a == w),h):=by
 unfold yqo
 show (match svs (l.map PV.str) with|some us=>some (PV.bl (if neg=true then !inV (.str w) us else inV (.str w) us),h)|none=>none)=_
 rw [ynB]
 show some (PV.bl (if neg=true then !inV (.str w) (l.map V.str) else inV (.str w) (l.map V.str)),h)=_
 have:inV (.str w) (l.map V.str)=l.any fun a=>a == w:=by
  unfold inV
  rw [List.any_map];rfl
 rw [this]
theorem yGk {w a b c:Str}{neg:Bool}{h:AH}:yqo neg (.str w) (.tup [.str a,.str b,.str c]) h=some (.bl (if neg then !(a == w || (b == w || (c == w || false))) else (a == w || (b == w || (c == w || false)))),h):=yFu (l:=[a,b,c])
theorem yGl {w a b:Str}{neg:Bool}{h:AH}:yqo neg (.str w) (.tup [.str a,.str b]) h=some (.bl (if neg then !(a == w || (b == w || false)) else (a == w || (b == w || false))),h):=yFu (l:=[a,b])
def ymw (n:Nat):Prop:=∀ (ts:List T) (h:AH),gdL ts->ybz ts+1<=n->ybP n [.lst (yQ ts)] h=some (.int (yt ts).sum,h)
def yjf (n:Nat):XS:=yw (ybc (xOp yfe (xOp yfe (ye 1) (xC (.int 1))) (xCB (yoV) (yb (xFz (yho (xIL (yP ycw (yb (ye 2) (yk)))) [] (yP (ybP n) (yb (ye 0) (yk))))) (yk)))) (yl 1)) (ybc (xOp yfe (xOp yfe (ye 1) (xCB (ykN) (yb (xOp (yqo false) (xOp (yei) (ye 2) (xC (.int 0))) (yiO (yb (xC (.str "if")) (yb (xC (.str "either")) (yb (xC (.str "try")) (yk)))))) (yk)))) (xCB (ykN) (yb (xOp (yqo false) (xOp (yei) (ye 2) (xC (.int 0))) (yiO (yb (xC (.str "either")) (yb (xC (.str "try")) (yk))))) (yk)))) (yl 1))
noncomputable def yuA:T->Str
 | .let_ ..=>"let" | .reckon w ..=>w|.take ..=>"take" | .put ..=>"put" | .if_ ..=>"if" | .either ..=>"either" | .try_ ..=>"try" | .throw ..=>"throw" | _=>"wait"
theorem yxa {t:T}(g:gdT t):∃ xs,yef t=.tup (.str (yuA t)::xs):=by
 cases t with
 | base=>exact g.elim
 | _=>exact ⟨_,rfl⟩
theorem nos {w:Str}(h:("if" == w || ("either" == w || ("try" == w || false)))=false):("if" == w || ("either" == w || ("try" == w || false)))=decide (([]:List (List T))≠[])/\("either" == w || ("try" == w || false))=decide (([]:List (List T))≠[]/\¬ w = "if"):=by
 rw [h,decide_eq_false (by simp),decide_eq_false (by simp)]
 exact ⟨rfl,(Bool.or_eq_false_iff.mp h).2⟩
theorem yAH {t:T}(g:gdT t):("if" == yuA t || ("either" == yuA t || ("try" == yuA t || false)))=decide (yiz t≠[])/\("either" == yuA t || ("try" == yuA t || false))=decide (yiz t≠[]/\¬ yuA t = "if"):=by
 cases t with
 | base=>exact g.elim
 | reckon w r s t =>
  refine nos (w:=w) ?_
  rcases g.1 with rfl|rfl|rfl|rfl|rfl
  all_goals rfl'
 | if_ r a b =>
  show (("if":Str) == "if" || (("either":Str) == "if" || (("try":Str) == "if" || false)))=decide ([a,b]≠[])/\(("either":Str) == "if" || (("try":Str) == "if" || false))=decide ([a,b]≠[]/\¬ ("if":Str) = "if")
  refine ⟨by rw [decide_eq_true (by simp)];rfl',by rw [decide_eq_false (by simp)];rfl'⟩
 | either a b =>
  show (("if":Str) == "either" || (("either":Str) == "either" || (("try":Str) == "either" || false)))=decide ([a,b]≠[])/\(("either":Str) == "either" || (("try":Str) == "either" || false))=decide ([a,b]≠[]/\¬ ("either":Str) = "if")
  refine ⟨by rw [decide_eq_true (by simp)];rfl',by rw [decide_eq_true (by simp only [yeJ];simp)];rfl'⟩
 | try_ a nm r b =>
  show (("if":Str) == "try" || (("either":Str) == "try" || (("try":Str) == "try" || false)))=decide ([a,b]≠[])/\(("either":Str) == "try" || (("try":Str) == "try" || false))=decide ([a,b]≠[]/\¬ ("try":Str) = "if")
  refine ⟨by rw [decide_eq_true (by simp)];rfl',by rw [decide_eq_true (by simp only [yhB];simp)];rfl'⟩
 | let_ r n=>exact nos (w:="let") (by rfl')
 | take r n=>exact nos (w:="take") (by rfl')
 | put r n=>exact nos (w:="put") (by rfl')
 | throw r n=>exact nos (w:="throw") (by rfl')
 | wait=>exact nos (w:="wait") (by rfl')
theorem ytw {t:T}(g:gdT t):ycM t=1+((yiz t).map fun a=>(yt a).sum).sum+(if yiz t≠[] then 1 else 0)+(if yiz t≠[]/\¬ yuA t = "if" then 1 else 0):=by
 cases t with
 | base=>exact g.elim
 | if_ r a b =>
  show 2+(yt a).sum+(yt b).sum=1+([(yt a).sum,(yt b).sum]).sum+(if [a,b]≠[] then 1 else 0)+(if [a,b]≠[]/\¬ ("if":Str) = "if" then 1 else 0)
  rw [if_pos (by simp),if_neg (by simp)]
  simp only [List.sum_cons,List.sum_nil];omega
 | either a b =>
  show 3+(yt a).sum+(yt b).sum=1+([(yt a).sum,(yt b).sum]).sum+(if [a,b]≠[] then 1 else 0)+(if [a,b]≠[]/\¬ ("either":Str) = "if" then 1 else 0)
  rw [if_pos (by simp),if_pos (by simp only [yeJ];simp)]
  simp only [List.sum_cons,List.sum_nil];omega
 | try_ a nm r b =>
  show 3+(yt a).sum+(yt b).sum=1+([(yt a).sum,(yt b).sum]).sum+(if [a,b]≠[] then 1 else 0)+(if [a,b]≠[]/\¬ ("try":Str) = "if" then 1 else 0)
  rw [if_pos (by simp),if_pos (by simp only [yhB];simp)]
  simp only [List.sum_cons,List.sum_nil];omega
 | _=>rfl
theorem yAI {t:T}(g:gdT t) {n:Nat}(hd:yhA t<=n):∀ a∈yiz t,gdL a/\ybz a+1<=n:=by
 intro a ha
 cases t with
 | base=>exact g.elim
 | if_ r x y =>
  have hd:1+max (ybz x) (ybz y)<=n:=hd
  simp only [yiz,mem_cons,not_mem_nil,or_false] at ha
  rcases ha with rfl|rfl
  .exact ⟨g.2.1,by omega⟩
  .exact ⟨g.2.2,by omega⟩
 | either x y =>
  have hd:1+max (ybz x) (ybz y)<=n:=hd
  simp only [yiz,mem_cons,not_mem_nil,or_false] at ha
  rcases ha with rfl|rfl
  .exact ⟨g.1,by omega⟩
  .exact ⟨g.2,by omega⟩
 | try_ x nm r y =>
  have hd:1+max (ybz x) (ybz y)<=n:=hd
  simp only [yiz,mem_cons,not_mem_nil,or_false] at ha
  rcases ha with rfl|rfl
  .exact ⟨g.2.2.1,by omega⟩
  .exact ⟨g.2.2.2,by omega⟩
 | _=>cases ha
theorem yxb (t:T):(yiz t).length<=2:=by cases t<;>exact Nat.le_of_ble_eq_true rfl
theorem yoE {n:Nat}(G:ymw n) {t:T}(g:gdT t) (hd:yhA t<=n) (x0:PVar) (acc:Int) (h:AH):yjf n [x0,.val (.int acc),.val (yef t)] h=some (.nx [x0,.val (.int (acc+ycM t)),.val (yef t)],h):=by
 have hs:=yxb t
 have ho:=yAI g hd
 obtain ⟨xs,et⟩:=yxa g
 obtain ⟨f1,f2⟩:=yAH g
 unfold yjf
 symm
 rw [yBP (xs:=(yiz t).map fun a=>PV.lst (yQ a)) (h1:=h) (by symm;rw [yny g]),ydi]
 rw [if_pos (by rw [length_map];omega),yhT (f:=fun a=>PV.lst (yQ a)) (g:=fun a=>PV.int (yt a).sum) fun a ha=>by
  show yP (ybP n) (yb (ye 0) yk) [.val (.lst (yQ a))] h=_
  symm
  rw [G a h (ho a ha).1 (ho a ha).2]]
 symm
 rw [show yoV [.lst ((yiz t).map fun a=>PV.int (yt a).sum)] h=some (.int ((yiz t).map fun a=>(yt a).sum).sum,h) by
  rw [show ((yiz t).map fun a=>PV.int (yt a).sum)=((yiz t).map fun a=>(yt a).sum).map PV.int by rw [map_map];rfl]
  unfold yoV ycd
  simp only [yfC]]
 rw [et]
 simp_all? only [ysV,yGk,yGl]
 rw [f1,f2]
 simp only [decide_eq_true_eq]
 rw [ytw g]
 simp only [Int.add_assoc]
theorem yjg {n:Nat}(G:ymw n) (x0:PVar) (h:AH):∀ (us:List T) (acc:Int) (c2:PVar),gdL us->ybz us<=n->∃ c2',yeZ (yl 2) (yjf n) (yQ us) [x0,.val (.int acc),c2] h=some (.nx [x0,.val (.int (acc+(yt us).sum)),c2'],h)
 | [],acc,c2,_,_=>⟨c2,by
  show some (Out.nx [x0,.val (.int acc),c2],h)=some (Out.nx [x0,.val (.int (acc+0)),c2],h)
  rw [Int.add_zero]⟩
 | t::r,acc,c2,g,hd=>by
  have hd:max (yhA t) (ybz r)<=n:=hd
  have e:=yoE G g.1 (by omega) x0 acc h
  obtain ⟨d2,e2⟩:=yjg G x0 h r (acc+ycM t) (.val (yef t)) g.2 (by omega)
  refine ⟨d2,?_⟩
  show yeZ (yl 2) (yjf n) (yef t::yQ r) _ h=some (Out.nx [x0,.val (.int (acc+(ycM t::yt r).sum)),d2],h)
  rw [yhR,show yl 2 (yef t) [x0,.val (.int acc),c2]=some [x0,.val (.int acc),.val (yef t)] from rfl,bind_some,e,ydi]
  show yeZ (yl 2) (yjf n) (yQ r) _ h=_
  rw [e2,List.sum_cons,Int.add_assoc]
theorem yjS:∀ n:Nat,ymw n
 | 0=>fun ts h g hd=>by omega
 | n+1=>fun ts h g hd=>by
  unfold ybP
  rw [yN]
  show ob (yw _ (yw (ylF (xIL (ye 0)) (yl 2) (yjf n)) _) [.val (.lst (yQ ts)),.no,.no] h) fnK=_
  symm
  rw [ytr rfl,ydi]
  obtain ⟨c2,e⟩:=yjg (yjS n) (.val (.lst (yQ ts))) h ts 0 .no g (by omega)
  rw [e]
  symm
  rw [zero_add]
end
section
variable {h:AH}
theorem yxc {xs:List PV}:yzO (.lst xs) (.lst []) h=some (.bl (decide (xs=[])),h):=by
 cases xs with
 | nil=>rfl
 | cons x xs=>rfl
theorem yuB {a b:Str}(hl:a.length+b.length<=100000):ybJ (.str a) (.str b) h=some (.str (a++b),h):=by rw [ydJ,if_pos hl]
theorem yGm:("if ":Str) = "if"++" ":=by rfl'
theorem yAJ:(" else ":Str) = " "++"else"++" ":=by rfl'
theorem ytx:("either ":Str) = "either"++" ":=by rfl'
theorem yGn:(" or ":Str) = " "++"or"++" ":=by rfl'
theorem yDT:("( ":Str) = "("++" ":=by rfl'
theorem yDU:(" )":Str) = " "++")":=by rfl'
theorem yDV:("( ":Str).length=2:=by rfl'
noncomputable def yij (n:Nat):Prop:=∀ (ts:List T) (h:AH),gdL ts->wL ts<=50000->2*ybz ts+1<=n->ydM n [.lst (yQ ts)] h=some (.str (ycR ts),h)
theorem yoF {n:Nat}(G:yij n) {ts:List T}(g:gdL ts) (hw:wL ts<=50000) (hd:2*ybz ts+1<=n):ybC (n+1) [.lst (yQ ts)] h=some (.str (ybD (ycR ts)),h):=by
 have hl:(ycR ts).length<=wL ts:=ybr ts
 unfold ybC
 rw [yN]
 show ob (yw _ _ [.val (.lst (yQ ts))] h) fnK=_
 simp_all? only [yxc]
 cases ts with
 | nil =>
  rw [if_pos (show yQ []=[] from rfl),show ybD (ycR []) = "( )" by rfl']
 | cons t r =>
  rw [if_neg (by intro z;cases z),G _ h g hw hd]
  have ne:ycR (t::r)≠"":=by
   rw [show ycR (t::r)=Str.join " " (wdL (t::r)) from ycj _ g]
   exact yig (yfo g) fun z=>yqQ g.1 (List.append_eq_nil_iff.mp z).1
  simp_all? only []
  rw [if_pos (by omega),if_pos (by rw [ycl,yDV];omega)]
  unfold ybD
  rw [if_neg ne,yDT,yDU]
  show some (PV.str ("("++" "++ycR (t::r)++(" "++")")),h)=some (PV.str ("("++" "++(ycR (t::r)++" "++")")),h)
  simp only [yci]
def ygN (n:Nat):XS:=yck (yH (xOp (oEq) (xOp (yei) (ye 2) (xC (.int 0))) (xC (.str "if")))) (yfF 1 (xOp ybJ (xOp ybJ (xOp ybJ (xOp ybJ (xOp ybJ (xC (.str "if ")) (xOp (yei) (ye 2) (xC (.int 1)))) (xC (.str " "))) (yP (ybC n) (yb (xOp (yei) (ye 2) (xC (.int 2))) (yk)))) (xC (.str " else "))) (yP (ybC n) (yb (xOp (yei) (ye 2) (xC (.int 3))) (yk))))) (yck (yH (xOp (oEq) (xOp (yei) (ye 2) (xC (.int 0))) (xC (.str "either")))) (yfF 1 (xOp ybJ (xOp ybJ (xOp ybJ (xC (.str "either ")) (yP (ybC n) (yb (xOp (yei) (ye 2) (xC (.int 1))) (yk)))) (xC (.str " or "))) (yP (ybC n) (yb (xOp (yei) (ye 2) (xC (.int 2))) (yk))))) (yck (yH (xOp (oEq) (xOp (yei) (ye 2) (xC (.int 0))) (xC (.str "try")))) (yw (ybc (xFz (ydR (yb (xC (.str "try")) (yb (yP (ybC n) (yb (xOp (yei) (ye 2) (xC (.int 1))) (yk))) (yb (xC (.str "on")) (yb (xOp (yei) (ye 2) (xC (.int 2))) (yb (xOp (yei) (ye 2) (xC (.int 3))) (yb (yP (ybC n) (yb (xOp (yei) (ye 2) (xC (.int 4))) (yk))) (yk))))))))) (yl 3)) (yfF 1 (xBM isStr (yeC) (xC (.str " ")) (yb (ye 3) (yk))))) (yfF 1 (xBM isStr (yeC) (xC (.str " ")) (yb (xFz (yho (xIT (ye 2)) [] (xCB (ymo) (yb (ye 0) (yk))))) (yk))))))
theorem yuC {n:Int}(h0:0<=n) (h1:n<B64):n.natAbs.log2<1920:=by
 by_cases hz:n.natAbs=0
 .rw [hz];decide
 .rw [Nat.log2_lt hz]
  have e1:n.natAbs<2 ^ 64:=by
   have:(2:Nat) ^ 64=18446744073709551616:=by decide
   rw [this]
   unfold B64 at h1
   omega
  exact lt_of_lt_of_le e1 (Nat.pow_le_pow_right (by decide) (by decide))
abbrev sE_:XE:=xCB ymo (yb (ye 0) yk)
theorem yoG {z:Str}{xs:List PV}{ρ:PSt}:yki sE_ (yiw [] ρ) (.str z::xs) h=ob (yki sE_ (yiw [] ρ) xs h) fun ys h2=>some (.str z::ys,h2):=rfl
theorem yDW {m:Int}{xs:List PV}{ρ:PSt}(hz:m.natAbs.log2<1920):yki sE_ (yiw [] ρ) (.int m::xs) h=ob (yki sE_ (yiw [] ρ) xs h) fun ys h2=>some (.str (toString m:String)::ys,h2):=by
 show ob (sE_ [.val (.int m)] h) (fun y h1=>ob (yki sE_ (yiw [] ρ) xs h1) fun ys h2=>some (y::ys,h2))=_
 rw [show sE_ [.val (.int m)] h=some (.str (toString m:String),h) by
  show ymo [.int m] h=_
  rw [ywo,if_pos hz]]
 rfl
theorem yoH {ρ:PSt}:yki sE_ (yiw [] ρ) [] h=some ([],h):=rfl
theorem yoI {xs:List PV}{x0 x1 x3:PVar}:xIT (ye 2) [x0,x1,.val (.tup xs),x3] h=some (xs,h):=rfl
theorem ydH {n:Nat}{t:T}(g:gdT t) (hp:plain t) (x0 c3:PVar) (acc:List PV) (ha:acc.length<90000):ygN n [x0,.own (.lst acc),.val (yef t),c3] h=some (.nx [x0,.own (.lst (acc++[.str (yca t)])),.val (yef t),c3],h):=by
 have hf:=ywW g
 have hb:(∀ l:List Str,frs l->l.length<=10->(l.map (·.length)).sum+l.length<=1048576):=by
  have:∀ l:List Str,frs l->(l.map (·.length)).sum<=20*l.length:=by
   intro l
   induction l with
   | nil=>intro _;exact Nat.le_refl _
   | cons a l ih =>
    intro h
    have h1:=(h a mem_cons_self).2.2
    have h2:=ih fun x hx=>h x (mem_cons_of_mem _ hx)
    simp only [map_cons,List.sum_cons,length_cons]
    omega
  intro l h1 h2
  have:=this l h1
  omega
 rw [ynu t g]
 unfold ygN
 cases t with
 | base=>exact g.elim
 | if_ r a b=>exact hp.elim
 | either a b=>exact hp.elim
 | try_ a nm r b=>exact hp.elim
 | let_ r m =>
  show yck _ _ _ [x0,.own (.lst acc),.val (.tup [PV.str "let",.str r,.int m]),c3] h=_
  right
  rw [yff rfl]
  symm
  rw [yoI,ydi,if_pos (show [PV.str "let",.str r,.int m].length<=100000 from Nat.le_of_ble_eq_true rfl)]
  simp only [yoG,yoH,yDW (yuC g.2.1 g.2.2),ydi]
  rw [yfO (ts:=wdT (.let_ r m)) rfl j1 (hb _ hf (Nat.le_of_ble_eq_true rfl))]
  symm
  rw [if_pos (by omega)]
  rfl
 | take r s =>
  show yck _ _ _ [x0,.own (.lst acc),.val (.tup [PV.str "take",.str r,.str s]),c3] h=_
  right
  rw [yff rfl]
  symm
  rw [yoI,ydi,if_pos (show [PV.str "take",.str r,.str s].length<=100000 from Nat.le_of_ble_eq_true rfl)]
  simp only [yoG,yoH,ydi]
  rw [yfO (ts:=wdT (.take r s)) rfl j1 (hb _ hf (Nat.le_of_ble_eq_true rfl))]
  symm
  rw [if_pos (by omega)]
  rfl
 | put r s =>
  show yck _ _ _ [x0,.own (.lst acc),.val (.tup [PV.str "put",.str r,.str s]),c3] h=_
  right
  rw [yff rfl]
  symm
  rw [yoI,ydi,if_pos (show [PV.str "put",.str r,.str s].length<=100000 from Nat.le_of_ble_eq_true rfl)]
  simp only [yoG,yoH,ydi]
  rw [yfO (ts:=wdT (.put r s)) rfl j1 (hb _ hf (Nat.le_of_ble_eq_true rfl))]
  symm
  rw [if_pos (by omega)]
  rfl
 | throw r s =>
  show yck _ _ _ [x0,.own (.lst acc),.val (.tup [PV.str "throw",.str r,.str s]),c3] h=_
  right
  rw [yff rfl]
  symm
  rw [yoI,ydi,if_pos (show [PV.str "throw",.str r,.str s].length<=100000 from Nat.le_of_ble_eq_true rfl)]
  simp only [yoG,yoH,ydi]
  rw [yfO (ts:=wdT (.throw r s)) rfl j1 (hb _ hf (Nat.le_of_ble_eq_true rfl))]
  symm
  rw [if_pos (by omega)]
  rfl
 | wait =>
  show yck _ _ _ [x0,.own (.lst acc),.val (.tup [PV.str "wait"]),c3] h=_
  right
  rw [yff rfl]
  symm
  rw [yoI,ydi,if_pos (show [PV.str "wait"].length<=100000 from Nat.le_of_ble_eq_true rfl)]
  simp only [yoG,yoH,ydi]
  rw [yfO (ts:=wdT (.wait)) rfl j1 (hb _ hf (Nat.le_of_ble_eq_true rfl))]
  symm
  rw [if_pos (by omega)]
  rfl
 | reckon w r s u =>
  show yck _ _ _ [x0,.own (.lst acc),.val (.tup [PV.str w,.str r,.str s,.str u]),c3] h=_
  obtain ⟨n1,n2,n3,n4,n5,n6,n7,n8⟩:=yqT g.1
  simp_all? only [ysV,n6,n7,n8,↓reduceIte]
  rw [yff rfl]
  symm
  rw [yoI,ydi,if_pos (show [PV.str w,.str r,.str s,.str u].length<=100000 from Nat.le_of_ble_eq_true rfl)]
  simp only [yoG,yoH,ydi]
  rw [yfO (ts:=wdT (.reckon w r s u)) rfl j1 (hb _ hf (Nat.le_of_ble_eq_true rfl))]
  symm
  rw [if_pos (by omega)]
  rfl
theorem yxd {n:Nat}(G:yij n) {r:Str}{a b:List T}(g:gdT (.if_ r a b)) (hw:wT (.if_ r a b)<=50000) (hd:2*max (ybz a) (ybz b)+1<=n) (x0 c3:PVar) (acc:List PV) (ha:acc.length<90000):ygN (n+1) [x0,.own (.lst acc),.val (yef (.if_ r a b)),c3] h=some (.nx [x0,.own (.lst (acc++[.str (yca (.if_ r a b))])),.val (yef (.if_ r a b)),c3],h):=by
 have hw:40+r.length+wL a+wL b<=50000:=hw
 have b1:=ycI (ycR a)
 have b2:=ycI (ycR b)
 have c1:(ycR a).length<=wL a:=ybr a
 have c2:(ycR b).length<=wL b:=ybr b
 unfold ygN
 show yck _ _ _ [x0,.own (.lst acc),.val (.tup [.str "if",.str r,.lst (yQ a),.lst (yQ b)]),c3] h=_
 right
 rw [yff rfl]
 simp_all? only [ysV,yxI,yxJ,yxK,yoF G g.2.1 (by omega:wL a<=50000) (by omega),yoF G g.2.2 (by omega:wL b<=50000) (by omega),yuB,ycl]
 rw [if_pos (by omega),if_pos (by omega),if_pos (by omega),if_pos (by omega),if_pos (by omega),if_pos (by omega)]
 have e:"if "++r++" "++ybD (ycR a)++" else "++ybD (ycR b)=yca (.if_ r a b):=by
  show _ = "if"++" "++(r++" "++(ybD (ycR a)++" "++("else"++" "++ybD (ycR b))))
  rw [yGm,yAJ]
  simp only [yci]
 rw [e];rfl
theorem ymx {n:Nat}(G:yij n) {a b:List T}(g:gdT (.either a b)) (hw:wT (.either a b)<=50000) (hd:2*max (ybz a) (ybz b)+1<=n) (x0 c3:PVar) (acc:List PV) (ha:acc.length<90000):ygN (n+1) [x0,.own (.lst acc),.val (yef (.either a b)),c3] h=some (.nx [x0,.own (.lst (acc++[.str (yca (.either a b))])),.val (yef (.either a b)),c3],h):=by
 have hw:40+wL a+wL b<=50000:=hw
 have b1:=ycI (ycR a)
 have b2:=ycI (ycR b)
 have c1:(ycR a).length<=wL a:=ybr a
 have c2:(ycR b).length<=wL b:=ybr b
 unfold ygN
 show yck _ _ _ [x0,.own (.lst acc),.val (.tup [.str "either",.lst (yQ a),.lst (yQ b)]),c3] h=_
 right
 rw [yff rfl]
 simp_all? only [ysV,yxI,yxJ,yxK,yoF G g.1 (by omega:wL a<=50000) (by omega),yoF G g.2 (by omega:wL b<=50000) (by omega),yuB,ycl]
 rw [if_pos (by omega),if_pos (by omega),if_pos (by omega),if_pos (by omega)]
 have e:"either "++ybD (ycR a)++" or "++ybD (ycR b)=yca (.either a b):=by
  show _ = "either"++" "++(ybD (ycR a)++" "++("or"++" "++ybD (ycR b)))
  rw [ytx,yGn]
  simp only [yci]
 rw [e];rfl
theorem yty {n:Nat}(G:yij n) {nm r:Str}{a b:List T}(g:gdT (.try_ a nm r b)) (hw:wT (.try_ a nm r b)<=50000) (hd:2*max (ybz a) (ybz b)+1<=n) (x0 c3:PVar) (acc:List PV) (ha:acc.length<90000):∃ c3',ygN (n+1) [x0,.own (.lst acc),.val (yef (.try_ a nm r b)),c3] h=some (.nx [x0,.own (.lst (acc++[.str (yca (.try_ a nm r b))])),.val (yef (.try_ a nm r b)),c3'],h):=by
 have hw:40+nm.length+r.length+wL a+wL b<=50000:=hw
 have b1:=ycI (ycR a)
 have b2:=ycI (ycR b)
 have c1:(ycR a).length<=wL a:=ybr a
 have c2:(ycR b).length<=wL b:=ybr b
 refine ⟨.val (.lst [.str "try",.str (ybD (ycR a)),.str "on",.str nm,.str r,.str (ybD (ycR b))]),?_⟩
 unfold ygN
 show yck _ _ _ [x0,.own (.lst acc),.val (.tup [.str "try",.lst (yQ a),.str nm,.str r,.lst (yQ b)]),c3] h=_
 right
 simp_all? only [ysV,yxI,yxJ,yxK,yBQ,yoF G g.2.2.1 (by omega:wL a<=50000) (by omega),yoF G g.2.2.2 (by omega:wL b<=50000) (by omega)]
 rw [yff rfl]
 symm
 rw [yfO (ts:=["try",ybD (ycR a),"on",nm,r,ybD (ycR b)]) rfl j1 (by simp only [map_cons,map_nil,List.sum_cons,List.sum_nil,length_cons,length_nil,yAq,yAr];omega)]
 symm
 rw [if_pos (by omega)]
 rfl
theorem yqV {n:Nat}(G:∀ m,m<n->yij m) {t:T}(g:gdT t) (hw:wT t<=50000) (hd:2*yhA t<=n) (x0 c3:PVar) (acc:List PV) (ha:acc.length<90000):∃ c3',ygN n [x0,.own (.lst acc),.val (yef t),c3] h=some (.nx [x0,.own (.lst (acc++[.str (yca t)])),.val (yef t),c3'],h):=by
 cases t with
 | if_ r a b =>
  have h1:2*(1+max (ybz a) (ybz b))<=n:=hd
  obtain ⟨m,rfl⟩:∃ m,n=m+1:=⟨n-1,by omega⟩
  exact ⟨_,yxd (G m (by omega)) g hw (by omega) x0 c3 acc ha⟩
 | either a b =>
  have h1:2*(1+max (ybz a) (ybz b))<=n:=hd
  obtain ⟨m,rfl⟩:∃ m,n=m+1:=⟨n-1,by omega⟩
  exact ⟨_,ymx (G m (by omega)) g hw (by omega) x0 c3 acc ha⟩
 | try_ a nm r b =>
  have h1:2*(1+max (ybz a) (ybz b))<=n:=hd
  obtain ⟨m,rfl⟩:∃ m,n=m+1:=⟨n-1,by omega⟩
  exact yty (G m (by omega)) g hw (by omega) x0 c3 acc ha
 | base=>exact g.elim
 | let_ r m=>exact ⟨_,ydH g trivial x0 c3 acc ha⟩
 | reckon w r s u=>exact ⟨_,ydH g trivial x0 c3 acc ha⟩
 | take r s=>exact ⟨_,ydH g trivial x0 c3 acc ha⟩
 | put r s=>exact ⟨_,ydH g trivial x0 c3 acc ha⟩
 | throw r s=>exact ⟨_,ydH g trivial x0 c3 acc ha⟩
 | wait=>exact ⟨_,ydH g trivial x0 c3 acc ha⟩
theorem ylp {n:Nat}(G:∀ m,m<n->yij m) (x0:PVar):∀ (us:List T) (acc:List PV) (c2 c3:PVar),gdL us->wL us<=50000->2*ybz us<=n->acc.length+us.length<=90000->∃ c2' c3',yeZ (yl 2) (ygN n) (yQ us) [x0,.own (.lst acc),c2,c3] h=some (.nx [x0,.own (.lst (acc++(yG us).map .str)),c2',c3'],h)
 | [],acc,c2,c3,_,_,_,_=>⟨c2,c3,by
  show some (Out.nx [x0,.own (.lst acc),c2,c3],h)=some (Out.nx [x0,.own (.lst (acc++[])),c2,c3],h)
  rw [append_nil]⟩
 | t::r,acc,c2,c3,g,hw,hd,hl=>by
  have hd:2*max (yhA t) (ybz r)<=n:=hd
  have hw:5+wT t+wL r<=50000:=hw
  have hl:acc.length+(r.length+1)<=90000:=hl
  obtain ⟨d3,e⟩:=yqV (h:=h) G g.1 (by omega) (by omega) x0 c3 acc (by omega)
  obtain ⟨d2,d3',e2⟩:=ylp G x0 r (acc++[.str (yca t)]) (.val (yef t)) d3 g.2 (by omega) (by omega) (by rw [length_append,List.length_singleton];omega)
  refine ⟨d2,d3',?_⟩
  show yeZ (yl 2) (ygN n) (yef t::yQ r) _ h=some (Out.nx [x0,.own (.lst (acc++(.str (yca t)::(yG r).map .str))),d2,d3'],h)
  rw [yhR,show yl 2 (yef t) [x0,.own (.lst acc),c2,c3]=some [x0,.own (.lst acc),.val (yef t),c3] from rfl,bind_some,e,ydi]
  show yeZ (yl 2) (ygN n) (yQ r) _ h=_
  rw [e2,append_assoc];rfl
theorem yxe:∀ n:Nat,yij n:=by
 intro n
 induction n using Nat.strongRecOn with
 | ind n ih =>
  intro ts h g hw hd
  obtain ⟨m,rfl⟩:∃ m,n=m+1:=⟨n-1,by omega⟩
  have hc:=w_count ts
  have sl:=ygL ts
  unfold ydM
  rw [yN]
  show ob (yw _ (yw (ylF (xIL (ye 0)) (yl 2) (ygN m)) _) [.val (.lst (yQ ts)),.no,.no,.no] h) fnK=_
  symm
  rw [ytr rfl,ydi]
  obtain ⟨c2,c3,e⟩:=ylp (h:=h) (n:=m) (fun k hk=>ih k (by omega)) (.val (.lst (yQ ts))) ts [] .no .no g hw (by omega) (by show 0+ts.length<=90000;omega)
  rw [e]
  symm
  rw [List.nil_append,yfO (yoA ts) (by rw [l3];decide) (by omega)]
  symm
  rfl
end
section
variable {h:AH}
theorem ydO (n:Int):ydn (ygm n):=by
 unfold ygm yla
 have hm:=ydm n (show (0:Int)<8 by decide)
 rw [show slotsV.cps.toList=[97,98,99,100,101,102,103,104] by rfl']
 generalize n%8=k at *
 have:k=0\/k=1\/k=2\/k=3\/k=4\/k=5\/k=6\/k=7:=by omega
 rcases this with rfl|rfl|rfl|rfl|rfl|rfl|rfl|rfl
 all_goals exact ⟨_,by decide,by decide,rfl⟩
theorem yxf (k:Int):∀ c∈(yla lettersV (k%26)).cps.toList,97<=c/\c<=122:=by
 intro c hc
 have hm:=ydm k (show (0:Int)<26 by decide)
 unfold yla at hc
 have e:lettersV.cps.toList=(List.range 26).map (· + 97):=by rfl'
 rw [e] at hc
 have hj:(k%26).toNat<26:=by omega
 have:c=(k%26).toNat+97:=by
  simp [hj] at hc
  exact hc
 omega
theorem yxg (a b:Str):(a++b).cps.toList=a.cps.toList++b.cps.toList:=by
 show (a.cps++b.cps).toList=_
 simp
theorem yAK (c at':Int):∀ k:Nat,∀ x∈(yeT c at' k).cps.toList,97<=x/\x<=122
 | 0,x,hx=>by
  rw [show (yeT c at' 0).cps.toList=[] from by show ("":Str).cps.toList=[];rfl'] at hx
  cases hx
 | k+1,x,hx=>by
  rw [show yeT c at' (k+1)=yeT c at' k++nameStep c at' k from rfl,yxg] at hx
  rcases List.mem_append.mp hx with hx|hx
  .exact yAK c at' k x hx
  .exact yxf _ x hx
theorem yqW (c:Int):yiZ (yoy c):=by
 unfold yoy
 split
 .have hm:=ydm (c/4) (show (0:Int)<8 by decide)
  generalize c/4%8=k at *
  have:k=0\/k=1\/k=2\/k=3\/k=4\/k=5\/k=6\/k=7:=by omega
  rcases this with rfl|rfl|rfl|rfl|rfl|rfl|rfl|rfl
  all_goals exact ⟨by rfl',by rfl',by rfl'⟩
 .have hm:=ydm (c/4) (show (0:Int)<8 by decide)
  refine ⟨by rw [yle];omega,by rw [yle];omega,yAK _ _ _⟩
theorem yxh (m:Int):ylh (yqH m):=by
 unfold yqH
 have hm:=ydm (m/512) (show (0:Int)<5 by decide)
 generalize m/512%5=k at *
 have:k=0\/k=1\/k=2\/k=3\/k=4:=by omega
 rcases this with rfl|rfl|rfl|rfl|rfl
 .exact .inl rfl
 .exact .inr (.inl rfl)
 .exact .inr (.inr (.inl rfl))
 .exact .inr (.inr (.inr (.inl rfl)))
 .exact .inr (.inr (.inr (.inr rfl)))
theorem ytz (w c:Int):gdT (ylb w c):=by
 unfold ylb
 repeat' split
 .exact ⟨ydO _,yAu c⟩
 .exact ⟨yxh _,ydO _,ydO _,ydO _⟩
 .exact ⟨ydO _,ydO _⟩
 .exact ⟨ydO _,ydO _⟩
 .exact ⟨yqW _,ydO _⟩
 .trivial
noncomputable def yoJ (c:Int):Int:=if c%10<2 then 0 else if c%10<4 then 1 else if c%10<6 then 2 else if c%10<8 then 3 else if c%10=8 then 4 else 5
theorem ytA (c:Int):ydV [.int c] h=some (yef (ylb (yoJ c) (c/10)),h):=by
 unfold ydV
 rw [yN]
 show ob (yw _ _ [.val (.int c),.no,.no,.no,.no] h) fnK=_
 obtain ⟨w,hw,ew,_⟩:=yAt (yoY (c/10))
 unfold yoY at hw
 simp_all? only [yqL,yqM,yqN,hw,bind_some]
 rw [ew]
 by_cases q0:c%10<2
 .rw [if_pos q0,show yoJ c=0 by unfold yoJ;rw [if_pos q0]];rfl
 .rw [if_neg q0]
  by_cases q1:c%10<4
  .rw [if_pos q1,show yoJ c=1 by unfold yoJ;rw [if_neg q0,if_pos q1]];rfl
  .rw [if_neg q1]
   by_cases q2:c%10<6
   .rw [if_pos q2,show yoJ c=2 by unfold yoJ;rw [if_neg q0,if_neg q1,if_pos q2]];rfl
   .rw [if_neg q2]
    by_cases q3:c%10<8
    .rw [if_pos q3,show yoJ c=3 by unfold yoJ;rw [if_neg q0,if_neg q1,if_neg q2,if_pos q3]];rfl
    .rw [if_neg q3]
     by_cases q4:c%10=8
     .rw [if_pos q4,show yoJ c=4 by unfold yoJ;rw [if_neg q0,if_neg q1,if_neg q2,if_neg q3,if_pos q4]];rfl
     .rw [if_neg q4,show yoJ c=5 by unfold yoJ;rw [if_neg q0,if_neg q1,if_neg q2,if_neg q3,if_neg q4]];rfl
theorem ytB (c:Int) {a b:List T}(ga:gdL a) (gb:gdL b):∃ t,ydW [.int c,.lst (yQ a),.lst (yQ b)] h=some (yef t,h)/\gdT t/\yhA t=1+max (ybz a) (ybz b):=by
 have key:∀ (x y:List T),gdL x->gdL y->max (ybz x) (ybz y)=max (ybz a) (ybz b)->∃ t,(if c*69621%2147483629/2%3=0 then some (yef (.if_ (ygm (c*69621%2147483629/6)) x y),h) else if c*69621%2147483629/2%3=1 then some (yef (.either x y),h) else some (yef (.try_ x (yoy c) (ygm (c*69621%2147483629/6)) y),h))=some (yef t,h)/\gdT t/\yhA t=1+max (ybz a) (ybz b):=by
  intro x y gx gy e
  split
  .exact ⟨_,rfl,⟨ydO _,gx,gy⟩,by rw [<- e];rfl⟩
  .split
   .exact ⟨_,rfl,⟨gx,gy⟩,by rw [<- e];rfl⟩
   .exact ⟨_,rfl,⟨yqW _,ydO _,gx,gy⟩,by rw [<- e];rfl⟩
 unfold ydW
 rw [yN]
 show ∃ t,ob (yw _ _ [.val (.int c),.val (.lst (yQ a)),.val (.lst (yQ b)),.no,.no] h) fnK=_/\_
 simp_all? only [yqL,yqN]
 split
 .exact key b a gb ga (Nat.max_comm _ _)
 .exact key a b ga gb rfl
end
section
variable {h:AH}
theorem gdL_iff:∀ {ts:List T},gdL ts ↔ ∀ t∈ts,gdT t
 | []=>⟨(fun _ t h=>by cases h),fun _=>trivial⟩
 | t::r=>⟨fun g u hu=>(mem_cons.mp hu).elim (fun e=>e ▸ g.1) (gdL_iff.mp g.2 u),fun g=>⟨g t mem_cons_self,gdL_iff.mpr fun u hu=>g u (mem_cons_of_mem _ hu)⟩⟩
theorem ymy:∀ {ts:List T}{n:Nat},(∀ t∈ts,yhA t<=n)->ybz ts<=n
 | [],n,_=>zero_le _
 | t::r,n,g=>by
  have h1:=g t mem_cons_self
  have h2:=ymy (ts:=r) fun u hu=>g u (mem_cons_of_mem _ hu)
  show max (yhA t) (ybz r)<=n
  omega
theorem yqX {ts us:List T}(g:gdL ts) (h:∀ t∈us,t∈ts):gdL us/\ybz us<=ybz ts:=⟨gdL_iff.mpr fun t ht=>gdL_iff.mp g t (h t ht),ymy fun t ht=>yie (h t ht)⟩
theorem ynC {ts us:List T}(g:OkL ts) (gu:gdL us) (hd:ybz us<=11):∃ ts',OkL ts'/\(ob (ycx 15 [.lst (yQ us)] h) fun x h1=>ob (oGt x (.int 8) h1) fun y h2=>ob (oB y h2) fun z h3=>if z=true then some (PV.lst (yQ ts),h3) else ob (ybP 15 [.lst (yQ us)] h3) fun x h4=>ob (oGt x (.int 79) h4) fun y h5=>ob (oB y h5) fun z h6=>if z=true then some (PV.lst (yQ ts),h6) else some (PV.lst (yQ us),h6))=some (.lst (yQ ts'),h):=by
 rw [ynA 15 us h gu (by omega)]
 simp_all? only []
 by_cases q:rdL us>8
 .rw [if_pos q]
  exact ⟨ts,g,rfl⟩
 .rw [if_neg q,yjS 15 us h gu (by omega)]
  simp_all? only []
  by_cases q2:(yt us).sum>79
  .rw [if_pos q2]
   exact ⟨ts,g,rfl⟩
  .rw [if_neg q2]
   exact ⟨us,⟨gu,by omega,by omega⟩,rfl⟩
theorem ymz (ts:List T) (lo hi:Option Int):∃ us,yol (yQ ts) lo hi=yQ us/\(∀ t∈us,t∈ts)/\us.length<=ts.length:=by
 unfold yol
 rw [yep,<- List.map_drop,<- List.map_take]
 refine ⟨_,(yep _).symm,fun t ht=>List.mem_of_mem_drop (List.mem_of_mem_take ht),?_⟩
 rw [length_take,length_drop]
 omega
theorem ynD (ts:List T) (t:T):yQ ts++[yef t]=yQ (ts++[t]):=by rw [yep,yep,map_append];rfl
theorem ymA {ts:List T}{t:T}(g:gdL ts) (gt:gdT t):gdL (ts++[t]):=gdL_iff.mpr fun u hu=>(List.mem_append.mp hu).elim (gdL_iff.mp g u) fun e=>by rw [List.mem_singleton.mp e];exact gt
theorem ynE {ts:List T}{t:T}{n:Nat}(h1:ybz ts<=n) (h2:yhA t<=n):ybz (ts++[t])<=n:=ymy fun u hu=>(List.mem_append.mp hu).elim (fun z=>Nat.le_trans (yie z) h1) fun e=>by rw [List.mem_singleton.mp e];exact h2
theorem yxi {ts:List T}(g:OkL ts) (c:Int):∃ ts',OkL ts'/\yeH [.lst (yQ ts),.int c] h=some (.lst (yQ ts'),h):=by
 have hl:=g.len
 have hdp:=g.dep
 unfold yeH
 rw [yN]
 show ∃ ts',OkL ts'/\ob (yw _ _ [.val (.lst (yQ ts)),.val (.int c),.no,.no,.no] h) fnK=_
 simp_all? only [ytA,yjR,ylo]
 generalize c%1000000000000000000000000000000000000000000000000000000000000=d
 by_cases q:0<d%3
 .rw [if_pos q,if_pos (by omega),ynD]
  exact ynC g (ymA g.gd (ytz _ _)) (ynE (by omega) (by rw [yqJ];omega))
 .rw [if_neg q]
  generalize max 0 ((ts.length:Int)-d/3%4)=cu
  generalize max 0 (cu-d/12%3)=lo
  obtain ⟨x,ex,mx,_⟩:=ymz ts (some cu) none
  obtain ⟨y,ey,my,_⟩:=ymz ts (some lo) (some cu)
  obtain ⟨z,ez,mz,lz⟩:=ymz ts none (some lo)
  rw [ex,ey,ez]
  obtain ⟨gx,dx⟩:=yqX g.gd mx
  obtain ⟨gy,dy⟩:=yqX g.gd my
  obtain ⟨gz,dz⟩:=yqX g.gd mz
  obtain ⟨t,et,gt,dt⟩:=ytB (h:=h) (d/36) gx gy
  rw [et]
  simp_all? only [ylo]
  rw [if_pos (by omega),ynD]
  exact ynC g (ymA gz gt) (ynE (by omega) (by omega))
end
section
variable {h:AH}{m a b:List (Nat×Nd)}
theorem fl {n k:Nat}{ns:List Str}{xs:List PV}(i:Nat) {cs:List Nat}{f:Str}{y:PV}(e:h[n]?=some (.ins k ns xs)) (hk:k∈cs) (hi:(decide (f∈ns) && ns.idxOf f == i)=true) (hy:xs[i]?=some y):yoq cs f (.loc n) h=some (y,h):=by
 obtain ⟨h1,h2⟩:=Bool.and_eq_true_iff.mp hi
 have h2:=eq_of_beq h2
 unfold yoq yfG
 simp only [e]
 rw [if_pos ⟨hk,of_decide_eq_true h1⟩,h2,hy]
end
def mK (k:Nat) (m:Str) (f:Fn) (as:XA) (ρ:PSt) (x:PV) (h1:AH):Option (PV×AH):=match yfG x h1 with
 | some (k',ns,_)=>if k'=k/\m∉ns then ob (as ρ h1) fun ys h2=>f (x::ys) h2 else none
 | none=>none
def fL (cs:List Nat) (f:Str) (ρ:PSt) (y x:PV) (h2:AH):Option (Out×AH):=match x with
 | .loc n=>(match h2[n]? with|some (.ins k ns xs)=>if k∈cs/\ns.length<1000 then some (.nx ρ,h2.set n (.ins k (putN f y ns xs).1 (putN f y ns xs).2)) else none|_=>none)
 | _=>none
section
variable {h:AH}{ρ:PSt}
theorem ydx {k:Nat}{m:Str}{f:Fn}{e:XE}{as:XA}:yu k m f e as ρ h=ob (e ρ h) fun x h1=>mK k m f as ρ x h1:=id rfl
theorem yGo {cs:List Nat}{f:Str}{eo ev:XE}:yta cs f eo ev ρ h=ob (ev ρ h) fun y h1=>ob (eo ρ h1) fun x h2=>fL cs f ρ y x h2:=id rfl
theorem yAL {n k:Nat}{ns:List Str}{xs:List PV}{m:Str}{f:Fn}{as:XA}(e:h[n]?=some (.ins k ns xs)) (hm:decide (m∈ns)=false):mK k m f as ρ (.loc n) h=ob (as ρ h) fun ys h2=>f (.loc n::ys) h2:=by
 unfold mK yfG
 simp only [e]
 rw [if_pos ⟨trivial,of_decide_eq_false hm⟩]
theorem yDX {n k:Nat}{ns ns':List Str}{xs xs':List PV}{cs:List Nat}{f:Str}{y:PV}(e:h[n]?=some (.ins k ns xs)) (hk:(decide (k∈cs) && decide (ns.length<1000))=true) (hp:putN f y ns xs=(ns',xs')):fL cs f ρ y (.loc n) h=some (.nx ρ,h.set n (.ins k ns' xs')):=by
 obtain ⟨h1,h2⟩:=Bool.and_eq_true_iff.mp hk
 unfold fL
 simp only [e]
 rw [if_pos ⟨of_decide_eq_true h1,of_decide_eq_true h2⟩,hp]
end
def rKm (k:Nat) (m:Str) (f:FnR) (as:XA) (ρ:PSt) (x:PV) (h1:AH):Option (Str×AH):=match yfG x h1 with
 | some (k',ns,_)=>if k'=k/\m∉ns then ob (as ρ h1) fun ys h2=>f (x::ys) h2 else none
 | none=>none
def sKr (r:XR) (o:Out) (h1:AH):Option (Str×AH):=match o with|.nx ρ'=>r ρ' h1|_=>none
noncomputable def oK2 (o:Option (Out×AH)) (r q:XR) (ρ:PSt) (h:AH):Option (Str×AH):=match o with|some (.nx ρ',h1)=>q ρ' h1|some _=>none|none=>r ρ h
section
variable {h:AH}{ρ ρ':PSt}
theorem ycm {α β:Type}{f:α->AH->Option β}:ob none f=none:=id rfl
theorem yeU:yhs ρ h=none:=id rfl
theorem yjh {k:Nat}{m:Str}{f:FnR}{e:XE}{as:XA}:yV k m f e as ρ h=ob (e ρ h) fun x h1=>rKm k m f as ρ x h1:=id rfl
theorem yuD {n k:Nat}{ns:List Str}{xs:List PV}{m:Str}{f:FnR}{as:XA}(e:h[n]?=some (.ins k ns xs)) (hm:decide (m∈ns)=false):rKm k m f as ρ (.loc n) h=ob (as ρ h) fun ys h2=>f (.loc n::ys) h2:=by
 unfold rKm yfG
 simp only [e]
 rw [if_pos ⟨trivial,of_decide_eq_false hm⟩]
theorem ylI {c:XT}{a b:XR}:rIf c a b ρ h=ob (c ρ h) fun k h1=>if k=true then a ρ h1 else b ρ h1:=id rfl
theorem yqY {s:XS}{r:XR}:yrE s r ρ h=ob (s ρ h) (sKr r):=id rfl
theorem yik {r:XR}:sKr r (.nx ρ) h=r ρ h:=id rfl
theorem yji {s:XS}{r q:XR}:yeD s r q ρ h=oK2 (s ρ h) r q ρ h:=id rfl
theorem yjT {r q:XR}:oK2 none r q ρ h=r ρ h:=id rfl
theorem yjU {r q:XR}{h1:AH}:oK2 (some (.nx ρ',h1)) r q ρ h=q ρ' h1:=id rfl
theorem ynF {c:Str}{e:XE}:yfg c e ρ h=ob (e ρ h) fun _ h1=>some (c,h1):=id rfl
theorem yxS {e:XE}{r:XR}:yos e r ρ h=ob (e ρ h) fun _ h1=>r ρ h1:=id rfl
theorem yxj {f:FnR}{a:XA}:ywq f a ρ h=ob (a ρ h) f:=id rfl
theorem ycA {N:Nat}{r:XR}{xs:List PV}:ylH N r xs h=r (xs.map .val++replicate (N-xs.length) .no) h:=id rfl
end
local macro_rules | `(tactic| walk_at "rr")=>`(tactic| simp_all? only [$(sl_ "yeU ydx yjh ylI yqY yik yji yjT yjU ynF yxS yxj"),*])
local macro_rules | `(tactic| walk_at "rr")=>`(tactic| simp_all? only [$(sl_ "yeU ydx yjh ylI yqY yik yji yjT yjU ynF yxS yxj"),*])
def yiA (x y:Str):Bool:=x.cps.toList.all fun c=>decide (c∈y.cps.toList)
def ycT (w:Str):Bool:=decide (w.length=1) && yiA w "abcdefgh"
def yfH (w:Str):Bool:=decide (1<=w.length) && decide (w.length<=8) && yiA w "abcdefghijklmnopqrstuvwxyz"
def ymB (w:Str):Bool:=inV (.str w) [.str "plus",.str "minus",.str "times",.str "less",.str "same"]
noncomputable def ylJ (w:Str):Option Int:=if decide (1<=w.length) && decide (w.length<=20) && yiA w "0123456789" then (if w.cps.toList.headD 0=48/\w≠"0" then none else if yoU w.cps.toList<18446744073709551616 then some (yoU w.cps.toList) else none) else none
section
variable {h:AH}
theorem yDY {z:Str}{i:Nat}{ρ:PSt}(e:ye i ρ h=some (.str z,h)) (hl:z.length<=100000):xIS (ye i) ρ h=some (z.cps.toList.map sgn,h):=by
 unfold xIS
 rw [e,ydi]
 exact if_pos hl
theorem ygO {x y:Str}(hl:x.length<=1000):ydl [.str x,.str y] h=some (.bl (yiA x y),h):=by
 unfold ydl yiA
 rw [yN]
 show ob (ybq _ [.val (.str x),.val (.str y)] h) fnK=_
 have hz:x.cps.toList.length=x.length:=by simp [Str.length]
 symm
 rw [yDY rfl (by omega),ydi]
 rw [if_pos (by rw [length_map];omega)]
 rw [yhT (f:=sgn) (g:=fun c=>.bl (decide (c∈y.cps.toList))) fun c _=>rfl]
 symm
 show ob (yzp [.lst (x.cps.toList.map fun c=>PV.bl (decide (c∈y.cps.toList)))] h) _=_
 unfold yzp ycd
 rw [show (x.cps.toList.map fun c=>PV.bl (decide (c∈y.cps.toList)))=(x.cps.toList.map fun c=>decide (c∈y.cps.toList)).map PV.bl by rw [map_map];rfl]
 simp only [ykO,List.all_map]
 rfl
theorem yFv {w:Str}(e:w.length=1):∃ c,w=⟨#[c]⟩:=by
 obtain ⟨a⟩:=w
 have e:a.size=1:=e
 obtain ⟨l⟩:=a
 match l,e with
 | [c],_=>exact ⟨c,rfl⟩
theorem ygP {w:Str}(hl:w.length<=1000):yfk [.str w] h=some (.bl (ycT w),h):=by
 unfold yfk
 rw [yN]
 show ob (ybq _ [.val (.str w)] h) fnK=_
 symm
 rw [if_pos (by omega:w.length<=100000)]
 by_cases q:w.length=1
 .obtain ⟨c,rfl⟩:=yFv q
  rw [show (⟨#[c]⟩:Str).length=1 from rfl]
  symm
  unfold ycT yiA
  simp
  exact fun _=>rfl
 .have:((w.length:Int)=1)=False:=eq_false (by omega)
  simp_all? only [this,↓reduceIte]
  unfold ycT
  simp [q]
theorem ygQ {w:Str}(hl:w.length<=1000):yfl [.str w] h=some (.bl (yfH w),h):=by
 unfold yfl
 rw [yN]
 show ob (ybq _ [.val (.str w)] h) fnK=_
 symm
 rw [if_pos (by omega:w.length<=100000)]
 unfold yfH
 by_cases q:1<=w.length
 .have q1:((1:Int)<=(w.length:Int))=True:=eq_true (by omega)
  by_cases q2:w.length<=8
  .have q3:((w.length:Int)<=8)=True:=eq_true (by omega)
   simp_all? only [q1,q3,ygO hl,↓reduceIte]
   simp [q,q2]
  .have q3:((w.length:Int)<=8)=False:=eq_false (by omega)
   simp_all? only [q1,q3,ygO hl,↓reduceIte]
   simp [q,q2]
 .have q1:((1:Int)<=(w.length:Int))=False:=eq_false (by omega)
  simp_all? only [q1,↓reduceIte]
  simp [q]
theorem yeq {w:Str}:yfj [.str w] h=some (.bl (ymB w),h):=by
 unfold yfj ymB
 rw [yN]
 show ob (ybq _ [.val (.str w)] h) fnK=_
 symm
 rfl
theorem yxk {c:Nat}(h:c∈("0123456789":Str).cps.toList):48<=c/\c<=57:=by
 rw [show ("0123456789":Str).cps.toList=[48,49,50,51,52,53,54,55,56,57] by rfl'] at h
 simp at h
 omega
theorem ylq {w:Str}(hl:w.length<=1000):ycL [.str w] h=some ((match ylJ w with|some n=>.int n|none=>.non),h):=by
 unfold ycL ylJ
 rw [yN]
 show ob (yw _ _ [.val (.str w),.no] h) fnK=_
 symm
 rw [if_pos (by omega:w.length<=100000)]
 by_cases q:1<=w.length
 .have q1:((1:Int)<=(w.length:Int))=True:=eq_true (by omega)
  by_cases q2:w.length<=20
  .have q3:((w.length:Int)<=20)=True:=eq_true (by omega)
   simp_all? only [q1,q3,ygO hl,↓reduceIte]
   rw [if_neg (by simp)]
   by_cases q4:yiA w "0123456789" = true
   .rw [if_neg (by rw [q4];decide)]
    have hz:w.cps.toList.length=w.length:=by simp [Str.length]
    obtain ⟨c,cs,e⟩:∃ c cs,w.cps.toList=c::cs:=by
     cases e:w.cps.toList with
     | nil=>rw [e] at hz;simp at hz;omega
     | cons c cs=>exact ⟨c,cs,rfl⟩
    have dg:∀ c∈w.cps.toList,48<=c/\c<=57:=fun c hc=>yxk (of_decide_eq_true (List.all_eq_true.mp q4 c hc))
    have hb:∀ h:AH,yqg [.str w] h=some (.int (yoU w.cps.toList),h):=fun h=>by
     unfold yqg
     show (if _ then _ else _)=_
     rw [if_pos ⟨by rw [e];simp,dg,by omega⟩]
    have hat:atI w.cps.toList 0=some c:=by rw [e];exact ysV
    have hh:w.cps.toList.headD 0=c:=by rw [e];rfl
    rw [hat,if_pos (by simp [q,q2,q4]),hh]
    simp only [bind_some]
    rw [if_pos (by omega:w.length<=100000),ydi]
    have eqc:oEq (sgn c) (.str "0") h=some (.bl (decide (c=48)),h):=by
     unfold sgn
     symm
     simp only [show ((⟨#[c]⟩:Str) = "0")=(c=48) from propext ⟨fun z=>by
      have z2:=congrArg (fun s:Str=>s.cps.toList) z
      rw [show ("0":Str).cps.toList=[48] by rfl'] at z2
      simpa using z2,fun z=>by subst z;rfl⟩]
    rw [eqc]
    simp_all? only [hb]
    by_cases c1:c=48
    .by_cases c2:w = "0"
     .simp only [c1,c2,not_true_eq_false,and_false,↓reduceIte]
      rw [show yoU ("0":Str).cps.toList=0 by rfl']
      rfl
     .simp [c1,c2]
    .by_cases c3:yoU w.cps.toList<18446744073709551616
     .simp [c1,c3]
     .simp [c1,c3]
   .rw [if_pos (by simpa using q4),if_neg (by simp [q4])]
  .have q3:((w.length:Int)<=20)=False:=eq_false (by omega)
   simp_all? only [q1,q3,↓reduceIte]
   simp [q,q2]
 .have q1:((1:Int)<=(w.length:Int))=False:=eq_false (by omega)
  simp_all? only [q1,↓reduceIte]
  simp [q]
end
local macro_rules | `(tactic| walk_at "rr")=>`(tactic| simp_all? only [$(sl_ "yeU ydx yjh ylI yqY yik yji yjT yjU ynF yxS yxj"),*])
section
def rdr (ws:List Str) (k:Nat):Nd:=.ins 10 ["words","at"] [.lst (ws.map .str),.int k]
def hR (h:AH) (o:Nat) (ws:List Str) (k:Nat):AH:=h.set o (rdr ws k)
variable {h:AH}{o:Nat}{ws:List Str}{k:Nat}
theorem yqZ (ho:o<h.length):(hR h o ws k)[o]?=some (.ins 10 ["words","at"] [.lst (ws.map .str),.int k]):=getElem?_set_self ho
theorem yAM {j:Nat}:(hR h o ws k).set o (.ins 10 ["words","at"] [.lst (ws.map .str),.int j])=hR h o ws j:=by unfold hR rdr;rw [List.set_set]
theorem ynG (ho:o<h.length):yoq [10] "words" (.loc o) (hR h o ws k)=some (.lst (ws.map .str),hR h o ws k):=fl 0 (yqZ ho) (by decide) (by rfl') rfl
theorem yxl (ho:o<h.length):yoq [10] "at" (.loc o) (hR h o ws k)=some (.int k,hR h o ws k):=fl 1 (yqZ ho) (by decide) (by rfl') rfl
noncomputable def Rd {α:Type}(h:AH) (o:Nat) (ws:List Str) (p:Option (PV×AH)) (r:Option (Str×AH)) (m:Option (α×Nat)) (v:α->PV):Prop:=match m with
 | some (x,k')=>p=some (v x,hR h o ws k')
 | none=>p=none/\∃ k',r=some (("NoDeed":Str),hR h o ws k')
theorem Rd.yes {α:Type}{p:Option (PV×AH)}{r:Option (Str×AH)}{m:Option (α×Nat)}{v:α->PV}{x:α}{k':Nat}(R:Rd h o ws p r m v) (e:m=some (x,k')):p=some (v x,hR h o ws k'):=by rw [e] at R;exact R
theorem Rd.no {α:Type}{p:Option (PV×AH)}{r:Option (Str×AH)}{m:Option (α×Nat)}{v:α->PV}(R:Rd h o ws p r m v) (e:m=none):p=none/\∃ k',r=some (("NoDeed":Str),hR h o ws k'):=by rw [e] at R;exact R
structure Wo (h:AH) (o:Nat) (ws:List Str):Prop where
 ho:o<h.length
 hl:ws.length<=999
 hw:∀ w∈ws,w.length<=1000
theorem Wo.len (O:Wo h o ws) {w:Str}(e:ws[k]?=some w):w.length<=1000:=O.hw w (mem_of_getElem? e)
variable (O:Wo h o ws)
include O
theorem yee {w:Str}(e:ws[k]?=some w):yO [.loc o] (hR h o ws k)=some (.str w,hR h o ws k):=by
 have hl:=O.hl
 have e2:k<ws.length:=(List.getElem?_eq_some_iff.mp e).1
 have e3:atI (ws.map PV.str) (k:Int)=some (.str w):=ydr (by rw [getElem?_map,e];rfl)
 unfold yO
 rw [yN]
 show ob (yw _ _ [.val (.loc o)] (hR h o ws k)) fnK=_
 simp_all? only [ynG O.ho,yxl O.ho,length_map,Int.ofNat_lt,e2,e3,↓reduceIte]
theorem ygR (e:ws[k]?=none):yO [.loc o] (hR h o ws k)=some (.non,hR h o ws k):=by
 have hl:=O.hl
 have e2:ws.length<=k:=List.getElem?_eq_none_iff.mp e
 unfold yO
 rw [yN]
 show ob (yw _ _ [.val (.loc o)] (hR h o ws k)) fnK=_
 simp_all? only [ynG O.ho,yxl O.ho,length_map,Int.ofNat_lt,show ¬ k<ws.length by omega,↓reduceIte]
theorem mR {m:Str}{f:Fn}{as:XA}{ρ:PSt}(hm:decide (m∈(["words","at"]:List Str))=false):mK 10 m f as ρ (.loc o) (hR h o ws k)=ob (as ρ (hR h o ws k)) fun ys h2=>f (.loc o::ys) h2:=yAL (yqZ O.ho) hm
theorem rR {m:Str}{f:FnR}{as:XA}{ρ:PSt}(hm:decide (m∈(["words","at"]:List Str))=false):rKm 10 m f as ρ (.loc o) (hR h o ws k)=ob (as ρ (hR h o ws k)) fun ys h2=>f (.loc o::ys) h2:=yuD (yqZ O.ho) hm
def mTk (ws:List Str) (k:Nat):Option (Str×Nat):=match ws[k]? with|some w=>some (w,k+1)|none=>none
omit O in
theorem yoK {w:Str}(e:ws[k]?=some w):mTk ws k=some (w,k+1):=by unfold mTk;rw [e]
omit O in
theorem yoL (e:ws[k]?=none):mTk ws k=none:=by unfold mTk;rw [e]
theorem ygp:Rd h o ws (yL [.loc o] (hR h o ws k)) (ybl [.loc o] (hR h o ws k)) (mTk ws k) .str:=by
 cases e:ws[k]? with
 | some w =>
  rw [yoK e]
  show yL [.loc o] (hR h o ws k)=some (.str w,hR h o ws (k+1))
  unfold yL
  rw [yN]
  show ob (yw _ _ [.val (.loc o),.no] (hR h o ws k)) fnK=_
  simp_all? only [ycm,yeU,ydx,yGo,mR O (m:="ahead") (by rfl'),yee O e,yxl O.ho]
  rw [if_neg (by intro z;cases z),yDX (ns':=["words","at"]) (xs':=[.lst (ws.map .str),.int ((k+1:Nat):Int)]) (yqZ O.ho) (by decide) (by rfl),yAM]
  symm
 | none =>
  rw [yoL e]
  refine ⟨?_,k,?_⟩
  .unfold yL
   rw [yN]
   show ob (yw _ _ [.val (.loc o),.no] (hR h o ws k)) fnK=_
   simp_all? only [ycm,yeU,ydx,mR O (m:="ahead") (by rfl'),ygR O e]
   rfl
  .unfold ybl
   rw [ycA]
   show yrE _ _ [.val (.loc o),.no] (hR h o ws k)=_
   simp_all? only [ycm,yeU,ydx,ylI,yqY,yik,ynF,mR O (m:="ahead") (by rfl'),ygR O e]
   rfl
noncomputable def mPa (ws:List Str) (w0:Str) (k:Nat):Option (Unit×Nat):=match ws[k]? with|some w=>if w=w0 then some ((),k+1) else none|none=>none
noncomputable def mSl (ws:List Str) (k:Nat):Option (Str×Nat):=match ws[k]? with|some w=>if ycT w=true then some (w,k+1) else none|none=>none
noncomputable def mNm (ws:List Str) (k:Nat):Option (Str×Nat):=match ws[k]? with|some w=>if yfH w=true then some (w,k+1) else none|none=>none
def mNo (ws:List Str) (k:Nat):Option (Int×Nat):=match ws[k]? with|some w=>(match ylJ w with|some n=>some (n,k+1)|none=>none)|none=>none
theorem ydg {w0:Str}(hw:w0.length<=1000):Rd h o ws (yq [.loc o,.str w0] (hR h o ws k)) (yJ [.loc o,.str w0] (hR h o ws k)) (mPa ws w0 k) fun _=>.non:=by
 have T:=ygp (k:=k) O
 unfold yq yJ
 rw [yN,ycA]
 show Rd h o ws (ob (yw _ _ [.val (.loc o),.val (.str w0),.no] (hR h o ws k)) fnK) (yeD _ _ _ [.val (.loc o),.val (.str w0),.no] (hR h o ws k)) _ _
 unfold mPa
 cases e:ws[k]? with
 | none =>
  obtain ⟨c1,k',c2⟩:=T.no (yoL e)
  refine ⟨?_,k',?_⟩
  .simp_all? only [ycm,yeU,ydx,mR O (m:="taken") (by rfl'),c1]
  .simp_all? only [ycm,yeU,ydx,yjh,yji,yjT,yjU,mR O (m:="taken") (by rfl'),rR O (m:="taken") (by rfl'),c1,c2]
 | some w =>
  have c1:=T.yes (yoK e)
  have l1:=O.len e
  by_cases q:w=w0
  .subst q
   show Rd h o ws _ _ (if w=w then _ else _) _
   rw [if_pos rfl]
   show _=some (PV.non,hR h o ws (k+1))
   simp_all? only [ycm,yeU,ydx,mR O (m:="taken") (by rfl'),c1]
  .have z:(w=w0)=False:=eq_false q
   show Rd h o ws _ _ (if w=w0 then _ else _) _
   rw [if_neg q]
   refine ⟨?_,k+1,?_⟩
   .simp_all? only [ycm,yeU,ydx,mR O (m:="taken") (by rfl'),c1,z]
   .simp_all? only [ycm,yeU,ydx,yjh,yji,yjT,yjU,ylI,ynF,mR O (m:="taken") (by rfl'),c1,z,↓reduceIte]
    rw [if_pos (by omega),if_pos (by rw [ycl,show ("wanted is ":Str).length=10 by rfl'];omega),if_pos (by rw [ycl,ycl,show ("wanted is ":Str).length=10 by rfl',show (", not ":Str).length=6 by rfl'];omega)]
theorem yy:Rd h o ws (yh [.loc o] (hR h o ws k)) (yr [.loc o] (hR h o ws k)) (mSl ws k) .str:=by
 have T:=ygp (k:=k) O
 unfold yh yr
 rw [yN,ycA]
 show Rd h o ws (ob (yw _ _ [.val (.loc o),.no] (hR h o ws k)) fnK) (yeD _ _ _ [.val (.loc o),.no] (hR h o ws k)) _ _
 unfold mSl
 cases e:ws[k]? with
 | none =>
  obtain ⟨c1,k',c2⟩:=T.no (yoL e)
  refine ⟨?_,k',?_⟩
  .simp_all? only [ycm,yeU,ydx,mR O (m:="taken") (by rfl'),c1]
  .simp_all? only [ycm,yeU,ydx,yjh,yji,yjT,yjU,mR O (m:="taken") (by rfl'),rR O (m:="taken") (by rfl'),c1,c2]
 | some w =>
  have c1:=T.yes (yoK e)
  have l1:=O.len e
  show Rd h o ws _ _ (if ycT w=true then _ else _) _
  cases q:ycT w with
  | true =>
   rw [if_pos rfl]
   show _=some (PV.str w,hR h o ws (k+1))
   simp_all? only [ycm,yeU,ydx,mR O (m:="taken") (by rfl'),c1,ygP l1,q,↓reduceIte]
  | false =>
   rw [if_neg (by decide)]
   refine ⟨?_,k+1,?_⟩
   .simp_all? only [ycm,yeU,ydx,mR O (m:="taken") (by rfl'),c1,ygP l1,q,↓reduceIte]
   .simp_all? only [ycm,yeU,ydx,yjh,yji,yjT,yjU,ylI,ynF,mR O (m:="taken") (by rfl'),c1,ygP l1,q,↓reduceIte]
    rw [if_pos (by omega)]
theorem ydE:Rd h o ws (ybb [.loc o] (hR h o ws k)) (ybp [.loc o] (hR h o ws k)) (mNm ws k) .str:=by
 have T:=ygp (k:=k) O
 unfold ybb ybp
 rw [yN,ycA]
 show Rd h o ws (ob (yw _ _ [.val (.loc o),.no] (hR h o ws k)) fnK) (yeD _ _ _ [.val (.loc o),.no] (hR h o ws k)) _ _
 unfold mNm
 cases e:ws[k]? with
 | none =>
  obtain ⟨c1,k',c2⟩:=T.no (yoL e)
  refine ⟨?_,k',?_⟩
  .simp_all? only [ycm,yeU,ydx,mR O (m:="taken") (by rfl'),c1]
  .simp_all? only [ycm,yeU,ydx,yjh,yji,yjT,yjU,mR O (m:="taken") (by rfl'),rR O (m:="taken") (by rfl'),c1,c2]
 | some w =>
  have c1:=T.yes (yoK e)
  have l1:=O.len e
  show Rd h o ws _ _ (if yfH w=true then _ else _) _
  cases q:yfH w with
  | true =>
   rw [if_pos rfl]
   show _=some (PV.str w,hR h o ws (k+1))
   simp_all? only [ycm,yeU,ydx,mR O (m:="taken") (by rfl'),c1,ygQ l1,q,↓reduceIte]
  | false =>
   rw [if_neg (by decide)]
   refine ⟨?_,k+1,?_⟩
   .simp_all? only [ycm,yeU,ydx,mR O (m:="taken") (by rfl'),c1,ygQ l1,q,↓reduceIte]
   .simp_all? only [ycm,yeU,ydx,yjh,yji,yjT,yjU,ylI,ynF,mR O (m:="taken") (by rfl'),c1,ygQ l1,q,↓reduceIte]
    rw [if_pos (by omega)]
theorem yfp:Rd h o ws (ybK [.loc o] (hR h o ws k)) (ybw [.loc o] (hR h o ws k)) (mNo ws k) .int:=by
 have T:=ygp (k:=k) O
 unfold ybK ybw
 rw [yN,ycA]
 show Rd h o ws (ob (yw _ _ [.val (.loc o),.no,.no] (hR h o ws k)) fnK) (yeD _ _ _ [.val (.loc o),.no,.no] (hR h o ws k)) _ _
 unfold mNo
 cases e:ws[k]? with
 | none =>
  obtain ⟨c1,k',c2⟩:=T.no (yoL e)
  refine ⟨?_,k',?_⟩
  .simp_all? only [ycm,yeU,ydx,mR O (m:="taken") (by rfl'),c1]
  .simp_all? only [ycm,yeU,ydx,yjh,yji,yjT,yjU,mR O (m:="taken") (by rfl'),rR O (m:="taken") (by rfl'),c1,c2]
 | some w =>
  have c1:=T.yes (yoK e)
  have l1:=O.len e
  have c2:=ylq (h:=hR h o ws (k+1)) l1
  show Rd h o ws _ _ (match ylJ w with|some n=>some (n,k+1)|none=>none) _
  cases q:ylJ w with
  | some n =>
   rw [q] at c2
   have c2:ycL [.str w] (hR h o ws (k+1))=some (.int n,hR h o ws (k+1)):=c2
   show _=some (PV.int n,hR h o ws (k+1))
   simp_all? only [ycm,yeU,ydx,mR O (m:="taken") (by rfl'),c1,c2,↓reduceIte]
   rw [if_neg (by intro z;cases z)]
  | none =>
   rw [q] at c2
   have c2:ycL [.str w] (hR h o ws (k+1))=some (.non,hR h o ws (k+1)):=c2
   refine ⟨?_,k+1,?_⟩
   .simp_all? only [ycm,yeU,ydx,mR O (m:="taken") (by rfl'),c1,c2,↓reduceIte]
    rfl
   .simp_all? only [ycm,yeU,ydx,yjh,yji,yjT,yjU,ylI,yqY,yik,ynF,mR O (m:="taken") (by rfl'),c1,c2,↓reduceIte]
    rw [if_pos (by rfl),if_pos (by omega)]
end
local macro_rules | `(tactic| dsimp! only [$ls,*])=>`(tactic| simp_all? only [yeU,ydx,mR $(Lean.mkIdent `O) (m:="slot_taken") (by rfl'),mR $(Lean.mkIdent `O) (m:="name_taken") (by rfl'),mR $(Lean.mkIdent `O) (m:="number_taken") (by rfl'),mR $(Lean.mkIdent `O) (m:="reckon_taken") (by rfl'),↓reduceIte,$ls,*])
local macro_rules | `(tactic| dsimp? only [$ls,*])=>`(tactic| dsimp! only [yjh,yji,yjT,yjU,ylI,yqY,yik,ynF,yxS,yxj,rR $(Lean.mkIdent `O) (m:="slot_taken") (by rfl'),rR $(Lean.mkIdent `O) (m:="name_taken") (by rfl'),rR $(Lean.mkIdent `O) (m:="number_taken") (by rfl'),rR $(Lean.mkIdent `O) (m:="reckon_taken") (by rfl'),$ls,*])
section
variable {h:AH}{o:Nat}{ws:List Str}{k:Nat}
theorem yDZ {a:Str}{b:Int}{h:AH}:yea [.str a,.int b] h=some (.ins 1 ["slot","number"] [.str a,.int b],h):=rfl
theorem yAN {a:Str}{b:Str}{h:AH}:ydK [.str a,.str b] h=some (.ins 3 ["slot","place"] [.str a,.str b],h):=rfl
theorem yEa {a:Str}{b:Str}{h:AH}:yeb [.str a,.str b] h=some (.ins 4 ["place","slot"] [.str a,.str b],h):=rfl
theorem yxm {a:Str}{b:Str}{h:AH}:ydv [.str a,.str b] h=some (.ins 8 ["name","slot"] [.str a,.str b],h):=rfl
theorem ytC {a b c d:Str}{h:AH}:yde [.str a,.str b,.str c,.str d] h=some (.ins 2 ["word","slot","one","other"] [.str a,.str b,.str c,.str d],h):=rfl
def yoM (ws:List Str) (k:Nat):Option (PV×Nat):=match mSl ws k with|none=>none|some (s1,k1)=>match mNo ws k1 with|none=>none|some (s2,k2)=>some (PV.ins 1 ["slot","number"] [.str s1,.int s2],k2)
def yjj (ws:List Str) (k:Nat):Option (PV×Nat):=match mSl ws k with|none=>none|some (s1,k1)=>match mSl ws k1 with|none=>none|some (s2,k2)=>some (PV.ins 3 ["slot","place"] [.str s1,.str s2],k2)
def yoN (ws:List Str) (k:Nat):Option (PV×Nat):=match mSl ws k with|none=>none|some (s1,k1)=>match mSl ws k1 with|none=>none|some (s2,k2)=>some (PV.ins 4 ["place","slot"] [.str s1,.str s2],k2)
def ygS (ws:List Str) (k:Nat):Option (PV×Nat):=match mNm ws k with|none=>none|some (s1,k1)=>match mSl ws k1 with|none=>none|some (s2,k2)=>some (PV.ins 8 ["name","slot"] [.str s1,.str s2],k2)
def ydX (ws:List Str) (w:Str) (k:Nat):Option (PV×Nat):=match mSl ws k with|none=>none|some (s1,k1)=>match mSl ws k1 with|none=>none|some (s2,k2)=>match mSl ws k2 with|none=>none|some (s3,k3)=>some (PV.ins 2 ["word","slot","one","other"] [.str w,.str s1,.str s2,.str s3],k3)
def mPl (ws:List Str) (w:Str) (k:Nat):Option (PV×Nat):=if w = "let" then yoM ws k else if w = "take" then yjj ws k else if w = "put" then yoN ws k else if w = "throw" then ygS ws k else if w = "wait" then some (.ins 9 [] [],k) else if ymB w=true then ydX ws w k else none
variable (O:Wo h o ws)
include O
theorem ylr {w:Str}:Rd h o ws (ybL [.loc o,.str w] (hR h o ws k)) (ybx [.loc o,.str w] (hR h o ws k)) (ydX ws w k) id:=by
 unfold ybL ybx ydX
 rw [yN,ycA]
 show Rd h o ws (ob (yw _ _ [.val (.loc o),.val (.str w),.no,.no,.no] (hR h o ws k)) fnK) (yeD _ _ _ [.val (.loc o),.val (.str w),.no,.no,.no] (hR h o ws k)) _ _
 cases e1:mSl ws k with
 | none =>
  obtain ⟨d1,k',d2⟩:=(yy (k:=k) O).no e1
  refine ⟨?_,k',?_⟩
  .dsimp! only [d1]
  .dsimp? only [d1,d2]
 | some q1 =>
  obtain ⟨s1,k1⟩:=q1
  dsimp only
  have c1:=(yy (k:=k) O).yes e1
  cases e2:mSl ws k1 with
  | none =>
   obtain ⟨d1,k',d2⟩:=(yy (k:=k1) O).no e2
   refine ⟨?_,k',?_⟩
   .dsimp! only [c1,d1]
   .dsimp? only [c1,d1,d2]
  | some q2 =>
   obtain ⟨s2,k2⟩:=q2
   dsimp only
   have c2:=(yy (k:=k1) O).yes e2
   cases e3:mSl ws k2 with
   | none =>
    obtain ⟨d1,k',d2⟩:=(yy (k:=k2) O).no e3
    refine ⟨?_,k',?_⟩
    .dsimp! only [c1,c2,d1]
    .dsimp? only [c1,c2,d1,d2]
   | some q3 =>
    obtain ⟨s3,k3⟩:=q3
    dsimp only
    have c3:=(yy (k:=k2) O).yes e3
    show _=some (_,hR h o ws k3)
    dsimp! only [c1,c2,c3,ytC]
    rfl
theorem yls {w:Str}(hw:w.length<=1000):Rd h o ws (ybQ [.loc o,.str w] (hR h o ws k)) (ybF [.loc o,.str w] (hR h o ws k)) (mPl ws w k) id:=by
 unfold ybQ ybF mPl
 rw [yN,ycA]
 show Rd h o ws (ob (yw _ _ [.val (.loc o),.val (.str w),.no,.no,.no] (hR h o ws k)) fnK) (rIf _ _ _ [.val (.loc o),.val (.str w),.no,.no,.no] (hR h o ws k)) _ _
 by_cases z1:w = "let"
 .rw [if_pos z1]
  have t1:(w = "let")=True:=eq_true z1
  unfold yoM
  cases e1:mSl ws k with
  | none =>
   obtain ⟨d1,k',d2⟩:=(yy (k:=k) O).no e1
   refine ⟨?_,k',?_⟩
   .dsimp! only [t1,d1]
   .dsimp? only [t1,d1,d2]
  | some q1 =>
   obtain ⟨s1,k1⟩:=q1
   dsimp only
   have c1:=(yy (k:=k) O).yes e1
   cases e2:mNo ws k1 with
   | none =>
    obtain ⟨d1,k',d2⟩:=(yfp (k:=k1) O).no e2
    refine ⟨?_,k',?_⟩
    .dsimp! only [t1,c1,d1]
    .dsimp? only [t1,c1,d1,d2]
   | some q2 =>
    obtain ⟨s2,k2⟩:=q2
    dsimp only
    have c2:=(yfp (k:=k1) O).yes e2
    show _=some (_,hR h o ws k2)
    dsimp! only [t1,c1,c2,yDZ]
    rfl
 .rw [if_neg z1]
  have f1:(w = "let")=False:=eq_false z1
  by_cases z2:w = "take"
  .rw [if_pos z2]
   have t2:(w = "take")=True:=eq_true z2
   unfold yjj
   cases e1:mSl ws k with
   | none =>
    obtain ⟨d1,k',d2⟩:=(yy (k:=k) O).no e1
    refine ⟨?_,k',?_⟩
    .dsimp! only [f1,t2,d1]
    .dsimp? only [f1,t2,d1,d2]
   | some q1 =>
    obtain ⟨s1,k1⟩:=q1
    dsimp only
    have c1:=(yy (k:=k) O).yes e1
    cases e2:mSl ws k1 with
    | none =>
     obtain ⟨d1,k',d2⟩:=(yy (k:=k1) O).no e2
     refine ⟨?_,k',?_⟩
     .dsimp! only [f1,t2,c1,d1]
     .dsimp? only [f1,t2,c1,d1,d2]
    | some q2 =>
     obtain ⟨s2,k2⟩:=q2
     dsimp only
     have c2:=(yy (k:=k1) O).yes e2
     show _=some (_,hR h o ws k2)
     dsimp! only [f1,t2,c1,c2,yAN]
     rfl
  .rw [if_neg z2]
   have f2:(w = "take")=False:=eq_false z2
   by_cases z3:w = "put"
   .rw [if_pos z3]
    have t3:(w = "put")=True:=eq_true z3
    unfold yoN
    cases e1:mSl ws k with
    | none =>
     obtain ⟨d1,k',d2⟩:=(yy (k:=k) O).no e1
     refine ⟨?_,k',?_⟩
     .dsimp! only [f1,f2,t3,d1]
     .dsimp? only [f1,f2,t3,d1,d2]
    | some q1 =>
     obtain ⟨s1,k1⟩:=q1
     dsimp only
     have c1:=(yy (k:=k) O).yes e1
     cases e2:mSl ws k1 with
     | none =>
      obtain ⟨d1,k',d2⟩:=(yy (k:=k1) O).no e2
      refine ⟨?_,k',?_⟩
      .dsimp! only [f1,f2,t3,c1,d1]
      .dsimp? only [f1,f2,t3,c1,d1,d2]
     | some q2 =>
      obtain ⟨s2,k2⟩:=q2
      dsimp only
      have c2:=(yy (k:=k1) O).yes e2
      show _=some (_,hR h o ws k2)
      dsimp! only [f1,f2,t3,c1,c2,yEa]
      rfl
   .rw [if_neg z3]
    have f3:(w = "put")=False:=eq_false z3
    by_cases z4:w = "throw"
    .rw [if_pos z4]
     have t4:(w = "throw")=True:=eq_true z4
     unfold ygS
     cases e1:mNm ws k with
     | none =>
      obtain ⟨d1,k',d2⟩:=(ydE (k:=k) O).no e1
      refine ⟨?_,k',?_⟩
      .dsimp! only [f1,f2,f3,t4,d1]
      .dsimp? only [f1,f2,f3,t4,d1,d2]
     | some q1 =>
      obtain ⟨s1,k1⟩:=q1
      dsimp only
      have c1:=(ydE (k:=k) O).yes e1
      cases e2:mSl ws k1 with
      | none =>
       obtain ⟨d1,k',d2⟩:=(yy (k:=k1) O).no e2
       refine ⟨?_,k',?_⟩
       .dsimp! only [f1,f2,f3,t4,c1,d1]
       .dsimp? only [f1,f2,f3,t4,c1,d1,d2]
      | some q2 =>
       obtain ⟨s2,k2⟩:=q2
       dsimp only
       have c2:=(yy (k:=k1) O).yes e2
       show _=some (_,hR h o ws k2)
       dsimp! only [f1,f2,f3,t4,c1,c2,yxm]
       rfl
    .rw [if_neg z4]
     have f4:(w = "throw")=False:=eq_false z4
     by_cases z5:w = "wait"
     .rw [if_pos z5]
      have t5:(w = "wait")=True:=eq_true z5
      show _=some (_,hR h o ws k)
      dsimp! only [f1,f2,f3,f4,t5]
      rfl
     .rw [if_neg z5]
      have f5:(w = "wait")=False:=eq_false z5
      cases q:ymB w with
      | true =>
       rw [if_pos rfl]
       cases e1:ydX ws w k with
       | none =>
        obtain ⟨d1,k',d2⟩:=(ylr (k:=k) (w:=w) O).no e1
        refine ⟨?_,k',?_⟩
        .dsimp! only [f1,f2,f3,f4,f5,yeq,q,d1]
        .dsimp? only [f1,f2,f3,f4,f5,yeq,q,d2]
       | some q1 =>
        obtain ⟨s1,k1⟩:=q1
        have c1:=(ylr (k:=k) (w:=w) O).yes e1
        show _=some (_,hR h o ws k1)
        dsimp! only [f1,f2,f3,f4,f5,yeq,q,c1]
      | false =>
       rw [if_neg (by decide)]
       refine ⟨?_,k,?_⟩
       .dsimp! only [f1,f2,f3,f4,f5,yeq,q]
       .dsimp? only [f1,f2,f3,f4,f5,yeq,q]
        rw [if_pos (by omega)]
end
local macro_rules | `(tactic| dsimp! only [$ls,*])=>`(tactic| simp_all? only [yeU,ydx,mR $(Lean.mkIdent `O) (m:="slot_taken") (by rfl'),mR $(Lean.mkIdent `O) (m:="name_taken") (by rfl'),mR $(Lean.mkIdent `O) (m:="side_taken") (by rfl'),mR $(Lean.mkIdent `O) (m:="pass_over") (by rfl'),mR $(Lean.mkIdent `O) (m:="list_taken") (by rfl'),mR $(Lean.mkIdent `O) (m:="part_taken") (by rfl'),mR $(Lean.mkIdent `O) (m:="ahead") (by rfl'),mR $(Lean.mkIdent `O) (m:="taken") (by rfl'),mR $(Lean.mkIdent `O) (m:="if_taken") (by rfl'),mR $(Lean.mkIdent `O) (m:="either_taken") (by rfl'),mR $(Lean.mkIdent `O) (m:="try_taken") (by rfl'),mR $(Lean.mkIdent `O) (m:="plain_taken") (by rfl'),↓reduceIte,$ls,*])
local macro_rules | `(tactic| dsimp? only [$ls,*])=>`(tactic| dsimp! only [yjh,yji,yjT,yjU,ylI,yqY,yik,ynF,yxS,yxj,rR $(Lean.mkIdent `O) (m:="slot_taken") (by rfl'),rR $(Lean.mkIdent `O) (m:="name_taken") (by rfl'),rR $(Lean.mkIdent `O) (m:="side_taken") (by rfl'),rR $(Lean.mkIdent `O) (m:="pass_over") (by rfl'),rR $(Lean.mkIdent `O) (m:="list_taken") (by rfl'),rR $(Lean.mkIdent `O) (m:="part_taken") (by rfl'),rR $(Lean.mkIdent `O) (m:="ahead") (by rfl'),rR $(Lean.mkIdent `O) (m:="taken") (by rfl'),rR $(Lean.mkIdent `O) (m:="if_taken") (by rfl'),rR $(Lean.mkIdent `O) (m:="either_taken") (by rfl'),rR $(Lean.mkIdent `O) (m:="try_taken") (by rfl'),rR $(Lean.mkIdent `O) (m:="plain_taken") (by rfl'),$ls,*])
section
variable {h:AH}{o:Nat}{ws:List Str}{k:Nat}
noncomputable def mLp (mp:Nat->Option (PV×Nat)) (ws:List Str):Nat->List PV->Nat->Option (List PV×Nat)
 | 0,_,_=>none
 | f+1,acc,k=>if ws[k]?=some (";":Str) then (match mp (k+1) with|none=>none|some (v,k1)=>mLp mp ws f (acc++[v]) k1) else some (acc,k)
def mLs (mp:Nat->Option (PV×Nat)) (ws:List Str) (k:Nat):Option (List PV×Nat):=match ws[k]? with
 | none=>some ([],k)
 | some w=>if w = ")" then some ([],k) else match mp k with|none=>none|some (v,k1)=>mLp mp ws 1000 [v] k1
theorem yGp {a:Str}{b c:List PV}{h:AH}:yeG [.str a,.lst b,.lst c] h=some (.ins 5 ["slot","parts","others"] [.str a,.lst b,.lst c],h):=rfl
theorem ytD {b c:List PV}{h:AH}:ydf [.lst b,.lst c] h=some (.ins 6 ["parts","others"] [.lst b,.lst c],h):=rfl
theorem yEb {a d:Str}{b c:List PV}{h:AH}:yec [.lst b,.str a,.str d,.lst c] h=some (.ins 7 ["parts","name","slot","others"] [.lst b,.str a,.str d,.lst c],h):=rfl
def mSd (mp:Nat->Option (PV×Nat)) (ws:List Str) (k:Nat):Option (List PV×Nat):=match mPa ws "(" k with|none=>none|some (s1,k1)=>match mLs mp ws k1 with|none=>none|some (s2,k2)=>match mPa ws ")" k2 with|none=>none|some (s3,k3)=>some (s2,k3)
def yrH (mp:Nat->Option (PV×Nat)) (ws:List Str) (k:Nat):Option (PV×Nat):=match mSl ws k with|none=>none|some (s1,k1)=>match mSd mp ws k1 with|none=>none|some (s2,k2)=>match mPa ws "else" k2 with|none=>none|some (s3,k3)=>match mSd mp ws k3 with|none=>none|some (s4,k4)=>some (PV.ins 5 ["slot","parts","others"] [.str s1,.lst s2,.lst s4],k4)
def ydj (mp:Nat->Option (PV×Nat)) (ws:List Str) (k:Nat):Option (PV×Nat):=match mSd mp ws k with|none=>none|some (s1,k1)=>match mPa ws "or" k1 with|none=>none|some (s2,k2)=>match mSd mp ws k2 with|none=>none|some (s3,k3)=>some (PV.ins 6 ["parts","others"] [.lst s1,.lst s3],k3)
def yiB (mp:Nat->Option (PV×Nat)) (ws:List Str) (k:Nat):Option (PV×Nat):=match mSd mp ws k with|none=>none|some (s1,k1)=>match mPa ws "on" k1 with|none=>none|some (s2,k2)=>match mNm ws k2 with|none=>none|some (s3,k3)=>match mSl ws k3 with|none=>none|some (s4,k4)=>match mSd mp ws k4 with|none=>none|some (s5,k5)=>some (PV.ins 7 ["parts","name","slot","others"] [.lst s1,.str s3,.str s4,.lst s5],k5)
def mP (ws:List Str):Nat->Nat->Option (PV×Nat)
 | 0,_=>none
 | d+1,k=>match ws[k]? with
  | none=>none
  | some w=>if w = "if" then yrH (mP ws d) ws (k+1) else if w = "either" then ydj (mP ws d) ws (k+1) else if w = "try" then yiB (mP ws d) ws (k+1) else mPl ws w (k+1)
variable (O:Wo h o ws)
include O
section
variable {mp:Nat->Option (PV×Nat)}{N:Nat}{a:Int}
theorem yAO (SR:∀ n m k,N<=n->N<=m->Rd h o ws (yp n [.loc o,.int a] (hR h o ws k)) (yv m [.loc o,.int a] (hR h o ws k)) (mSd mp ws k) .lst) (h45:N<=45):∀ n m k,N<=n->N<=m->Rd h o ws (ycD (n+1) [.loc o,.int a] (hR h o ws k)) (yce (m+1) [.loc o,.int a] (hR h o ws k)) (yrH mp ws k) id:=by
 intro n m k hn hm
 unfold ycD yce
 rw [yN,ycA]
 show Rd h o ws (ob (yw _ _ [.val (.loc o),.val (.int a),.no,.no,.no] (hR h o ws k)) fnK) (yeD _ _ _ [.val (.loc o),.val (.int a),.no,.no,.no] (hR h o ws k)) _ _
 unfold yrH
 cases e1:mSl ws k with
 | none =>
  obtain ⟨d1,k',d2⟩:=(yy (k:=k) O).no e1
  refine ⟨?_,k',?_⟩
  .dsimp! only [d1]
  .dsimp? only [d1,d2]
 | some q1 =>
  obtain ⟨s1,k1⟩:=q1
  dsimp only
  have c1:=(yy (k:=k) O).yes e1
  cases e2:mSd mp ws k1 with
  | none =>
   obtain ⟨d1,k',d2⟩:=(SR n m k1 hn hm).no e2
   have d3:=((SR 45 m k1 h45 hm).no e2).1
   refine ⟨?_,k',?_⟩
   .dsimp! only [c1,d1]
   .dsimp? only [c1,d3,d2]
  | some q2 =>
   obtain ⟨s2,k2⟩:=q2
   dsimp only
   have c2:=(SR n m k1 hn hm).yes e2
   have b2:=(SR 45 m k1 h45 hm).yes e2
   cases e3:mPa ws "else" k2 with
   | none =>
    obtain ⟨d1,k',d2⟩:=(ydg (k:=k2) (w0:="else") O (by rfl')).no e3
    refine ⟨?_,k',?_⟩
    .dsimp! only [c1,c2,d1]
    .dsimp? only [c1,b2,d1,d2]
   | some q3 =>
    obtain ⟨s3,k3⟩:=q3
    dsimp only
    have c3:=(ydg (k:=k2) (w0:="else") O (by rfl')).yes e3
    cases e4:mSd mp ws k3 with
    | none =>
     obtain ⟨d1,k',d2⟩:=(SR n m k3 hn hm).no e4
     have d3:=((SR 45 m k3 h45 hm).no e4).1
     refine ⟨?_,k',?_⟩
     .dsimp! only [c1,c2,c3,d1]
     .dsimp? only [c1,b2,c3,d3,d2]
    | some q4 =>
     obtain ⟨s4,k4⟩:=q4
     dsimp only
     have c4:=(SR n m k3 hn hm).yes e4
     have b4:=(SR 45 m k3 h45 hm).yes e4
     show _=some (_,hR h o ws k4)
     dsimp! only [c1,c2,c3,c4,yGp]
     rfl
theorem ylt (SR:∀ n m k,N<=n->N<=m->Rd h o ws (yp n [.loc o,.int a] (hR h o ws k)) (yv m [.loc o,.int a] (hR h o ws k)) (mSd mp ws k) .lst) (h45:N<=45):∀ n m k,N<=n->N<=m->Rd h o ws (ybM (n+1) [.loc o,.int a] (hR h o ws k)) (yby (m+1) [.loc o,.int a] (hR h o ws k)) (ydj mp ws k) id:=by
 intro n m k hn hm
 unfold ybM yby
 rw [yN,ycA]
 show Rd h o ws (ob (yw _ _ [.val (.loc o),.val (.int a),.no,.no] (hR h o ws k)) fnK) (yeD _ _ _ [.val (.loc o),.val (.int a),.no,.no] (hR h o ws k)) _ _
 unfold ydj
 cases e1:mSd mp ws k with
 | none =>
  obtain ⟨d1,k',d2⟩:=(SR n m k hn hm).no e1
  have d3:=((SR 45 m k h45 hm).no e1).1
  refine ⟨?_,k',?_⟩
  .dsimp! only [d1]
  .dsimp? only [d3,d2]
 | some q1 =>
  obtain ⟨s1,k1⟩:=q1
  dsimp only
  have c1:=(SR n m k hn hm).yes e1
  have b1:=(SR 45 m k h45 hm).yes e1
  cases e2:mPa ws "or" k1 with
  | none =>
   obtain ⟨d1,k',d2⟩:=(ydg (k:=k1) (w0:="or") O (by rfl')).no e2
   refine ⟨?_,k',?_⟩
   .dsimp! only [c1,d1]
   .dsimp? only [b1,d1,d2]
  | some q2 =>
   obtain ⟨s2,k2⟩:=q2
   dsimp only
   have c2:=(ydg (k:=k1) (w0:="or") O (by rfl')).yes e2
   cases e3:mSd mp ws k2 with
   | none =>
    obtain ⟨d1,k',d2⟩:=(SR n m k2 hn hm).no e3
    have d3:=((SR 45 m k2 h45 hm).no e3).1
    refine ⟨?_,k',?_⟩
    .dsimp! only [c1,c2,d1]
    .dsimp? only [b1,c2,d3,d2]
   | some q3 =>
    obtain ⟨s3,k3⟩:=q3
    dsimp only
    have c3:=(SR n m k2 hn hm).yes e3
    have b3:=(SR 45 m k2 h45 hm).yes e3
    show _=some (_,hR h o ws k3)
    dsimp! only [c1,c2,c3,ytD]
    rfl
theorem yuE (SR:∀ n m k,N<=n->N<=m->Rd h o ws (yp n [.loc o,.int a] (hR h o ws k)) (yv m [.loc o,.int a] (hR h o ws k)) (mSd mp ws k) .lst) (h45:N<=45):∀ n m k,N<=n->N<=m->Rd h o ws (ycq (n+1) [.loc o,.int a] (hR h o ws k)) (ybR (m+1) [.loc o,.int a] (hR h o ws k)) (yiB mp ws k) id:=by
 intro n m k hn hm
 unfold ycq ybR
 rw [yN,ycA]
 show Rd h o ws (ob (yw _ _ [.val (.loc o),.val (.int a),.no,.no,.no,.no] (hR h o ws k)) fnK) (yeD _ _ _ [.val (.loc o),.val (.int a),.no,.no,.no,.no] (hR h o ws k)) _ _
 unfold yiB
 cases e1:mSd mp ws k with
 | none =>
  obtain ⟨d1,k',d2⟩:=(SR n m k hn hm).no e1
  have d3:=((SR 45 m k h45 hm).no e1).1
  refine ⟨?_,k',?_⟩
  .dsimp! only [d1]
  .dsimp? only [d3,d2]
 | some q1 =>
  obtain ⟨s1,k1⟩:=q1
  dsimp only
  have c1:=(SR n m k hn hm).yes e1
  have b1:=(SR 45 m k h45 hm).yes e1
  cases e2:mPa ws "on" k1 with
  | none =>
   obtain ⟨d1,k',d2⟩:=(ydg (k:=k1) (w0:="on") O (by rfl')).no e2
   refine ⟨?_,k',?_⟩
   .dsimp! only [c1,d1]
   .dsimp? only [b1,d1,d2]
  | some q2 =>
   obtain ⟨s2,k2⟩:=q2
   dsimp only
   have c2:=(ydg (k:=k1) (w0:="on") O (by rfl')).yes e2
   cases e3:mNm ws k2 with
   | none =>
    obtain ⟨d1,k',d2⟩:=(ydE (k:=k2) O).no e3
    refine ⟨?_,k',?_⟩
    .dsimp! only [c1,c2,d1]
    .dsimp? only [b1,c2,d1,d2]
   | some q3 =>
    obtain ⟨s3,k3⟩:=q3
    dsimp only
    have c3:=(ydE (k:=k2) O).yes e3
    cases e4:mSl ws k3 with
    | none =>
     obtain ⟨d1,k',d2⟩:=(yy (k:=k3) O).no e4
     refine ⟨?_,k',?_⟩
     .dsimp! only [c1,c2,c3,d1]
     .dsimp? only [b1,c2,c3,d1,d2]
    | some q4 =>
     obtain ⟨s4,k4⟩:=q4
     dsimp only
     have c4:=(yy (k:=k3) O).yes e4
     cases e5:mSd mp ws k4 with
     | none =>
      obtain ⟨d1,k',d2⟩:=(SR n m k4 hn hm).no e5
      have d3:=((SR 45 m k4 h45 hm).no e5).1
      refine ⟨?_,k',?_⟩
      .dsimp! only [c1,c2,c3,c4,d1]
      .dsimp? only [b1,c2,c3,c4,d3,d2]
     | some q5 =>
      obtain ⟨s5,k5⟩:=q5
      dsimp only
      have c5:=(SR n m k4 hn hm).yes e5
      have b5:=(SR 45 m k4 h45 hm).yes e5
      show _=some (_,hR h o ws k5)
      dsimp! only [c1,c2,c3,c4,c5,yEb]
      rfl
theorem yxn (LR:∀ n m k,N<=n->N<=m->Rd h o ws (yI n [.loc o,.int a] (hR h o ws k)) (yK m [.loc o,.int a] (hR h o ws k)) (mLs mp ws k) .lst) (h45:N<=45):∀ n m k,N<=n->N<=m->Rd h o ws (yp (n+1) [.loc o,.int a] (hR h o ws k)) (yv (m+1) [.loc o,.int a] (hR h o ws k)) (mSd mp ws k) .lst:=by
 intro n m k hn hm
 unfold yp yv
 rw [yN,ycA]
 show Rd h o ws (ob (yw _ _ [.val (.loc o),.val (.int a),.no] (hR h o ws k)) fnK) (yeD _ _ _ [.val (.loc o),.val (.int a),.no] (hR h o ws k)) _ _
 unfold mSd
 cases e1:mPa ws "(" k with
 | none =>
  obtain ⟨d1,k',d2⟩:=(ydg (k:=k) (w0:="(") O (by rfl')).no e1
  refine ⟨?_,k',?_⟩
  .dsimp! only [d1]
  .dsimp? only [d1,d2]
 | some q1 =>
  obtain ⟨s1,k1⟩:=q1
  dsimp only
  have c1:=(ydg (k:=k) (w0:="(") O (by rfl')).yes e1
  cases e2:mLs mp ws k1 with
  | none =>
   obtain ⟨d1,k',d2⟩:=(LR n m k1 hn hm).no e2
   have d3:=((LR 45 m k1 h45 hm).no e2).1
   refine ⟨?_,k',?_⟩
   .dsimp! only [c1,d1]
   .dsimp? only [c1,d3,d2]
  | some q2 =>
   obtain ⟨s2,k2⟩:=q2
   dsimp only
   have c2:=(LR n m k1 hn hm).yes e2
   have b2:=(LR 45 m k1 h45 hm).yes e2
   cases e3:mPa ws ")" k2 with
   | none =>
    obtain ⟨d1,k',d2⟩:=(ydg (k:=k2) (w0:=")") O (by rfl')).no e3
    refine ⟨?_,k',?_⟩
    .dsimp! only [c1,c2,d1]
    .dsimp? only [c1,b2,d1,d2]
   | some q3 =>
    obtain ⟨s3,k3⟩:=q3
    dsimp only
    have c3:=(ydg (k:=k2) (w0:=")") O (by rfl')).yes e3
    show _=some (_,hR h o ws k3)
    dsimp! only [c1,c2,c3]
end
end
def yfI (n:Nat):XS:=yw (yeh (yu 10 "pass_over" yq (ye 0) (yb (xC (.str ";")) (yk)))) (yfF 2 (yu 10 "part_taken" (yx n) (ye 0) (yb (ye 1) (yk))))
def yil (n:Nat):XR:=yeD (yeh (yu 10 "pass_over" yq (ye 0) (yb (xC (.str ";")) (yk)))) (yV 10 "pass_over" yJ (ye 0) (yb (xC (.str ";")) (yk))) (yot 2 (yV 10 "part_taken" (yD n) (ye 0) (yb (ye 1) (yk))))
noncomputable def wK (o:Option (Out×AH)) (f:PSt->AH->Option (Str×AH)) (r:Option (Str×AH)):Option (Str×AH):=match o with|some (.nx ρ',h2)=>f ρ' h2|some _=>none|none=>r
theorem ylu {c:XT}{b:XS}{r:XR}{n:Nat}{ρ:PSt}{h:AH}:ytd c b r (n+1) ρ h=ob (c ρ h) fun k h1=>if k=true then wK (b ρ h1) (ytd c b r n) (r ρ h1) else none:=rfl
theorem yGq {i:Nat}{r:XR}{ρ:PSt}{h:AH}{xs:List PV}(hx:ρ[i]?=some (.own (.lst xs))):yot i r ρ h=r ρ h:=by
 unfold yot
 rw [hx]
section
variable {h:AH}{o:Nat}{ws:List Str}{k:Nat}
theorem ymC (e:ws[k]?=some (";":Str)):mPa ws ";" k=some ((),k+1):=by
 unfold mPa
 rw [e]
 exact if_pos rfl
variable (O:Wo h o ws)
include O
section
variable {mp:Nat->Option (PV×Nat)}{N:Nat}{a:Int}
theorem yBV {acc:List PV}(e:ws[k]?=some (";":Str)):yeW [.val (.loc o),.val (.int a),.own (.lst acc)] (hR h o ws k)=some (true,hR h o ws k):=by
 unfold yeW
 simp_all? only [ydx,mR O (m:="ahead") (by rfl'),yee O e]
theorem yFw {acc:List PV}(e:ws[k]?≠some (";":Str)):yeW [.val (.loc o),.val (.int a),.own (.lst acc)] (hR h o ws k)=some (false,hR h o ws k):=by
 unfold yeW
 cases q:ws[k]? with
 | none =>
  simp_all? only [ydx,mR O (m:="ahead") (by rfl'),ygR O q]
  rfl
 | some w =>
  have z:(w = ";")=False:=eq_false fun z=>e (by rw [q,z])
  simp_all? only [ydx,mR O (m:="ahead") (by rfl'),yee O q,z]
theorem yFx {acc:List PV}{n k1:Nat}{v:PV}(ha:acc.length<10000) (e:ws[k]?=some (";":Str)) (c:yx n [.loc o,.int a] (hR h o ws (k+1))=some (v,hR h o ws k1)):yfI n [.val (.loc o),.val (.int a),.own (.lst acc)] (hR h o ws k)=some (.nx [.val (.loc o),.val (.int a),.own (.lst (acc++[v]))],hR h o ws k1):=by
 have c0:=(ydg (k:=k) (w0:=";") O (by rfl')).yes (ymC e)
 unfold yfI
 simp_all? only [ydx,mR O (m:="pass_over") (by rfl'),c0]
 rw [yff rfl]
 simp_all? only [ydx,mR O (m:="part_taken") (by rfl'),c]
 rw [if_pos (by omega)]
theorem yFy {acc:List PV}{n:Nat}(e:ws[k]?=some (";":Str)) (c:yx n [.loc o,.int a] (hR h o ws (k+1))=none):yfI n [.val (.loc o),.val (.int a),.own (.lst acc)] (hR h o ws k)=none:=by
 have c0:=(ydg (k:=k) (w0:=";") O (by rfl')).yes (ymC e)
 unfold yfI
 simp_all? only [ydx,mR O (m:="pass_over") (by rfl'),c0]
 rw [yff rfl]
 simp_all? only [ycm,ydx,mR O (m:="part_taken") (by rfl'),c]
theorem yGr {acc:List PV}{n k1:Nat}(e:ws[k]?=some (";":Str)) (c:yD n [.loc o,.int a] (hR h o ws (k+1))=some (("NoDeed":Str),hR h o ws k1)):yil n [.val (.loc o),.val (.int a),.own (.lst acc)] (hR h o ws k)=some (("NoDeed":Str),hR h o ws k1):=by
 have c0:=(ydg (k:=k) (w0:=";") O (by rfl')).yes (ymC e)
 unfold yil
 simp_all? only [ydx,yji,yjU,mR O (m:="pass_over") (by rfl'),c0]
 rw [yGq rfl]
 simp_all? only [yjh,rR O (m:="part_taken") (by rfl'),c]
theorem yxo (PR:∀ n m k,N<=n->N<=m->Rd h o ws (yx n [.loc o,.int a] (hR h o ws k)) (yD m [.loc o,.int a] (hR h o ws k)) (mp k) id) (mo:∀ k v k1,mp k=some (v,k1)->k<=k1) {n m:Nat}(hn:N<=n) (hm:N<=m) (h45:N<=45):∀ (f:Nat) (acc:List PV) (k:Nat),ws.length<=f+k->acc.length+f<=9000 ->
  match mLp mp ws (f+1) acc k with
  | some (vs,k')=>whl yeW (yfI n) (f+1) [.val (.loc o),.val (.int a),.own (.lst acc)] (hR h o ws k)=some (.nx [.val (.loc o),.val (.int a),.own (.lst vs)],hR h o ws k')
  | none=>whl yeW (yfI n) (f+1) [.val (.loc o),.val (.int a),.own (.lst acc)] (hR h o ws k)=none/\∃ k',ytd yeW (yfI 45) (yil m) (f+1) [.val (.loc o),.val (.int a),.own (.lst acc)] (hR h o ws k)=some (("NoDeed":Str),hR h o ws k'):=by
 intro f
 induction f with
 | zero =>
  intro acc k h1 h2
  have e:ws[k]?=none:=List.getElem?_eq_none_iff.mpr (by omega)
  unfold mLp
  rw [if_neg (by rw [e];intro z;cases z)]
  show whl _ _ _ _ _=_
  rw [yhz,yFw O (by rw [e];intro z;cases z),ydi,if_neg (by decide)]
 | succ f ih =>
  intro acc k h1 h2
  unfold mLp
  by_cases e:ws[k]?=some (";":Str)
  .rw [if_pos e]
   cases q:mp (k+1) with
   | none =>
    obtain ⟨d1,k',d2⟩:=(PR n m (k+1) hn hm).no q
    have d3:=((PR 45 m (k+1) h45 hm).no q).1
    refine ⟨?_,k',?_⟩
    .rw [yhz,yBV O e,ydi,if_pos rfl,yFy O e d1]
     rfl
    .rw [ylu,yBV O e,ydi,if_pos rfl,yFy O e d3]
     exact yGr O e d2
   | some q1 =>
    obtain ⟨v,k1⟩:=q1
    have c1:=(PR n m (k+1) hn hm).yes q
    have c2:=(PR 45 m (k+1) h45 hm).yes q
    have m1:=mo _ _ _ q
    have I:=ih (acc++[v]) k1 (by omega) (by rw [length_append,List.length_singleton];omega)
    have w1:whl yeW (yfI n) (f+1+1) [.val (.loc o),.val (.int a),.own (.lst acc)] (hR h o ws k)=whl yeW (yfI n) (f+1) [.val (.loc o),.val (.int a),.own (.lst (acc++[v]))] (hR h o ws k1):=by
     rw [yhz,yBV O e,ydi,if_pos rfl,yFx O (by omega) e c1]
     rfl
    have w2:ytd yeW (yfI 45) (yil m) (f+1+1) [.val (.loc o),.val (.int a),.own (.lst acc)] (hR h o ws k)=ytd yeW (yfI 45) (yil m) (f+1) [.val (.loc o),.val (.int a),.own (.lst (acc++[v]))] (hR h o ws k1):=by
     rw [ylu,yBV O e,ydi,if_pos rfl,yFx O (by omega) e c2]
     rfl
    rw [w1,w2]
    exact I
  .rw [if_neg e]
   show whl _ _ _ _ _=_
   rw [yhz,yFw O e,ydi,if_neg (by decide)]
end
end
def Mo {α:Type}(f:Nat->Option (α×Nat)):Prop:=∀ k v k1,f k=some (v,k1)->k<=k1
section
variable {ws:List Str}{mp:Nat->Option (PV×Nat)}
theorem yra {w:Str}:Mo (mPa ws w):=by
 intro k v k1 e
 unfold mPa at e
 split at e
 .split at e
  .cases e;omega
  .cases e
 .cases e
theorem yim:Mo (mSl ws):=by
 intro k v k1 e
 unfold mSl at e
 split at e
 .split at e
  .cases e;omega
  .cases e
 .cases e
theorem yAP:Mo (mNm ws):=by
 intro k v k1 e
 unfold mNm at e
 split at e
 .split at e
  .cases e;omega
  .cases e
 .cases e
theorem yEc:Mo (mNo ws):=by
 intro k v k1 e
 unfold mNo at e
 split at e
 .split at e
  .cases e;omega
  .cases e
 .cases e
theorem yAQ (M:Mo mp):∀ (f:Nat) (acc:List PV),Mo (mLp mp ws f acc)
 | 0,_=>fun _ _ _ e=>by cases e
 | f+1,acc=>fun k v k1 e=>by
  unfold mLp at e
  split at e
  .split at e
   .cases e
   .rename_i s1 k2 e1
    have l1:=M _ _ _ e1
    have l2:=yAQ M f _ _ _ _ e
    omega
  .cases e;omega
theorem yEd (M:Mo mp):Mo (mLs mp ws):=by
 intro k v k1 e
 unfold mLs at e
 split at e
 .cases e;omega
 .split at e
  .cases e;omega
  .split at e
   .cases e
   .rename_i s1 k2 e1
    have l1:=M _ _ _ e1
    have l2:=yAQ M _ _ _ _ _ e
    omega
theorem yoO (M:Mo mp):Mo (mSd mp ws):=by
 intro k v k9 e
 unfold mSd at e
 cases e1:mPa ws "(" k with
 | none=>rw [e1] at e;cases e
 | some q1 =>
 obtain ⟨s1,k1⟩:=q1
 rw [e1] at e
 dsimp only at e
 have l1:=(yra) _ _ _ e1
 cases e2:mLs mp ws k1 with
 | none=>rw [e2] at e;cases e
 | some q2 =>
 obtain ⟨s2,k2⟩:=q2
 rw [e2] at e
 dsimp only at e
 have l2:=(yEd M) _ _ _ e2
 cases e3:mPa ws ")" k2 with
 | none=>rw [e3] at e;cases e
 | some q3 =>
 obtain ⟨s3,k3⟩:=q3
 rw [e3] at e
 dsimp only at e
 have l3:=(yra) _ _ _ e3
 cases e
 omega
theorem yEe (M:Mo mp):Mo (yrH mp ws):=by
 intro k v k9 e
 unfold yrH at e
 cases e1:mSl ws k with
 | none=>rw [e1] at e;cases e
 | some q1 =>
 obtain ⟨s1,k1⟩:=q1
 rw [e1] at e
 dsimp only at e
 have l1:=(yim) _ _ _ e1
 cases e2:mSd mp ws k1 with
 | none=>rw [e2] at e;cases e
 | some q2 =>
 obtain ⟨s2,k2⟩:=q2
 rw [e2] at e
 dsimp only at e
 have l2:=(yoO M) _ _ _ e2
 cases e3:mPa ws "else" k2 with
 | none=>rw [e3] at e;cases e
 | some q3 =>
 obtain ⟨s3,k3⟩:=q3
 rw [e3] at e
 dsimp only at e
 have l3:=(yra) _ _ _ e3
 cases e4:mSd mp ws k3 with
 | none=>rw [e4] at e;cases e
 | some q4 =>
 obtain ⟨s4,k4⟩:=q4
 rw [e4] at e
 dsimp only at e
 have l4:=(yoO M) _ _ _ e4
 cases e
 omega
theorem yrb (M:Mo mp):Mo (ydj mp ws):=by
 intro k v k9 e
 unfold ydj at e
 cases e1:mSd mp ws k with
 | none=>rw [e1] at e;cases e
 | some q1 =>
 obtain ⟨s1,k1⟩:=q1
 rw [e1] at e
 dsimp only at e
 have l1:=(yoO M) _ _ _ e1
 cases e2:mPa ws "or" k1 with
 | none=>rw [e2] at e;cases e
 | some q2 =>
 obtain ⟨s2,k2⟩:=q2
 rw [e2] at e
 dsimp only at e
 have l2:=(yra) _ _ _ e2
 cases e3:mSd mp ws k2 with
 | none=>rw [e3] at e;cases e
 | some q3 =>
 obtain ⟨s3,k3⟩:=q3
 rw [e3] at e
 dsimp only at e
 have l3:=(yoO M) _ _ _ e3
 cases e
 omega
theorem yAR (M:Mo mp):Mo (yiB mp ws):=by
 intro k v k9 e
 unfold yiB at e
 cases e1:mSd mp ws k with
 | none=>rw [e1] at e;cases e
 | some q1 =>
 obtain ⟨s1,k1⟩:=q1
 rw [e1] at e
 dsimp only at e
 have l1:=(yoO M) _ _ _ e1
 cases e2:mPa ws "on" k1 with
 | none=>rw [e2] at e;cases e
 | some q2 =>
 obtain ⟨s2,k2⟩:=q2
 rw [e2] at e
 dsimp only at e
 have l2:=(yra) _ _ _ e2
 cases e3:mNm ws k2 with
 | none=>rw [e3] at e;cases e
 | some q3 =>
 obtain ⟨s3,k3⟩:=q3
 rw [e3] at e
 dsimp only at e
 have l3:=(yAP) _ _ _ e3
 cases e4:mSl ws k3 with
 | none=>rw [e4] at e;cases e
 | some q4 =>
 obtain ⟨s4,k4⟩:=q4
 rw [e4] at e
 dsimp only at e
 have l4:=(yim) _ _ _ e4
 cases e5:mSd mp ws k4 with
 | none=>rw [e5] at e;cases e
 | some q5 =>
 obtain ⟨s5,k5⟩:=q5
 rw [e5] at e
 dsimp only at e
 have l5:=(yoO M) _ _ _ e5
 cases e
 omega
theorem yAS:Mo (yoM ws):=by
 intro k v k9 e
 unfold yoM at e
 cases e1:mSl ws k with
 | none=>rw [e1] at e;cases e
 | some q1 =>
 obtain ⟨s1,k1⟩:=q1
 rw [e1] at e
 dsimp only at e
 have l1:=(yim) _ _ _ e1
 cases e2:mNo ws k1 with
 | none=>rw [e2] at e;cases e
 | some q2 =>
 obtain ⟨s2,k2⟩:=q2
 rw [e2] at e
 dsimp only at e
 have l2:=(yEc) _ _ _ e2
 cases e
 omega
theorem yxp:Mo (yjj ws):=by
 intro k v k9 e
 unfold yjj at e
 cases e1:mSl ws k with
 | none=>rw [e1] at e;cases e
 | some q1 =>
 obtain ⟨s1,k1⟩:=q1
 rw [e1] at e
 dsimp only at e
 have l1:=(yim) _ _ _ e1
 cases e2:mSl ws k1 with
 | none=>rw [e2] at e;cases e
 | some q2 =>
 obtain ⟨s2,k2⟩:=q2
 rw [e2] at e
 dsimp only at e
 have l2:=(yim) _ _ _ e2
 cases e
 omega
theorem yAT:Mo (yoN ws):=by
 intro k v k9 e
 unfold yoN at e
 cases e1:mSl ws k with
 | none=>rw [e1] at e;cases e
 | some q1 =>
 obtain ⟨s1,k1⟩:=q1
 rw [e1] at e
 dsimp only at e
 have l1:=(yim) _ _ _ e1
 cases e2:mSl ws k1 with
 | none=>rw [e2] at e;cases e
 | some q2 =>
 obtain ⟨s2,k2⟩:=q2
 rw [e2] at e
 dsimp only at e
 have l2:=(yim) _ _ _ e2
 cases e
 omega
theorem ytE:Mo (ygS ws):=by
 intro k v k9 e
 unfold ygS at e
 cases e1:mNm ws k with
 | none=>rw [e1] at e;cases e
 | some q1 =>
 obtain ⟨s1,k1⟩:=q1
 rw [e1] at e
 dsimp only at e
 have l1:=(yAP) _ _ _ e1
 cases e2:mSl ws k1 with
 | none=>rw [e2] at e;cases e
 | some q2 =>
 obtain ⟨s2,k2⟩:=q2
 rw [e2] at e
 dsimp only at e
 have l2:=(yim) _ _ _ e2
 cases e
 omega
theorem yrc {w:Str}:Mo (ydX ws w):=by
 intro k v k9 e
 unfold ydX at e
 cases e1:mSl ws k with
 | none=>rw [e1] at e;cases e
 | some q1 =>
 obtain ⟨s1,k1⟩:=q1
 rw [e1] at e
 dsimp only at e
 have l1:=(yim) _ _ _ e1
 cases e2:mSl ws k1 with
 | none=>rw [e2] at e;cases e
 | some q2 =>
 obtain ⟨s2,k2⟩:=q2
 rw [e2] at e
 dsimp only at e
 have l2:=(yim) _ _ _ e2
 cases e3:mSl ws k2 with
 | none=>rw [e3] at e;cases e
 | some q3 =>
 obtain ⟨s3,k3⟩:=q3
 rw [e3] at e
 dsimp only at e
 have l3:=(yim) _ _ _ e3
 cases e
 omega
theorem yEf {w:Str}:Mo (mPl ws w):=by
 intro k v k1 e
 unfold mPl at e
 split at e
 .exact yAS _ _ _ e
 split at e
 .exact yxp _ _ _ e
 split at e
 .exact yAT _ _ _ e
 split at e
 .exact ytE _ _ _ e
 split at e
 .cases e;omega
 split at e
 .exact yrc _ _ _ e
 .cases e
theorem yFz:∀ d:Nat,Mo (mP ws d)
 | 0=>fun _ _ _ e=>by cases e
 | d+1=>fun k v k1 e=>by
  have M:=yFz d
  unfold mP at e
  split at e
  .cases e
  split at e
  .have:=yEe M _ _ _ e;omega
  split at e
  .have:=yrb M _ _ _ e;omega
  split at e
  .have:=yAR M _ _ _ e;omega
  .have:=yEf _ _ _ e;omega
end
section
variable {h:AH}{o:Nat}{ws:List Str}{k:Nat}(O:Wo h o ws) {mp:Nat->Option (PV×Nat)}{N:Nat}{a:Int}
include O
theorem yxq (PR:∀ n m k,N<=n->N<=m->Rd h o ws (yx n [.loc o,.int a] (hR h o ws k)) (yD m [.loc o,.int a] (hR h o ws k)) (mp k) id) (mo:Mo mp) (h45:N<=45):∀ n m k,N<=n->N<=m->Rd h o ws (yI (n+1) [.loc o,.int a] (hR h o ws k)) (yK (m+1) [.loc o,.int a] (hR h o ws k)) (mLs mp ws k) .lst:=by
 intro n m k hn hm
 unfold yI yK
 rw [yN,ycA]
 show Rd h o ws (ob (yw _ (yw _ (yw (yiP 1000 yeW (yfI n)) _)) [.val (.loc o),.val (.int a),.no] (hR h o ws k)) fnK) (rIf _ _ (yeD _ _ (yno 1000 yeW (yfI 45) (yil m))) [.val (.loc o),.val (.int a),.no] (hR h o ws k)) _ _
 unfold mLs
 cases e:ws[k]? with
 | none =>
  show _=some (PV.lst [],hR h o ws k)
  simp_all? only [id_eq,ycm,yeU,ydx,mR O (m:="ahead") (by rfl'),mR O (m:="part_taken") (by rfl'),ygR O e]
  rw [if_pos (show isN PV.non=true from rfl)]
 | some w =>
  dsimp only
  by_cases z:w = ")"
  .rw [if_pos z]
   have t:(w = ")")=True:=eq_true z
   show _=some (PV.lst [],hR h o ws k)
   simp_all? only [id_eq,ycm,yeU,ydx,mR O (m:="ahead") (by rfl'),mR O (m:="part_taken") (by rfl'),yee O e,t]
   rw [if_neg (by intro z;cases z)]
  .rw [if_neg z]
   have t:(w = ")")=False:=eq_false z
   cases q:mp k with
   | none =>
    obtain ⟨d1,k',d2⟩:=(PR n m k hn hm).no q
    have d3:=((PR 45 m k h45 hm).no q).1
    refine ⟨?_,k',?_⟩
    .simp_all? only [id_eq,ycm,yeU,ydx,mR O (m:="ahead") (by rfl'),mR O (m:="part_taken") (by rfl'),yee O e,t,d1,↓reduceIte]
     rw [if_neg (by intro z;cases z)]
    .simp_all? only [id_eq,ycm,yeU,ydx,mR O (m:="ahead") (by rfl'),mR O (m:="part_taken") (by rfl'),yjh,yji,yjT,yjU,ylI,rR O (m:="part_taken") (by rfl'),yee O e,t,d2,d3,↓reduceIte]
     rw [if_neg (by intro z;cases z)]
   | some q1 =>
    obtain ⟨v,k1⟩:=q1
    dsimp only
    have c1:=(PR n m k hn hm).yes q
    have c2:=(PR 45 m k h45 hm).yes q
    have L:=yxo O PR mo hn hm h45 999 [v] k1 (by have:=O.hl;omega) (by simp)
    cases r:mLp mp ws 1000 [v] k1 with
    | none =>
     rw [r] at L
     obtain ⟨d1,k',d2⟩:=L
     have d1:yiP 1000 yeW (yfI n) [.val (.loc o),.val (.int a),.own (.lst [v])] (hR h o ws k1)=none:=d1
     have d2:yno 1000 yeW (yfI 45) (yil m) [.val (.loc o),.val (.int a),.own (.lst [v])] (hR h o ws k1)=some (("NoDeed":Str),hR h o ws k'):=d2
     refine ⟨?_,k',?_⟩
     .simp_all? only [id_eq,ycm,yeU,ydx,mR O (m:="ahead") (by rfl'),mR O (m:="part_taken") (by rfl'),yee O e,t,c1,d1,↓reduceIte]
      rw [if_neg (by intro z;cases z)]
     .simp_all? only [id_eq,ycm,yeU,ydx,mR O (m:="ahead") (by rfl'),mR O (m:="part_taken") (by rfl'),yjh,yji,yjT,yjU,ylI,rR O (m:="part_taken") (by rfl'),yee O e,t,c2,d2,↓reduceIte]
      rw [if_neg (by intro z;cases z)]
    | some q2 =>
     obtain ⟨vs,k2⟩:=q2
     rw [r] at L
     have d1:yiP 1000 yeW (yfI n) [.val (.loc o),.val (.int a),.own (.lst [v])] (hR h o ws k1)=some (.nx [.val (.loc o),.val (.int a),.own (.lst vs)],hR h o ws k2):=L
     show _=some (PV.lst vs,hR h o ws k2)
     simp_all? only [id_eq,ycm,yeU,ydx,mR O (m:="ahead") (by rfl'),mR O (m:="part_taken") (by rfl'),yee O e,t,c1,d1,↓reduceIte]
     rw [if_neg (by intro z;cases z)]
end
local macro_rules | `(tactic| dsimp! only [$ls,*])=>`(tactic| simp_all? only [id_eq,yeU,ydx,mR $(Lean.mkIdent `O) (m:="taken") (by rfl'),mR $(Lean.mkIdent `O) (m:="if_taken") (by rfl'),mR $(Lean.mkIdent `O) (m:="either_taken") (by rfl'),mR $(Lean.mkIdent `O) (m:="try_taken") (by rfl'),mR $(Lean.mkIdent `O) (m:="plain_taken") (by rfl'),mR $(Lean.mkIdent `O) (m:="list_taken") (by rfl'),mR $(Lean.mkIdent `O) (m:="ahead") (by rfl'),↓reduceIte,$ls,*])
local macro_rules | `(tactic| dsimp? only [$ls,*])=>`(tactic| dsimp! only [yjh,yji,yjT,yjU,ylI,yqY,yik,ynF,yxS,yxj,rR $(Lean.mkIdent `O) (m:="taken") (by rfl'),rR $(Lean.mkIdent `O) (m:="if_taken") (by rfl'),rR $(Lean.mkIdent `O) (m:="either_taken") (by rfl'),rR $(Lean.mkIdent `O) (m:="try_taken") (by rfl'),rR $(Lean.mkIdent `O) (m:="plain_taken") (by rfl'),rR $(Lean.mkIdent `O) (m:="list_taken") (by rfl'),rR $(Lean.mkIdent `O) (m:="ahead") (by rfl'),$ls,*])
section
variable {h:AH}{o:Nat}{ws:List Str}{k:Nat}(O:Wo h o ws)
include O
theorem ynH {d:Nat}{a:Int}(hd:d<=9) (PR:∀ n m k,4*d+1<=n->4*d+1<=m->Rd h o ws (yx n [.loc o,.int a] (hR h o ws k)) (yD m [.loc o,.int a] (hR h o ws k)) (mP ws d k) id):(∀ n m k,4*d+2<=n->4*d+2<=m->Rd h o ws (yI n [.loc o,.int a] (hR h o ws k)) (yK m [.loc o,.int a] (hR h o ws k)) (mLs (mP ws d) ws k) .lst)/\(∀ n m k,4*d+3<=n->4*d+3<=m->Rd h o ws (yp n [.loc o,.int a] (hR h o ws k)) (yv m [.loc o,.int a] (hR h o ws k)) (mSd (mP ws d) ws k) .lst):=by
 have LR:∀ n m k,4*d+2<=n->4*d+2<=m->Rd h o ws (yI n [.loc o,.int a] (hR h o ws k)) (yK m [.loc o,.int a] (hR h o ws k)) (mLs (mP ws d) ws k) .lst:=fun n m k hn hm=>by
  obtain ⟨n,rfl⟩:∃ j,n=j+1:=⟨n-1,by omega⟩
  obtain ⟨m,rfl⟩:∃ j,m=j+1:=⟨m-1,by omega⟩
  exact yxq O PR (yFz d) (by omega) n m k (by omega) (by omega)
 refine ⟨LR,fun n m k hn hm=>?_⟩
 obtain ⟨n,rfl⟩:∃ j,n=j+1:=⟨n-1,by omega⟩
 obtain ⟨m,rfl⟩:∃ j,m=j+1:=⟨m-1,by omega⟩
 exact yxn O LR (by omega) n m k (by omega) (by omega)
theorem yrd:∀ (d:Nat) (a:Int),a=9-(d:Int)->d<=9->∀ n m k,4*d+1<=n->4*d+1<=m->Rd h o ws (yx n [.loc o,.int a] (hR h o ws k)) (yD m [.loc o,.int a] (hR h o ws k)) (mP ws d k) id
 | 0,a,ea,_,n,m,k,hn,hm=>by
  obtain ⟨n,rfl⟩:∃ j,n=j+1:=⟨n-1,by omega⟩
  obtain ⟨m,rfl⟩:∃ j,m=j+1:=⟨m-1,by omega⟩
  unfold yx yD
  rw [yN,ycA]
  show Rd h o ws (ob (yw _ _ [.val (.loc o),.val (.int a),.no] (hR h o ws k)) fnK) (rIf _ _ _ [.val (.loc o),.val (.int a),.no] (hR h o ws k)) _ _
  have z:((8:Int)<a)=True:=eq_true (by omega)
  refine ⟨?_,k,?_⟩
  .simp_all? only [ycm,yeU,z]
  .simp_all? only [ylI,ynF,z]
 | d+1,a,ea,hd,n,m,k,hn,hm=>by
  have h45:4*d+3<=45:=by omega
  obtain ⟨LR,SR⟩:=ynH O (d:=d) (a:=a+1) (by omega) (yrd d (a+1) (by omega) (by omega))
  obtain ⟨n,rfl⟩:∃ j,n=j+1+1:=⟨n-2,by omega⟩
  obtain ⟨m,rfl⟩:∃ j,m=j+1+1:=⟨m-2,by omega⟩
  unfold yx yD
  rw [yN,ycA]
  show Rd h o ws (ob (yw _ _ [.val (.loc o),.val (.int a),.no] (hR h o ws k)) fnK) (rIf _ _ _ [.val (.loc o),.val (.int a),.no] (hR h o ws k)) _ _
  have z:((8:Int)<a)=False:=eq_false (by omega)
  have T:=ygp (k:=k) O
  unfold mP
  cases e:ws[k]? with
  | none =>
   obtain ⟨c1,k',c2⟩:=T.no (yoL e)
   refine ⟨?_,k',?_⟩
   .dsimp! only [z,c1]
   .dsimp? only [z,c1,c2]
  | some w =>
   have c1:=T.yes (yoK e)
   have l1:=O.len e
   dsimp only
   by_cases z1:w = "if"
   .rw [if_pos z1]
    have t1:(w = "if")=True:=eq_true z1
    cases e2:yrH (mP ws d) ws (k+1) with
    | none =>
     obtain ⟨d1,k',d2⟩:=(yAO O SR h45 n m (k+1) (by omega) (by omega)).no e2
     refine ⟨?_,k',?_⟩
     .dsimp! only [z,t1,c1,d1]
     .dsimp? only [z,t1,c1,d2]
    | some q2 =>
     obtain ⟨v,k2⟩:=q2
     have c2:=(yAO O SR h45 n m (k+1) (by omega) (by omega)).yes e2
     show _=some (_,hR h o ws k2)
     dsimp! only [z,t1,c1,c2]
   .rw [if_neg z1]
    have f1:(w = "if")=False:=eq_false z1
    by_cases z2:w = "either"
    .rw [if_pos z2]
     have t2:(w = "either")=True:=eq_true z2
     cases e2:ydj (mP ws d) ws (k+1) with
     | none =>
      obtain ⟨d1,k',d2⟩:=(ylt O SR h45 n m (k+1) (by omega) (by omega)).no e2
      refine ⟨?_,k',?_⟩
      .dsimp! only [z,f1,t2,c1,d1]
      .dsimp? only [z,f1,t2,c1,d2]
     | some q2 =>
      obtain ⟨v,k2⟩:=q2
      have c2:=(ylt O SR h45 n m (k+1) (by omega) (by omega)).yes e2
      show _=some (_,hR h o ws k2)
      dsimp! only [z,f1,t2,c1,c2]
    .rw [if_neg z2]
     have f2:(w = "either")=False:=eq_false z2
     by_cases z3:w = "try"
     .rw [if_pos z3]
      have t3:(w = "try")=True:=eq_true z3
      cases e2:yiB (mP ws d) ws (k+1) with
      | none =>
       obtain ⟨d1,k',d2⟩:=(yuE O SR h45 n m (k+1) (by omega) (by omega)).no e2
       refine ⟨?_,k',?_⟩
       .dsimp! only [z,f1,f2,t3,c1,d1]
       .dsimp? only [z,f1,f2,t3,c1,d2]
      | some q2 =>
       obtain ⟨v,k2⟩:=q2
       have c2:=(yuE O SR h45 n m (k+1) (by omega) (by omega)).yes e2
       show _=some (_,hR h o ws k2)
       dsimp! only [z,f1,f2,t3,c1,c2]
     .rw [if_neg z3]
      have f3:(w = "try")=False:=eq_false z3
      cases e2:mPl ws w (k+1) with
      | none =>
       obtain ⟨d1,k',d2⟩:=(yls (k:=k+1) O l1).no e2
       refine ⟨?_,k',?_⟩
       .dsimp! only [z,f1,f2,f3,c1,d1]
       .dsimp? only [z,f1,f2,f3,c1,d2]
      | some q2 =>
       obtain ⟨v,k2⟩:=q2
       have c2:=(yls (k:=k+1) O l1).yes e2
       show _=some (_,hR h o ws k2)
       dsimp! only [z,f1,f2,f3,c1,c2]
theorem yhD:∀ n m k,38<=n->38<=m->Rd h o ws (yI n [.loc o,.int 0] (hR h o ws k)) (yK m [.loc o,.int 0] (hR h o ws k)) (mLs (mP ws 9) ws k) .lst:=(ynH O (d:=9) (a:=0) (by omega) (yrd O 9 0 (by decide) (by omega))).1
end
def ybG (t:Str):List Str:=if t = "" then [] else ymn t
def txB (t:Str):Bool:=decide (t.length<=60000) && decide ((ybG t).length<=999) && (ybG t).all fun w=>decide (w.length<=1000)
section
variable {h:AH}{t:Str}{k:Nat}
theorem ygT (hl:t.length<=60000):yem [.str t] h=some (.lst ((ybG t).map .str),h):=by
 unfold yem ybG
 rw [yN]
 show ob (yw _ _ [.val (.str t)] h) fnK=_
 by_cases z:t = ""
 .have z1:(t = "")=True:=eq_true z
  simp_all? only [z1,↓reduceIte]
  rfl
 .have z1:(t = "")=False:=eq_false z
  simp_all? only [z1,yqw (show t.length<=100000 by omega),↓reduceIte]
theorem ynI {ws:List Str}{j:Nat}:hR (h++[rdr ws j]) h.length ws k=h++[rdr ws k]:=by
 unfold hR
 simp
theorem yjk {ws:List Str}:ycC [PV.lst (ws.map PV.str)] h=some (rdr ws 0,h):=rfl
theorem ytF (T:txB t=true):t.length<=60000/\Wo (h++[rdr (ybG t) 0]) h.length (ybG t):=by
 unfold txB at T
 simp only [and_eq_true,decide_eq_true_eq,List.all_eq_true] at T
 exact ⟨T.1.1,by simp,T.1.2,T.2⟩
theorem yuF {d:Nd}:(h++[d])[h.length]?=some d:=by simp
theorem mN {ws:List Str}{m:Str}{f:Fn}{as:XA}{ρ:PSt}(hm:decide (m∈(["words","at"]:List Str))=false):mK 10 m f as ρ (.loc h.length) (h++[rdr ws k])=ob (as ρ (h++[rdr ws k])) fun ys h2=>f (.loc h.length::ys) h2:=yAL yuF hm
theorem rN {ws:List Str}{m:Str}{f:FnR}{as:XA}{ρ:PSt}(hm:decide (m∈(["words","at"]:List Str))=false):rKm 10 m f as ρ (.loc h.length) (h++[rdr ws k])=ob (as ρ (h++[rdr ws k])) fun ys h2=>f (.loc h.length::ys) h2:=yuD yuF hm
theorem ytG {ps:List PV}{n:Int}(T:txB t=true) (e:mLs (mP (ybG t) 9) (ybG t) 0=some (ps,(ybG t).length)) (hlong:∀ h,ybj 45 [.lst ps] h=some (.int n,h)) (hn:n+1<=80):yhf [.str t] h=some (.lst ps,h++[rdr (ybG t) (ybG t).length]):=by
 obtain ⟨hl,O⟩:=ytF (h:=h) T
 have c1:=(yhD O 45 45 0 (by omega) (by omega)).yes e
 have c2:=ygR (k:=(ybG t).length) O (List.getElem?_eq_none_iff.mpr (Nat.le_refl _))
 simp only [ynI] at c1 c2
 have z:((80:Int)<n+1)=False:=eq_false (by omega)
 unfold yhf
 rw [yN]
 show ob (yw _ _ [.val (.str t),.no,.no] h) fnK=_
 simp_all? only [ygT hl,yjk,ydx,mN (m:="list_taken") (by rfl'),c1,mN (m:="ahead") (by rfl'),c2,hlong,z,↓reduceIte]
 rw [if_neg (by intro z;cases z)]
theorem yre (T:txB t=true) (e:mLs (mP (ybG t) 9) (ybG t) 0=none):yhf [.str t] h=none/\∃ k,ydU [.str t] h=some (("NoDeed":Str),h++[rdr (ybG t) k]):=by
 obtain ⟨hl,O⟩:=ytF (h:=h) T
 obtain ⟨c1,k',c2⟩:=(yhD O 45 45 0 (by omega) (by omega)).no e
 simp only [ynI] at c1 c2
 unfold yhf ydU
 rw [yN,ycA]
 show ob (yw _ _ [.val (.str t),.no,.no] h) fnK=none/\∃ k,yrE _ _ [.val (.str t),.no,.no] h=_
 refine ⟨?_,k',?_⟩
 .simp_all? only [ycm,ygT hl,yjk,ydx,mN (m:="list_taken") (by rfl'),c1]
 .simp_all? only [ycm,ygT hl,yjk,ydx,yjh,yqY,yik,yji,yjT,mN (m:="list_taken") (by rfl'),rN (m:="list_taken") (by rfl'),c1,c2]
theorem yrf {ps:List PV}{k:Nat}(T:txB t=true) (e:mLs (mP (ybG t) 9) (ybG t) 0=some (ps,k)) (hk:decide (k<(ybG t).length)=true):yhf [.str t] h=none/\∃ k,ydU [.str t] h=some (("NoDeed":Str),h++[rdr (ybG t) k]):=by
 obtain ⟨hl,O⟩:=ytF (h:=h) T
 have c1:=(yhD O 45 45 0 (by omega) (by omega)).yes e
 have c2:=yee (k:=k) O (List.getElem?_eq_getElem (of_decide_eq_true hk))
 simp only [ynI] at c1 c2
 unfold yhf ydU
 rw [yN,ycA]
 show ob (yw _ _ [.val (.str t),.no,.no] h) fnK=none/\∃ k,yrE _ _ [.val (.str t),.no,.no] h=_
 refine ⟨?_,k,?_⟩
 .simp_all? only [ycm,yeU,ygT hl,yjk,ydx,mN (m:="list_taken") (by rfl'),c1,mN (m:="ahead") (by rfl'),c2]
  rw [if_pos (by rfl)]
 .simp_all? only [ycm,ygT hl,yjk,ydx,yjh,yqY,yik,yji,yjT,yjU,ylI,ynF,mN (m:="list_taken") (by rfl'),mN (m:="ahead") (by rfl'),c1,c2]
  rw [if_pos (by rfl)]
end
def Pw (d:Nat) (w:List Str) (v:PV):Prop:=∀ (ws:List Str) (k:Nat) (rest:List Str),ws.drop k=w++rest->mP ws d k=some (v,k+w.length)
theorem ydF {ws:List Str}{k:Nat}{w:Str}{r:List Str}(e:ws.drop k=w::r):ws[k]?=some w/\ws.drop (k+1)=r:=by
 have hk:k<ws.length:=Classical.byContradiction fun z=>by rw [List.drop_of_length_le (by omega)] at e;cases e
 rw [List.drop_eq_getElem_cons hk] at e
 cases e
 exact ⟨List.getElem?_eq_getElem hk,rfl⟩
theorem yin {ws:List Str}{k:Nat}{a b:List Str}(e:ws.drop k=a++b):ws.drop (k+a.length)=b:=by
 rw [<- List.drop_drop,e,List.drop_left]
section
variable {ws:List Str}{k d:Nat}{s s1 s2 s3 w:Str}{n:Int}{r:List Str}
theorem ygU (e:ws.drop k=s::r) (h:ycT s=true):mSl ws k=some (s,k+1):=by
 unfold mSl
 rw [(ydF e).1]
 exact if_pos h
theorem yxr (e:ws.drop k=s::r) (h:yfH s=true):mNm ws k=some (s,k+1):=by
 unfold mNm
 rw [(ydF e).1]
 exact if_pos h
theorem yEg (e:ws.drop k=w::r) (h:ylJ w=some n):mNo ws k=some (n,k+1):=by
 unfold mNo
 rw [(ydF e).1]
 simp only [h]
theorem yjV (e:ws.drop k=w::r):mPa ws w k=some ((),k+1):=by
 unfold mPa
 rw [(ydF e).1]
 exact if_pos rfl
theorem yoP {tl:List Str}{v:PV}(hw:w≠"if"/\w≠"either"/\w≠"try") (h:∀ (ws:List Str) (k:Nat) (rest:List Str),ws.drop k=tl++rest->mPl ws w k=some (v,k+tl.length)):Pw (d+1) (w::tl) v:=by
 intro ws k rest e
 obtain ⟨e1,e2⟩:=ydF e
 unfold mP
 rw [e1]
 dsimp only
 rw [if_neg hw.1,if_neg hw.2.1,if_neg hw.2.2,h ws (k+1) rest e2]
 rw [length_cons,show k+1+tl.length=k+(tl.length+1) by omega]
theorem yEh (h1:ycT s=true) (h2:ylJ w=some n):Pw (d+1) ["let",s,w] (.ins 1 ["slot","number"] [.str s,.int n]):=yoP (by rfl') fun ws k rest e=>by
 have e2:=(ydF e).2
 unfold mPl yoM
 rw [if_pos rfl,ygU e h1]
 dsimp only
 rw [yEg e2 h2]
 rfl
theorem yAU (h1:ycT s=true) (h2:ycT s1=true):Pw (d+1) ["take",s,s1] (.ins 3 ["slot","place"] [.str s,.str s1]):=yoP (by rfl') fun ws k rest e=>by
 have e2:=(ydF e).2
 unfold mPl yjj
 rw [if_neg (by rfl'),if_pos rfl,ygU e h1]
 dsimp only
 rw [ygU e2 h2]
 rfl
theorem yEi (h1:ycT s=true) (h2:ycT s1=true):Pw (d+1) ["put",s,s1] (.ins 4 ["place","slot"] [.str s,.str s1]):=yoP (by rfl') fun ws k rest e=>by
 have e2:=(ydF e).2
 unfold mPl yoN
 rw [if_neg (by rfl'),if_neg (by rfl'),if_pos rfl,ygU e h1]
 dsimp only
 rw [ygU e2 h2]
 rfl
theorem yxs (h1:yfH s=true) (h2:ycT s1=true):Pw (d+1) ["throw",s,s1] (.ins 8 ["name","slot"] [.str s,.str s1]):=yoP (by rfl') fun ws k rest e=>by
 have e2:=(ydF e).2
 unfold mPl ygS
 rw [if_neg (by rfl'),if_neg (by rfl'),if_neg (by rfl'),if_pos rfl,yxr e h1]
 dsimp only
 rw [ygU e2 h2]
 rfl
theorem yAV:Pw (d+1) ["wait"] (.ins 9 [] []):=yoP (by rfl') fun ws k rest e=>by
 unfold mPl
 rw [if_neg (by rfl'),if_neg (by rfl'),if_neg (by rfl'),if_neg (by rfl'),if_pos rfl]
 rfl
theorem ytH (hw:w∈(["plus","minus","times","less","same"]:List Str)) (h1:ycT s1=true) (h2:ycT s2=true) (h3:ycT s3=true):Pw (d+1) [w,s1,s2,s3] (.ins 2 ["word","slot","one","other"] [.str w,.str s1,.str s2,.str s3]):=by
 have q:∀ w∈(["plus","minus","times","less","same"]:List Str),(w≠"if"/\w≠"either"/\w≠"try")/\w≠"let"/\w≠"take"/\w≠"put"/\w≠"throw"/\w≠"wait"/\ymB w=true:=by rfl'
 obtain ⟨q0,q1,q2,q3,q4,q5,q6⟩:=q w hw
 refine yoP q0 fun ws k rest e=>?_
 have e2:=(ydF e).2
 have e3:=(ydF e2).2
 unfold mPl ydX
 rw [if_neg q1,if_neg q2,if_neg q3,if_neg q4,if_neg q5,if_pos q6,ygU e h1]
 dsimp only
 rw [ygU e2 h2]
 dsimp only
 rw [ygU e3 h3]
 rfl
end
def End (rest:List Str):Prop:=rest=[]\/∃ r,rest=(")":Str)::r
def Lw (d:Nat) (w:List Str) (vs:List PV):Prop:=∀ (ws:List Str) (k:Nat) (rest:List Str),End rest->ws.drop k=w++rest->mLs (mP ws d) ws k=some (vs,k+w.length)
def jT:List (List Str×PV)->List Str
 | []=>[]
 | p::l=>(";":Str)::(p.1++jT l)
def jW:List (List Str×PV)->List Str
 | []=>[]
 | p::l=>p.1++jT l
def Prt (d:Nat) (p:List Str×PV):Prop:=Pw d p.1 p.2/\∃ x t,p.1=x::t/\x≠(")":Str)
section
variable {d:Nat}{ws:List Str}
theorem yAW {k:Nat}{rest:List Str}(hE:End rest) (e:ws.drop k=rest):ws[k]?≠some (";":Str):=by
 rcases hE with rfl|⟨r,rfl⟩
 .rw [getElem?_eq_none (List.drop_eq_nil_iff.mp e)]
  exact fun z=>by cases z
 .rw [(ydF e).1]
  exact fun z=>absurd (Option.some.inj z) (by rfl')
theorem yFA {rest:List Str}(hE:End rest):∀ (l:List (List Str×PV)) (f k:Nat) (acc:List PV),(∀ p∈l,Prt d p)->l.length<f->ws.drop k=jT l++rest->mLp (mP ws d) ws f acc k=some (acc++l.map (·.2),k+(jT l).length)
 | [],f+1,k,acc,_,_,e=>by
  unfold mLp
  rw [if_neg (yAW hE e)]
  simp [jT]
 | p::l,f+1,k,acc,hp,hf,e=>by
  have e:ws.drop k=(";":Str)::(p.1++(jT l++rest)):=by rw [e];simp [jT]
  obtain ⟨e1,e2⟩:=ydF e
  have q:=(hp p mem_cons_self).1 ws (k+1) _ e2
  unfold mLp
  rw [if_pos e1,q]
  dsimp only
  rw [yFA hE l f (k+1+p.1.length) (acc++[p.2]) (fun q hq=>hp q (mem_cons_of_mem _ hq)) (by simp at hf;omega) (yin e2)]
  simp only [map_cons,append_assoc,List.singleton_append,jT,length_cons,length_append]
  rw [show k+1+p.1.length+(jT l).length=k+(p.1.length+(jT l).length+1) by omega]
theorem yAX:Lw d [] []:=by
 intro ws k rest hE e
 have e:ws.drop k=rest:=e
 unfold mLs
 rcases hE with rfl|⟨r,rfl⟩
 .rw [getElem?_eq_none (List.drop_eq_nil_iff.mp e)]
  rfl
 .rw [(ydF e).1]
  exact if_pos rfl
theorem yEj {l:List (List Str×PV)}(hp:∀ p∈l,Prt d p) (hl:l.length<=900):Lw d (jW l) (l.map (·.2)):=by
 cases l with
 | nil=>exact yAX
 | cons p l =>
  intro ws k rest hE e
  obtain ⟨q1,x,t,q2,q3⟩:=hp p mem_cons_self
  have e:ws.drop k=p.1++(jT l++rest):=by rw [e];simp [jW]
  have e1:=e
  rw [q2] at e1
  unfold mLs
  rw [(ydF e1).1]
  dsimp only
  rw [if_neg q3,q1 ws k _ e]
  dsimp only
  rw [yFA hE l 1000 _ [p.2] (fun q hq=>hp q (mem_cons_of_mem _ hq)) (by simp at hl;omega) (yin e)]
  simp only [jW,map_cons,List.singleton_append,length_append]
  rw [Nat.add_assoc]
theorem ytI {k:Nat}{w rest:List Str}{vs:List PV}(h:Lw d w vs) (e:ws.drop k=("(":Str)::(w++(")":Str)::rest)):mSd (mP ws d) ws k=some (vs,k+1+w.length+1):=by
 have e1:=(ydF e).2
 unfold mSd
 rw [yjV e]
 dsimp only
 rw [h ws (k+1) _ (.inr ⟨rest,rfl⟩) e1]
 dsimp only
 rw [yjV (yin e1)]
noncomputable def wIf (s:Str) (a b:List Str):List Str:=("if":Str)::s::("(":Str)::(a++(")":Str)::("else":Str)::("(":Str)::(b++[(")":Str)]))
def wEi (a b:List Str):List Str:=("either":Str)::("(":Str)::(a++(")":Str)::("or":Str)::("(":Str)::(b++[(")":Str)]))
noncomputable def wTr (nm s:Str) (a b:List Str):List Str:=("try":Str)::("(":Str)::(a++(")":Str)::("on":Str)::nm::s::("(":Str)::(b++[(")":Str)]))
variable {s nm:Str}{a b:List Str}{va vb:List PV}
theorem yGs (hs:ycT s=true) (ha:Lw d a va) (hb:Lw d b vb):Prt (d+1) (wIf s a b,.ins 5 ["slot","parts","others"] [.str s,.lst va,.lst vb]):=by
 refine ⟨fun ws k rest e=>?_,"if",_,rfl,by rfl'⟩
 have e:ws.drop k=("if":Str)::s::("(":Str)::(a++(")":Str)::("else":Str)::("(":Str)::(b++(")":Str)::rest)):=by rw [e];simp [wIf]
 obtain ⟨e1,e2⟩:=ydF e
 have e3:=(ydF e2).2
 have s1:=ytI ha e3
 have e4:ws.drop (k+1+1+1+a.length+1)=("else":Str)::("(":Str)::(b++(")":Str)::rest):=(ydF (yin (ydF e3).2)).2
 have s2:=ytI hb (ydF e4).2
 unfold mP
 rw [e1]
 dsimp only
 rw [if_pos rfl]
 unfold yrH
 rw [ygU e2 hs]
 dsimp only
 rw [s1]
 dsimp only
 rw [yjV e4]
 dsimp only
 rw [s2]
 simp [wIf]
 omega
theorem ytJ (ha:Lw d a va) (hb:Lw d b vb):Prt (d+1) (wEi a b,.ins 6 ["parts","others"] [.lst va,.lst vb]):=by
 refine ⟨fun ws k rest e=>?_,"either",_,rfl,by rfl'⟩
 have e:ws.drop k=("either":Str)::("(":Str)::(a++(")":Str)::("or":Str)::("(":Str)::(b++(")":Str)::rest)):=by rw [e];simp [wEi]
 obtain ⟨e1,e2⟩:=ydF e
 have s1:=ytI ha e2
 have e4:ws.drop (k+1+1+a.length+1)=("or":Str)::("(":Str)::(b++(")":Str)::rest):=(ydF (yin (ydF e2).2)).2
 have s2:=ytI hb (ydF e4).2
 unfold mP
 rw [e1]
 dsimp only
 rw [if_neg (by rfl'),if_pos rfl]
 unfold ydj
 rw [s1]
 dsimp only
 rw [yjV e4]
 dsimp only
 rw [s2]
 simp [wEi]
 omega
theorem yEk (hn:yfH nm=true) (hs:ycT s=true) (ha:Lw d a va) (hb:Lw d b vb):Prt (d+1) (wTr nm s a b,.ins 7 ["parts","name","slot","others"] [.lst va,.str nm,.str s,.lst vb]):=by
 refine ⟨fun ws k rest e=>?_,"try",_,rfl,by rfl'⟩
 have e:ws.drop k=("try":Str)::("(":Str)::(a++(")":Str)::("on":Str)::nm::s::("(":Str)::(b++(")":Str)::rest)):=by rw [e];simp [wTr]
 obtain ⟨e1,e2⟩:=ydF e
 have s1:=ytI ha e2
 have e4:ws.drop (k+1+1+a.length+1)=("on":Str)::nm::s::("(":Str)::(b++(")":Str)::rest):=(ydF (yin (ydF e2).2)).2
 have e5:=(ydF e4).2
 have e6:=(ydF e5).2
 have s2:=ytI hb (ydF e6).2
 unfold mP
 rw [e1]
 dsimp only
 rw [if_neg (by rfl'),if_neg (by rfl'),if_pos rfl]
 unfold yiB
 rw [s1]
 dsimp only
 rw [yjV e4]
 dsimp only
 rw [yxr e5 hn]
 dsimp only
 rw [ygU e6 hs]
 dsimp only
 rw [s2]
 simp [wTr]
 omega
end
theorem ytK {c:Nat}(h1:48<=c) (h2:c<=57):c∈("0123456789":Str).cps.toList:=by
 rw [show ("0123456789":Str).cps.toList=(List.range 10).map (· + 48) by rfl']
 exact List.mem_map.mpr ⟨c-48,List.mem_range.mpr (by omega),by omega⟩
theorem yEl {n:Int}(h0:0<=n) (h1:n<B64):ylJ (toString n:String)=some n:=by
 obtain ⟨d1,d2,d3,d4,d5⟩:=yqO n.toNat
 have f:=yqR h0 h1
 have e:=yqP h0
 have hz:n=0->Str.ofString (toString n) = "0":=fun z=>by subst z;rfl'
 have hh:(ytt n.toNat).headD 0=48->n=0:=fun q=>Classical.byContradiction fun z=>d4 (by omega) (by
  cases q2:ytt n.toNat with
  | nil=>exact absurd q2 d1
  | cons a l=>rw [q2] at q;simpa using q)
 unfold ylJ
 generalize hs:Str.ofString (toString n)=z at *
 have ml:yiA z "0123456789" = true:=List.all_eq_true.mpr fun c hc=>decide_eq_true (ytK (d2 c (e ▸ hc)).1 (d2 c (e ▸ hc)).2)
 have f1:=f.2.1
 have f2:=f.2.2
 rw [if_pos (by simp [ml,f2];omega),e,if_neg (fun q=>q.2 (hz (hh q.1))),d3,Int.toNat_of_nonneg h0,if_pos h1]
theorem yrg {c:Nat}(h1:97<=c) (h2:c<=104):c∈("abcdefgh":Str).cps.toList:=by
 rw [show ("abcdefgh":Str).cps.toList=(List.range 8).map (· + 97) by rfl']
 exact List.mem_map.mpr ⟨c-97,List.mem_range.mpr (by omega),by omega⟩
theorem ymD {c:Nat}(h1:97<=c) (h2:c<=122):c∈("abcdefghijklmnopqrstuvwxyz":Str).cps.toList:=by
 rw [show ("abcdefghijklmnopqrstuvwxyz":Str).cps.toList=(List.range 26).map (· + 97) by rfl']
 exact List.mem_map.mpr ⟨c-97,List.mem_range.mpr (by omega),by omega⟩
theorem yer {s:Str}(h:ydn s):ycT s=true:=by
 obtain ⟨c,h1,h2,rfl⟩:=h
 unfold ycT yiA
 simp only [and_eq_true,decide_eq_true_eq,List.all_eq_true]
 refine ⟨rfl,fun x hx=>?_⟩
 have:x=c:=by simpa using hx
 exact this ▸ yrg h1 h2
theorem yrh {s:Str}(h:yiZ s):yfH s=true:=by
 unfold yfH yiA
 simp only [and_eq_true,decide_eq_true_eq,List.all_eq_true]
 exact ⟨⟨h.1,h.2.1⟩,fun c hc=>ymD (h.2.2 c hc).1 (h.2.2 c hc).2⟩
theorem yAY {w:Str}(h:ylh w):w∈(["plus","minus","times","less","same"]:List Str):=by
 rcases h with rfl|rfl|rfl|rfl|rfl<;>simp
def prs (ts:List T):List (List Str×PV):=ts.map fun t=>(wdT t,ydN t)
theorem yuG:∀ ts:List T,jT (prs ts)=wdR ts
 | []=>rfl
 | t::r=>by
  show (";":Str)::(wdT t++jT (prs r))=(";":Str)::(wdT t++wdR r)
  rw [yuG r]
theorem yAZ:∀ ts:List T,jW (prs ts)=wdL ts
 | []=>rfl
 | t::r=>by
  show wdT t++jT (prs r)=wdT t++wdR r
  rw [yuG r]
theorem yEm (ts:List T):(prs ts).map (·.2)=ybN ts:=by
 unfold prs
 rw [map_map,yen]
 rfl
theorem ytL {x:Int}{d:Nat}(h0:0<=x) (h:x+1<=(d:Int)):∃ e,d=e+1:=⟨d-1,by omega⟩
mutual
theorem yri:∀ {t:T}{d:Nat},gdT t->ycM t<=800->rdT t+1<=(d:Int)->Prt d (wdT t,ydN t)
 | .base,_,g,_,_=>g.elim
 | .let_ r n,d,g,_,hd=>by
  obtain ⟨e,rfl⟩:=ytL (yiy _) hd
  exact ⟨yEh (yer g.1) (yEl g.2.1 g.2.2),"let",_,rfl,by rfl'⟩
 | .reckon w r s t,d,g,_,hd=>by
  obtain ⟨e,rfl⟩:=ytL (yiy _) hd
  have hw:=yAY g.1
  exact ⟨ytH hw (yer g.2.1) (yer g.2.2.1) (yer g.2.2.2),w,_,rfl,(show ∀ w∈(["plus","minus","times","less","same"]:List Str),w≠")" by rfl') w hw⟩
 | .take r s,d,g,_,hd=>by
  obtain ⟨e,rfl⟩:=ytL (yiy _) hd
  exact ⟨yAU (yer g.1) (yer g.2),"take",_,rfl,by rfl'⟩
 | .put r s,d,g,_,hd=>by
  obtain ⟨e,rfl⟩:=ytL (yiy _) hd
  exact ⟨yEi (yer g.1) (yer g.2),"put",_,rfl,by rfl'⟩
 | .throw r s,d,g,_,hd=>by
  obtain ⟨e,rfl⟩:=ytL (yiy _) hd
  exact ⟨yxs (yrh g.1) (yer g.2),"throw",_,rfl,by rfl'⟩
 | .wait,d,g,_,hd=>by
  obtain ⟨e,rfl⟩:=ytL (yiy _) hd
  exact ⟨yAV,"wait",_,rfl,by rfl'⟩
 | .if_ r a b,d,g,hl,hd=>by
  obtain ⟨e,rfl⟩:=ytL (yiy _) hd
  have hd:max 0 (max (1+rdL a) (1+rdL b))+1<=((e+1:Nat):Int):=hd
  have la:=yT g.2.1
  have lb:=yT g.2.2
  have hl:2+(yt a).sum+(yt b).sum<=800:=hl
  have qa:=yfq (d:=e) g.2.1 (by omega) (by omega)
  have qb:=yfq (d:=e) g.2.2 (by omega) (by omega)
  have q:=yGs (yer g.1) qa qb
  refine cast (congrArg (fun w=>Prt (e+1) (w,_)) ?_) q
  show ("if":Str)::r::("(":Str)::_=("if":Str)::r::((("(":Str)::(wdL a++[(")":Str)]))++("else":Str)::(("(":Str)::(wdL b++[(")":Str)])))
  simp
 | .either a b,d,g,hl,hd=>by
  obtain ⟨e,rfl⟩:=ytL (yiy _) hd
  have hd:max 0 (max (1+rdL a) (1+rdL b))+1<=((e+1:Nat):Int):=hd
  have la:=yT g.1
  have lb:=yT g.2
  have hl:3+(yt a).sum+(yt b).sum<=800:=hl
  have qa:=yfq (d:=e) g.1 (by omega) (by omega)
  have qb:=yfq (d:=e) g.2 (by omega) (by omega)
  have q:=ytJ qa qb
  refine cast (congrArg (fun w=>Prt (e+1) (w,_)) ?_) q
  show ("either":Str)::("(":Str)::_=("either":Str)::((("(":Str)::(wdL a++[(")":Str)]))++("or":Str)::(("(":Str)::(wdL b++[(")":Str)])))
  simp
 | .try_ a nm r b,d,g,hl,hd=>by
  obtain ⟨e,rfl⟩:=ytL (yiy _) hd
  have hd:max 0 (max (1+rdL a) (1+rdL b))+1<=((e+1:Nat):Int):=hd
  have la:=yT g.2.2.1
  have lb:=yT g.2.2.2
  have hl:3+(yt a).sum+(yt b).sum<=800:=hl
  have qa:=yfq (d:=e) g.2.2.1 (by omega) (by omega)
  have qb:=yfq (d:=e) g.2.2.2 (by omega) (by omega)
  have q:=yEk (yrh g.1) (yer g.2.1) qa qb
  refine cast (congrArg (fun w=>Prt (e+1) (w,_)) ?_) q
  show ("try":Str)::("(":Str)::_=("try":Str)::((("(":Str)::(wdL a++[(")":Str)]))++("on":Str)::nm::r::(("(":Str)::(wdL b++[(")":Str)])))
  simp
theorem yuH:∀ {ts:List T}{d:Nat},gdL ts->(yt ts).sum<=800->rdL ts+1<=(d:Int)->∀ p∈prs ts,Prt d p
 | [],_,_,_,_,p,hp=>by cases hp
 | t::r,d,g,hl,hd,p,hp=>by
  have hd:max (rdT t) (rdL r)+1<=(d:Int):=hd
  have hl:ycM t+(yt r).sum<=800:=hl
  have l1:=yhC g.1
  have l2:=yT g.2
  rcases mem_cons.mp hp with rfl|hp
  .exact yri g.1 (by omega) (by omega)
  .exact yuH g.2 (by omega) (by omega) p hp
theorem yfq:∀ {ts:List T}{d:Nat},gdL ts->(yt ts).sum<=800->rdL ts+1<=(d:Int)->Lw d (wdL ts) (ybN ts)
 | ts,d,g,hl,hd=>by
  have:=yT g
  rw [<- yAZ,<- yEm]
  exact yEj (yuH g hl hd) (by unfold prs;rw [length_map];omega)
end
inductive Sy where
 | L|M|P|S|N|U|op|cl|el|or_|on_
 deriving DecidableEq
open Sy
def psK (w:Str):Option (List Sy) :=
 if w = "if" then some [S,op,L,cl,el,op,L,cl] else if w = "either" then some [op,L,cl,or_,op,L,cl] else if w = "try" then some [op,L,cl,on_,N,S,op,L,cl] else if w = "let" then some [S,U] else if w = "take" then some [S,S] else if w = "put" then some [S,S] else if w = "throw" then some [N,S] else if w = "wait" then some [] else if ymB w=true then some [S,S,S] else none
def ps (w:Str) (r:List Sy):Option (List Sy):=match psK w with|some p=>some (p++r)|none=>none
def clo:List Sy->Option (List Sy)
 | cl::r=>some r
 | _=>none
def st:List Sy->Str->Option (List Sy)
 | L::r,w=>if w = ")" then clo r else ps w (M::r)
 | M::r,w=>if w = ";" then some (P::M::r) else if w = ")" then clo r else none
 | P::r,w=>ps w r
 | S::r,w=>if ycT w=true then some r else none
 | N::r,w=>if yfH w=true then some r else none
 | U::r,w=>if (ylJ w).isSome=true then some r else none
 | op::r,w=>if w = "(" then some r else none
 | el::r,w=>if w = "else" then some r else none
 | or_::r,w=>if w = "or" then some r else none
 | on_::r,w=>if w = "on" then some r else none
 | _,_=>none
def go:List Sy->List Str->Option (List Sy)
 | σ,[]=>some σ
 | σ,w::ws=>match st σ w with|some σ'=>go σ' ws|none=>none
def fin (σ:List Sy):Prop:=σ=[L]\/σ=[M]
def Acc (σ:List Sy) (ws:List Str):Prop:=∃ τ,go σ ws=some τ/\fin τ
theorem ynJ:∀ (a b:List Str) (σ:List Sy),go σ (a++b)=match go σ a with|some τ=>go τ b|none=>none
 | [],_,_=>rfl
 | w::a,b,σ=>by
  show (match st σ w with|some σ'=>go σ' (a++b)|none=>none)=(match (match st σ w with|some σ'=>go σ' a|none=>none) with|some τ=>go τ b|none=>none)
  cases st σ w with
  | none=>rfl
  | some σ'=>exact ynJ a b σ'
theorem yEn {σ τ:List Sy}{w:Str}{ws:List Str}(e:st σ w=some τ):go σ (w::ws)=go τ ws:=by
 show (match st σ w with|some σ'=>go σ' ws|none=>none)=_
 rw [e]
theorem yFB {σ:List Sy}{w:Str}{ws:List Str}(e:st σ w=none):go σ (w::ws)=none:=by
 show (match st σ w with|some σ'=>go σ' ws|none=>none)=_
 rw [e]
def Rn (ws:List Str) (k k1:Nat) (p q:List Sy):Prop:=∃ seg,ws.drop k=seg++ws.drop k1/\∀ r,go (p++r) seg=some (q++r)
section
variable {ws:List Str}{k k1 k2:Nat}{p q:List Sy}{mp:Nat->Option (PV×Nat)}
theorem Rn.seq (a:Rn ws k k1 p []) (b:Rn ws k1 k2 q []):Rn ws k k2 (p++q) []:=by
 obtain ⟨s1,e1,g1⟩:=a
 obtain ⟨s2,e2,g2⟩:=b
 refine ⟨s1++s2,by rw [e1,e2,append_assoc],fun r=>?_⟩
 rw [ynJ,append_assoc,g1]
 exact g2 r
theorem Rn.then_ {p1:List Sy}(a:Rn ws k k1 p p1) (b:Rn ws k1 k2 p1 q):Rn ws k k2 p q:=by
 obtain ⟨s1,e1,g1⟩:=a
 obtain ⟨s2,e2,g2⟩:=b
 refine ⟨s1++s2,by rw [e1,e2,append_assoc],fun r=>?_⟩
 rw [ynJ,g1]
 exact g2 r
theorem yxT {w:Str}(e:ws[k]?=some w) (h:∀ r,st (p++r) w=some (q++r)):Rn ws k (k+1) p q:=by
 obtain ⟨hk,e1⟩:=List.getElem?_eq_some_iff.mp e
 refine ⟨[w],by rw [List.drop_eq_getElem_cons hk,e1];rfl,fun r=>?_⟩
 rw [yEn (h r)]
 rfl
theorem yio {s:Str}(e:mSl ws k=some (s,k1)):Rn ws k k1 [S] []:=by
 unfold mSl at e
 split at e
 .rename_i w ew
  split at e
  .rename_i hs
   cases e
   exact yxT ew fun r=>if_pos hs
  .cases e
 .cases e
theorem yBa {s:Str}(e:mNm ws k=some (s,k1)):Rn ws k k1 [N] []:=by
 unfold mNm at e
 split at e
 .rename_i w ew
  split at e
  .rename_i hs
   cases e
   exact yxT ew fun r=>if_pos hs
  .cases e
 .cases e
theorem yEo {n:Int}(e:mNo ws k=some (n,k1)):Rn ws k k1 [U] []:=by
 unfold mNo at e
 split at e
 .rename_i w ew
  split at e
  .rename_i n' hn
   cases e
   exact yxT ew fun r=>if_pos (by rw [hn];rfl)
  .cases e
 .cases e
theorem yoQ {w:Str}{u:Unit}(h:∀ r,st (p++r) w=some (q++r)) (e:mPa ws w k=some (u,k1)):Rn ws k k1 p q:=by
 unfold mPa at e
 split at e
 .rename_i x ex
  split at e
  .rename_i hs
   cases e
   rw [hs] at ex
   exact yxT ex h
  .cases e
 .cases e
end
open Sy
section
variable {ws:List Str}{k k1 k2:Nat}{p q:List Sy}{mp:Nat->Option (PV×Nat)}{v:PV}
theorem yxt:¬ ((")":Str) = ";"):=by rfl'
theorem sL {r:List Sy}{w:Str}:st (L::r) w=if w = ")" then clo r else ps w (M::r):=rfl
theorem sM {r:List Sy}{w:Str}:st (M::r) w=if w = ";" then some (P::M::r) else if w = ")" then clo r else none:=rfl
theorem sP {r:List Sy}{w:Str}:st (P::r) w=ps w r:=rfl
theorem sS {r:List Sy}{w:Str}:st (S::r) w=if ycT w=true then some r else none:=rfl
theorem sN {r:List Sy}{w:Str}:st (N::r) w=if yfH w=true then some r else none:=rfl
theorem sU {r:List Sy}{w:Str}:st (U::r) w=if (ylJ w).isSome=true then some r else none:=rfl
theorem sO {r:List Sy}{w:Str}:st (op::r) w=if w = "(" then some r else none:=rfl
theorem sE {r:List Sy}{w:Str}:st (el::r) w=if w = "else" then some r else none:=rfl
theorem sR {r:List Sy}{w:Str}:st (or_::r) w=if w = "or" then some r else none:=rfl
theorem sA {r:List Sy}{w:Str}:st (on_::r) w=if w = "on" then some r else none:=rfl
theorem yEp {r:List Sy}:st (M::r) ";" = some (P::M::r):=by rw [sM,if_pos rfl]
theorem yGt {r:List Sy}:st (M::cl::r) ")" = some r:=by
 rw [sM,if_neg yxt,if_pos rfl]
 rfl
theorem yFC {r:List Sy}:st (L::cl::r) ")" = some r:=by
 rw [sL,if_pos rfl]
 rfl
def PR (ws:List Str) (mp:Nat->Option (PV×Nat)):Prop:=∀ k v k1,mp k=some (v,k1)->Rn ws k k1 [P] []
theorem yBb (h:PR ws mp):∀ (f:Nat) (acc vs:List PV) (k k1:Nat),mLp mp ws f acc k=some (vs,k1)->Rn ws k k1 [M] [M]
 | 0,_,_,_,_,e=>by cases e
 | f+1,acc,vs,k,k1,e=>by
  unfold mLp at e
  split at e
  .rename_i es
   split at e
   .cases e
   .rename_i v k2 ev
    have a:Rn ws k (k+1) [M] [P,M]:=yxT es fun r=>yEp
    obtain ⟨s2,e2,g2⟩:=h _ _ _ ev
    have b:Rn ws (k+1) k2 [P,M] [M]:=⟨s2,e2,fun r=>g2 (M::r)⟩
    exact a.then_ (b.then_ (yBb h f _ _ _ _ e))
  .cases e
   exact ⟨[],rfl,fun r=>rfl⟩
theorem yBc (h:PR ws mp) {vs:List PV}(e:mLs mp ws k=some (vs,k1)):Rn ws k k1 [L] [L]\/Rn ws k k1 [L] [M]:=by
 unfold mLs at e
 split at e
 .cases e
  exact .inl ⟨[],rfl,fun r=>rfl⟩
 .rename_i w ew
  split at e
  .cases e
   exact .inl ⟨[],rfl,fun r=>rfl⟩
  .rename_i hw
   split at e
   .cases e
   .rename_i v k2 ev
    obtain ⟨s2,e2,g2⟩:=h _ _ _ ev
    have b:Rn ws k k2 [L] [M]:=by
     refine ⟨s2,e2,fun r=>?_⟩
     have g:=g2 (M::r)
     cases s2 with
     | nil=>cases g
     | cons x s2 =>
      have ex:x=w:=by
       obtain ⟨hk,e1⟩:=List.getElem?_eq_some_iff.mp ew
       rw [List.drop_eq_getElem_cons hk] at e2
       injection e2 with e3 _
       rw [<- e3,e1]
      subst ex
      have:st ([L]++r) x=st ([P]++M::r) x:=if_neg hw
      show (match st ([L]++r) x with|some σ'=>go σ' s2|none=>none)=_
      rw [this]
      exact g
    exact .inr (b.then_ (yBb h _ _ _ _ _ e))
theorem yoR (h:PR ws mp) {vs:List PV}(e:mSd mp ws k=some (vs,k1)):Rn ws k k1 [op,L,cl] []:=by
 unfold mSd at e
 split at e
 .cases e
 .rename_i u k2 e1
  split at e
  .cases e
  .rename_i vs2 k3 e2
   split at e
   .cases e
   .rename_i u4 k4 e3
    cases e
    have a:Rn ws k k2 [op,L,cl] [L,cl]:=yoQ (fun r=>if_pos rfl) e1
    rcases yBc h e2 with ⟨s,es,g⟩|⟨s,es,g⟩
    .have b:Rn ws k2 k3 [L,cl] [L,cl]:=⟨s,es,fun r=>g (cl::r)⟩
     exact a.then_ (b.then_ (yoQ (fun r=>yFC) e3))
    .have b:Rn ws k2 k3 [L,cl] [M,cl]:=⟨s,es,fun r=>g (cl::r)⟩
     exact a.then_ (b.then_ (yoQ (fun r=>yGt) e3))
theorem ydG {w:Str}(ew:ws[k]?=some w) (hp:psK w=some p) (a:Rn ws (k+1) k1 p []):Rn ws k k1 [P] [] :=
 (yxT (q:=p) ew fun r=>by
  show (match psK w with|some p=>some (p++r)|none=>none)=_
  rw [hp]).then_ a
theorem yEq (h:PR ws mp) (e:yrH mp ws k=some (v,k1)):Rn ws k k1 [S,op,L,cl,el,op,L,cl] []:=by
 unfold yrH at e
 split at e
 .cases e
 .rename_i e1
  split at e
  .cases e
  .rename_i e2
   split at e
   .cases e
   .rename_i e3
    split at e
    .cases e
    .rename_i e4
     cases e
     exact (yio e1).seq ((yoR h e2).seq ((yoQ (p:=[el]) (q:=[]) (fun r=>if_pos rfl) e3).seq (yoR h e4)))
theorem yEr (h:PR ws mp) (e:ydj mp ws k=some (v,k1)):Rn ws k k1 [op,L,cl,or_,op,L,cl] []:=by
 unfold ydj at e
 split at e
 .cases e
 .rename_i e1
  split at e
  .cases e
  .rename_i e2
   split at e
   .cases e
   .rename_i e3
    cases e
    exact (yoR h e1).seq ((yoQ (p:=[or_]) (q:=[]) (fun r=>if_pos rfl) e2).seq (yoR h e3))
theorem yEs (h:PR ws mp) (e:yiB mp ws k=some (v,k1)):Rn ws k k1 [op,L,cl,on_,N,S,op,L,cl] []:=by
 unfold yiB at e
 split at e
 .cases e
 .rename_i e1
  split at e
  .cases e
  .rename_i e2
   split at e
   .cases e
   .rename_i e3
    split at e
    .cases e
    .rename_i e4
     split at e
     .cases e
     .rename_i e5
      cases e
      exact (yoR h e1).seq ((yoQ (p:=[on_]) (q:=[]) (fun r=>if_pos rfl) e2).seq ((yBa e3).seq ((yio e4).seq (yoR h e5))))
theorem yBd:∀ d:Nat,PR ws (mP ws d)
 | 0=>fun _ _ _ e=>by cases e
 | d+1=>fun k v k1 e=>by
  have ih:=yBd d
  unfold mP at e
  split at e
  .cases e
  .rename_i w ew
   split at e
   .rename_i hw
    subst hw
    exact ydG ew (if_pos rfl) (yEq ih e)
   .split at e
    .rename_i n1 hw
     subst hw
     exact ydG ew (by rfl') (yEr ih e)
    .split at e
     .rename_i n1 n2 hw
      subst hw
      exact ydG ew (by rfl') (yEs ih e)
     .rename_i n1 n2 n3
      unfold mPl at e
      split at e
      .rename_i hw
       subst hw
       unfold yoM at e
       split at e
       .cases e
       .rename_i e1
        split at e
        .cases e
        .rename_i e2
         cases e
         exact ydG ew (by rfl') ((yio e1).seq (yEo e2))
      .split at e
       .rename_i hw
        subst hw
        unfold yjj at e
        split at e
        .cases e
        .rename_i e1
         split at e
         .cases e
         .rename_i e2
          cases e
          exact ydG ew (by rfl') ((yio e1).seq (yio e2))
       .split at e
        .rename_i hw
         subst hw
         unfold yoN at e
         split at e
         .cases e
         .rename_i e1
          split at e
          .cases e
          .rename_i e2
           cases e
           exact ydG ew (by rfl') ((yio e1).seq (yio e2))
        .split at e
         .rename_i hw
          subst hw
          unfold ygS at e
          split at e
          .cases e
          .rename_i e1
           split at e
           .cases e
           .rename_i e2
            cases e
            exact ydG ew (by rfl') ((yBa e1).seq (yio e2))
         .split at e
          .rename_i hw
           subst hw
           cases e
           exact ydG (p:=[]) ew (by rfl') ⟨[],rfl,fun r=>rfl⟩
          .split at e
           .rename_i m1 m2 m3 m4 m5 hw
            unfold ydX at e
            split at e
            .cases e
            .rename_i e1
             split at e
             .cases e
             .rename_i e2
              split at e
              .cases e
              .rename_i e3
               cases e
               refine ydG ew (p:=[S,S,S]) ?_ ((yio e1).seq ((yio e2).seq (yio e3)))
               unfold psK
               rw [if_neg n1,if_neg n2,if_neg n3,if_neg m1,if_neg m2,if_neg m3,if_neg m4,if_neg m5,if_pos hw]
           .cases e
theorem yuI {d:Nat}{vs:List PV}(e:mLs (mP ws d) ws 0=some (vs,k)) (hk:ws.length<=k):Acc [L] ws:=by
 have:∀ {τ:List Sy},Rn ws 0 k [L] τ->go [L] ws=some τ:=fun {τ} ⟨s,es,g⟩=>by
  rw [List.drop_zero,List.drop_of_length_le hk,append_nil] at es
  have:=g []
  rw [append_nil,append_nil] at this
  rw [es]
  exact this
 rcases yBc (yBd d) e with a|a
 .exact ⟨_,this a,.inl rfl⟩
 .exact ⟨_,this a,.inr rfl⟩
end
open Sy
def SL8:List Str:=["a","b","c","d","e","f","g","h"]
theorem yBe {s:Str}(h:ycT s=true):s∈SL8:=by
 unfold ycT at h
 simp only [and_eq_true,decide_eq_true_eq] at h
 obtain ⟨c,rfl⟩:=yFv h.1
 have hc:c∈("abcdefgh":Str).cps.toList:=by
  have:=List.all_eq_true.mp h.2 c (by simp)
  exact of_decide_eq_true this
 rw [show ("abcdefgh":Str).cps.toList=[97,98,99,100,101,102,103,104] by rfl'] at hc
 simp only [mem_cons,not_mem_nil,or_false] at hc
 rcases hc with rfl|rfl|rfl|rfl|rfl|rfl|rfl|rfl<;>rfl'
theorem yrj {s:Str}(h:ycT s=true):psK s=none/\yfH s=true/\(ylJ s).isSome=false/\s≠";"/\s≠")"/\s≠"(":=(show ∀ s∈SL8,psK s=none/\yfH s=true/\(ylJ s).isSome=false/\s≠";"/\s≠")"/\s≠"(" by rfl') s (yBe h)
def pI:List Sy:=[S,op,L,cl,el,op,L,cl]
def pE:List Sy:=[op,L,cl,or_,op,L,cl]
def pT:List Sy:=[op,L,cl,on_,N,S,op,L,cl]
def W5:List Str:=["plus","minus","times","less","same"]
theorem yBf {w:Str}(h:ymB w=true):w∈W5:=by
 have h:(inV (.str w) (W5.map .str))=true:=h
 unfold W5 at h ⊢
 simp only [map_cons,map_nil,inV,eqV] at h
 have h:("plus":Str)=w\/("minus":Str)=w\/("times":Str)=w\/("less":Str)=w\/("same":Str)=w:=by simpa using h
 rcases h with rfl|rfl|rfl|rfl|rfl<;>simp
theorem yeL {w:Str}{p:List Sy}(e:psK w=some p):(w = "if"/\p=pI)\/(w = "either"/\p=pE)\/(w = "try"/\p=pT)\/(w = "let"/\p=[S,U])\/((w = "take"\/w = "put")/\p=[S,S])\/(w = "throw"/\p=[N,S])\/(w = "wait"/\p=[])\/(w∈W5/\p=[S,S,S]):=by
 unfold psK at e
 split at e
 .rename_i h;cases e;exact .inl ⟨h,rfl⟩
 .split at e
  .rename_i h;cases e;exact .inr (.inl ⟨h,rfl⟩)
  .split at e
   .rename_i h;cases e;exact .inr (.inr (.inl ⟨h,rfl⟩))
   .split at e
    .rename_i h;cases e;exact .inr (.inr (.inr (.inl ⟨h,rfl⟩)))
    .split at e
     .rename_i h;cases e;exact .inr (.inr (.inr (.inr (.inl ⟨.inl h,rfl⟩))))
     .split at e
      .rename_i h;cases e;exact .inr (.inr (.inr (.inr (.inl ⟨.inr h,rfl⟩))))
      .split at e
       .rename_i h;cases e;exact .inr (.inr (.inr (.inr (.inr (.inl ⟨h,rfl⟩)))))
       .split at e
        .rename_i h;cases e;exact .inr (.inr (.inr (.inr (.inr (.inr (.inl ⟨h,rfl⟩))))))
        .split at e
         .rename_i h;cases e;exact .inr (.inr (.inr (.inr (.inr (.inr (.inr ⟨yBf h,rfl⟩))))))
         .cases e
def PW:List Str:=["if","either","try","let","take","put","throw","wait","plus","minus","times","less","same"]
theorem yEt {w:Str}{p:List Sy}(e:psK w=some p):w∈PW:=by
 have q:∀ w∈W5,w∈PW:=by rfl'
 rcases yeL e with ⟨rfl,_⟩|⟨rfl,_⟩|⟨rfl,_⟩|⟨rfl,_⟩|⟨rfl|rfl,_⟩|⟨rfl,_⟩|⟨rfl,_⟩|⟨h,_⟩
 all_goals first|exact q _ h|rfl'
theorem yxU {w:Str}{p:List Sy}(e:psK w=some p):ycT w=false/\w≠";"/\w≠")"/\w≠"(":=(show ∀ w∈PW,ycT w=false/\w≠";"/\w≠")"/\w≠"(" by rfl') w (yEt e)
theorem yrk {w:Str}{r τ:List Sy}(e:ps w r=some τ):∃ p,psK w=some p/\τ=p++r:=by
 unfold ps at e
 split at e
 .rename_i p hp
  cases e
  exact ⟨p,hp,rfl⟩
 .cases e
def c1 (w:Str):Int:=if w = "(" then 1 else if w = ")" then -1 else 0
def cnt:List Str->Int
 | []=>0
 | w::r=>c1 w+cnt r
def f1:Sy->Int
 | cl=>1
 | op=>-1
 | _=>0
def ph:List Sy->Int
 | []=>0
 | x::r=>f1 x+ph r
theorem yFD {w:Str}(h1:w≠"(") (h2:w≠")"):c1 w=0:=by
 unfold c1
 rw [if_neg h1,if_neg h2]
theorem yuJ:∀ a b:List Sy,ph (a++b)=ph a+ph b
 | [],b=>by show ph b=0+ph b;omega
 | x::a,b=>by
  show f1 x+ph (a++b)=f1 x+ph a+ph b
  rw [yuJ a b];omega
theorem yBg {w:Str}{r τ:List Sy}(e:ps w r=some τ):ph τ=ph r+c1 w:=by
 obtain ⟨p,hp,rfl⟩:=yrk e
 have f:=yxU hp
 rw [yFD f.2.2.2 f.2.2.1,yuJ]
 have:ph p=0:=by
  rcases yeL hp with ⟨_,rfl⟩|⟨_,rfl⟩|⟨_,rfl⟩|⟨_,rfl⟩|⟨_,rfl⟩|⟨_,rfl⟩|⟨_,rfl⟩|⟨_,rfl⟩<;>decide
 omega
theorem yuK {r τ:List Sy}(e:clo r=some τ):ph τ=ph r-1:=by
 unfold clo at e
 split at e
 .cases e
  show ph τ=1+ph τ-1
  omega
 .cases e
theorem yEu {w:Str}{f:Str->Bool}(h:f w=true) (h1:f "(" = false) (h2:f ")" = false):c1 w=0:=yFD (fun z=>by rw [z,h1] at h;cases h) (fun z=>by rw [z,h2] at h;cases h)
theorem yBh:c1 ")" = -1:=by rfl'
theorem yEv {w:Str}:∀ {σ τ:List Sy},st σ w=some τ->ph τ=ph σ+c1 w
 | L::r,τ,e=>by
  rw [sL] at e
  show ph τ=0+ph r+c1 w
  split at e
  .rename_i h
   rw [h,yuK e,yBh];omega
  .rw [yBg e];show 0+ph r+c1 w=_;rfl
 | M::r,τ,e=>by
  rw [sM] at e
  show ph τ=0+ph r+c1 w
  split at e
  .rename_i h
   cases e
   rw [h,show c1 ";" = 0 by rfl']
   show 0+(0+ph r)=_
   omega
  .split at e
   .rename_i h
    rw [h,yuK e,yBh];omega
   .cases e
 | P::r,τ,e=>by
  rw [sP] at e
  show ph τ=0+ph r+c1 w
  rw [yBg e];omega
 | S::r,τ,e=>by
  rw [sS] at e
  show ph τ=0+ph r+c1 w
  split at e
  .rename_i h
   cases e
   rw [yEu h (by rfl') (by rfl')];omega
  .cases e
 | N::r,τ,e=>by
  rw [sN] at e
  show ph τ=0+ph r+c1 w
  split at e
  .rename_i h
   cases e
   rw [yEu h (by rfl') (by rfl')];omega
  .cases e
 | U::r,τ,e=>by
  rw [sU] at e
  show ph τ=0+ph r+c1 w
  split at e
  .rename_i h
   cases e
   rw [yEu (f:=fun w=>(ylJ w).isSome) h (by rfl') (by rfl')];omega
  .cases e
 | op::r,τ,e=>by
  rw [sO] at e
  show ph τ=-1+ph r+c1 w
  split at e
  .rename_i h
   cases e
   rw [h,show c1 "(" = 1 by rfl'];omega
  .cases e
 | el::r,τ,e=>by
  rw [sE] at e
  show ph τ=0+ph r+c1 w
  split at e
  .rename_i h
   cases e
   rw [h,show c1 "else" = 0 by rfl'];omega
  .cases e
 | or_::r,τ,e=>by
  rw [sR] at e
  show ph τ=0+ph r+c1 w
  split at e
  .rename_i h
   cases e
   rw [h,show c1 "or" = 0 by rfl'];omega
  .cases e
 | on_::r,τ,e=>by
  rw [sA] at e
  show ph τ=0+ph r+c1 w
  split at e
  .rename_i h
   cases e
   rw [h,show c1 "on" = 0 by rfl'];omega
  .cases e
 | cl::r,τ,e=>by cases e
 | [],τ,e=>by cases e
theorem ydw {σ:List Sy}{w:Str}{b:List Str}(a:Acc σ (w::b)):∃ τ,st σ w=some τ/\Acc τ b:=by
 obtain ⟨τ,e,f⟩:=a
 cases h:st σ w with
 | none=>rw [yFB h] at e;cases e
 | some τ'=>rw [yEn h] at e;exact ⟨τ',rfl,τ,e,f⟩
theorem yoS {σ:List Sy}(a:Acc σ []):fin σ:=by
 obtain ⟨τ,e,f⟩:=a
 cases e
 exact f
theorem ymE {σ:List Sy}{a b:List Str}(h:Acc σ (a++b)):∃ τ,go σ a=some τ/\Acc τ b:=by
 obtain ⟨τ,e,f⟩:=h
 rw [ynJ] at e
 cases q:go σ a with
 | none=>rw [q] at e;cases e
 | some σ'=>rw [q] at e;exact ⟨σ',rfl,τ,e,f⟩
theorem yuL:∀ {b:List Str}{σ:List Sy},Acc σ b->ph σ+cnt b=0
 | [],σ,a=>by
  rcases yoS a with rfl|rfl<;>decide
 | w::b,σ,a=>by
  obtain ⟨τ,e,a'⟩:=ydw a
  have:=yuL a'
  have:=yEv e
  show ph σ+(c1 w+cnt b)=0
  omega
open Sy
noncomputable def ok2:Sy->Sy->Bool
 | op,L=>true
 | L,cl=>true
 | M,cl=>true
 | P,M=>true
 | cl,el=>true
 | cl,or_=>true
 | cl,on_=>true
 | cl,M=>true
 | el,op=>true
 | or_,op=>true
 | on_,N=>true
 | N,S=>true
 | S,S=>true
 | S,U=>true
 | S,M=>true
 | S,op=>true
 | U,M=>true
 | _,_=>false
def Ch:List Sy->Prop
 | []=>False
 | [x]=>x=L\/x=M
 | x::y::r=>ok2 x y=true/\Ch (y::r)
theorem yBi {w:Str}{r p:List Sy}(c:Ch (M::r)) (e:psK w=some p):Ch (p++M::r):=by
 rcases yeL e with ⟨_,rfl⟩|⟨_,rfl⟩|⟨_,rfl⟩|⟨_,rfl⟩|⟨_,rfl⟩|⟨_,rfl⟩|⟨_,rfl⟩|⟨_,rfl⟩
 .exact ⟨rfl,rfl,rfl,rfl,rfl,rfl,rfl,rfl,c⟩
 .exact ⟨rfl,rfl,rfl,rfl,rfl,rfl,rfl,c⟩
 .exact ⟨rfl,rfl,rfl,rfl,rfl,rfl,rfl,rfl,rfl,c⟩
 .exact ⟨rfl,rfl,c⟩
 .exact ⟨rfl,rfl,c⟩
 .exact ⟨rfl,rfl,c⟩
 .exact c
 .exact ⟨rfl,rfl,rfl,c⟩
theorem yuM {x:Sy}{r τ:List Sy}(c:Ch (x::r)) (e:clo r=some τ):Ch τ:=by
 unfold clo at e
 split at e
 .cases e
  have c2:=c.2
  cases τ with
  | nil=>rcases c2 with z|z<;>cases z
  | cons y r=>exact c2.2
 .cases e
theorem yEw {r:List Sy}(c:Ch (L::r)):Ch (M::r):=by
 cases r with
 | nil=>exact .inr rfl
 | cons y r =>
  refine ⟨?_,c.2⟩
  have:=c.1
  cases y<;>first|rfl|cases this
theorem yiC {x:Sy}{r:List Sy}(c:Ch (x::r)) (hx:x≠L) (hm:x≠M):∃ y r',r=y::r'/\ok2 x y=true/\Ch (y::r'):=by
 cases r with
 | nil=>exact (c.elim hx hm).elim
 | cons y r=>exact ⟨y,r,rfl,c.1,c.2⟩
theorem yEx {r:List Sy}(c:Ch (P::r)):∃ r',r=M::r'/\Ch (M::r'):=by
 obtain ⟨y,r',rfl,q,c'⟩:=yiC c (by decide) (by decide)
 cases y<;>first|exact ⟨r',rfl,c'⟩|cases q
theorem yEy {w:Str}:∀ {σ τ:List Sy},Ch σ->st σ w=some τ->Ch τ
 | L::r,τ,c,e=>by
  rw [sL] at e
  split at e
  .exact yuM c e
  .obtain ⟨p,hp,rfl⟩:=yrk e
   exact yBi (yEw c) hp
 | M::r,τ,c,e=>by
  rw [sM] at e
  split at e
  .cases e
   exact ⟨rfl,c⟩
  .split at e
   .exact yuM c e
   .cases e
 | P::r,τ,c,e=>by
  rw [sP] at e
  obtain ⟨r',rfl,c'⟩:=yEx c
  obtain ⟨p,hp,rfl⟩:=yrk e
  exact yBi c' hp
 | S::r,τ,c,e=>by
  obtain ⟨y,r',rfl,_,c'⟩:=yiC c (by decide) (by decide)
  rw [sS] at e;split at e<;>cases e;exact c'
 | N::r,τ,c,e=>by
  obtain ⟨y,r',rfl,_,c'⟩:=yiC c (by decide) (by decide)
  rw [sN] at e;split at e<;>cases e;exact c'
 | U::r,τ,c,e=>by
  obtain ⟨y,r',rfl,_,c'⟩:=yiC c (by decide) (by decide)
  rw [sU] at e;split at e<;>cases e;exact c'
 | op::r,τ,c,e=>by
  obtain ⟨y,r',rfl,_,c'⟩:=yiC c (by decide) (by decide)
  rw [sO] at e;split at e<;>cases e;exact c'
 | el::r,τ,c,e=>by
  obtain ⟨y,r',rfl,_,c'⟩:=yiC c (by decide) (by decide)
  rw [sE] at e;split at e<;>cases e;exact c'
 | or_::r,τ,c,e=>by
  obtain ⟨y,r',rfl,_,c'⟩:=yiC c (by decide) (by decide)
  rw [sR] at e;split at e<;>cases e;exact c'
 | on_::r,τ,c,e=>by
  obtain ⟨y,r',rfl,_,c'⟩:=yiC c (by decide) (by decide)
  rw [sA] at e;split at e<;>cases e;exact c'
 | cl::r,τ,c,e=>by cases e
 | [],τ,c,e=>by cases e
theorem yBj:∀ {a:List Str}{σ τ:List Sy},Ch σ->go σ a=some τ->Ch τ
 | [],_,_,c,e=>by cases e;exact c
 | w::a,σ,τ,c,e=>by
  cases h:st σ w with
  | none=>rw [yFB h] at e;cases e
  | some σ'=>rw [yEn h] at e;exact yBj (yEy c h) e
section
variable {r:List Sy}{x:Str}{b:List Str}
theorem aS (a:Acc (S::r) b):∃ x b',b=x::b'/\ycT x=true/\Acc r b':=by
 cases b with
 | nil=>rcases yoS a with z|z<;>cases z
 | cons x b =>
  obtain ⟨τ,e,a'⟩:=ydw a
  rw [sS] at e
  split at e
  .rename_i h;cases e;exact ⟨x,b,rfl,h,a'⟩
  .cases e
theorem aN (a:Acc (N::r) b):∃ x b',b=x::b'/\yfH x=true/\Acc r b':=by
 cases b with
 | nil=>rcases yoS a with z|z<;>cases z
 | cons x b =>
  obtain ⟨τ,e,a'⟩:=ydw a
  rw [sN] at e
  split at e
  .rename_i h;cases e;exact ⟨x,b,rfl,h,a'⟩
  .cases e
theorem aU (a:Acc (U::r) b):∃ x b',b=x::b'/\(ylJ x).isSome=true/\Acc r b':=by
 cases b with
 | nil=>rcases yoS a with z|z<;>cases z
 | cons x b =>
  obtain ⟨τ,e,a'⟩:=ydw a
  rw [sU] at e
  split at e
  .rename_i h;cases e;exact ⟨x,b,rfl,h,a'⟩
  .cases e
theorem aO (a:Acc (op::r) b):∃ b',b=("(":Str)::b'/\Acc r b':=by
 cases b with
 | nil=>rcases yoS a with z|z<;>cases z
 | cons x b =>
  obtain ⟨τ,e,a'⟩:=ydw a
  rw [sO] at e
  split at e
  .rename_i h;cases e;exact ⟨b,by rw [h],a'⟩
  .cases e
theorem aM (a:Acc (M::r) b):b=[]\/∃ x b',b=x::b'/\(x = ";"\/x = ")"):=by
 cases b with
 | nil=>exact .inl rfl
 | cons x b =>
  obtain ⟨τ,e,a'⟩:=ydw a
  rw [sM] at e
  split at e
  .rename_i h;exact .inr ⟨x,b,rfl,.inl h⟩
  .split at e
   .rename_i h;exact .inr ⟨x,b,rfl,.inr h⟩
   .cases e
theorem yxV {y:Sy}{q:List Sy}(hy:y=S\/y=U\/y=op) (a:Acc (M::r) b):¬ Acc (y::q) b:=by
 intro a2
 have key:∀ z b',b=z::b'->z = ";"\/z = ")":=fun z b' eb=>by
  rcases aM a with h|⟨z',b2,h,hz⟩
  .rw [h] at eb;cases eb
  .rw [h] at eb;cases eb;exact hz
 rcases hy with rfl|rfl|rfl
 .obtain ⟨z,b',eb,h,_⟩:=aS a2
  rcases key z b' eb with rfl|rfl
  .exact absurd h (by rfl')
  .exact absurd h (by rfl')
 .obtain ⟨z,b',eb,h,_⟩:=aU a2
  rcases key z b' eb with rfl|rfl
  .exact absurd h (by rfl')
  .exact absurd h (by rfl')
 .obtain ⟨b',eb,_⟩:=aO a2
  rcases key _ b' eb with h|h
  .exact absurd h (by rfl')
  .exact absurd h (by rfl')
theorem yet:∀ {r:List Sy},Ch (S::r)->∀ {x:Str}{b:List Str},ycT x=true->Acc r b->¬ Acc r (x::b)
 | [],c,_,_,_,_=>by rcases c with z|z<;>cases z
 | y::r,c,x,b,hx,a=>by
  intro a2
  have f:=yrj hx
  have c1:=c.1
  obtain ⟨τ,e,a3⟩:=ydw a2
  cases y with
  | S =>
   obtain ⟨z,b',rfl,hz,a4⟩:=aS a
   rw [sS,if_pos hx] at e
   cases e
   exact yet c.2 hz a4 a3
  | U=>rw [sU,if_neg (by rw [f.2.2.1];decide)] at e;cases e
  | M=>rw [sM,if_neg f.2.2.2.1,if_neg f.2.2.2.2.1] at e;cases e
  | op=>rw [sO,if_neg f.2.2.2.2.2] at e;cases e
  | _=>cases c1
end
open Sy
section
variable {σ τ r r2:List Sy}{w x:Str}{b:List Str}
theorem yBk (c:Ch (S::r2)) (a:Acc (N::S::r2) b):¬ Acc (S::r2) b:=by
 intro a2
 obtain ⟨n,b1,rfl,hn,a3⟩:=aN a
 obtain ⟨s,b2,rfl,hs,a4⟩:=aS a3
 obtain ⟨z,b3,eb,hz,a5⟩:=aS a2
 cases eb
 exact yet c hs a4 a5
theorem yBl (c:Ch (S::r2)) (a:Acc (S::r2) b):¬ Acc (N::S::r2) b:=by
 intro a2
 obtain ⟨s,b1,rfl,hs,a3⟩:=aS a
 obtain ⟨n,b2,eb,hn,a4⟩:=aN a2
 cases eb
 obtain ⟨z,b3,rfl,hz,a5⟩:=aS a4
 exact yet c hz a5 a3
theorem yuN {p:List Sy}(c:Ch (M::r)) (hp:psK w=some p) (a:Acc (p++M::r) b):¬ Acc (p++M::r) (w::b):=by
 intro a2
 have f:=yxU hp
 obtain ⟨τ,e,a3⟩:=ydw a2
 rcases yeL hp with ⟨_,rfl⟩|⟨_,rfl⟩|⟨_,rfl⟩|⟨_,rfl⟩|⟨_,rfl⟩|⟨_,rfl⟩|⟨_,rfl⟩|⟨_,rfl⟩
 .rw [show pI++M::r=S::([op,L,cl,el,op,L,cl]++M::r) from rfl,sS,if_neg (by rw [f.1];decide)] at e;cases e
 .rw [show pE++M::r=op::([L,cl,or_,op,L,cl]++M::r) from rfl,sO,if_neg f.2.2.2] at e;cases e
 .rw [show pT++M::r=op::([L,cl,on_,N,S,op,L,cl]++M::r) from rfl,sO,if_neg f.2.2.2] at e;cases e
 .rw [show [S,U]++M::r=S::([U]++M::r) from rfl,sS,if_neg (by rw [f.1];decide)] at e;cases e
 .rw [show [S,S]++M::r=S::([S]++M::r) from rfl,sS,if_neg (by rw [f.1];decide)] at e;cases e
 .rw [show [N,S]++M::r=N::S::M::r from rfl,sN] at e
  split at e
  .cases e
   exact yBk (r2:=M::r) ⟨rfl,c⟩ a a3
  .cases e
 .rw [show ([]:List Sy)++M::r=M::r from rfl,sM,if_neg f.2.1,if_neg f.2.2.1] at e;cases e
 .rw [show [S,S,S]++M::r=S::([S,S]++M::r) from rfl,sS,if_neg (by rw [f.1];decide)] at e;cases e
theorem dup:∀ {σ:List Sy},Ch σ->st σ w=some τ->Acc τ b->w≠"("->w≠")"->¬ Acc τ (w::b)
 | L::r,c,e,a,h1,h2=>by
  rw [sL,if_neg h2] at e
  obtain ⟨p,hp,rfl⟩:=yrk e
  exact yuN (yEw c) hp a
 | M::r,c,e,a,h1,h2=>by
  rw [sM,if_neg h2] at e
  split at e
  .rename_i h
   cases e
   intro a2
   obtain ⟨τ,e,_⟩:=ydw a2
   rw [sP,h] at e
   obtain ⟨p,hp,_⟩:=yrk e
   exact absurd rfl (yxU hp).2.1
  .cases e
 | P::r,c,e,a,h1,h2=>by
  rw [sP] at e
  obtain ⟨r',rfl,c'⟩:=yEx c
  obtain ⟨p,hp,rfl⟩:=yrk e
  exact yuN c' hp a
 | S::r,c,e,a,h1,h2=>by
  rw [sS] at e
  split at e
  .rename_i h;cases e;exact yet c h a
  .cases e
 | N::r,c,e,a,h1,h2=>by
  rw [sN] at e
  split at e
  .rename_i h
   cases e
   obtain ⟨y,r',rfl,q,c'⟩:=yiC c (by decide) (by decide)
   cases y with
   | S =>
    intro a2
    obtain ⟨τ,e,a3⟩:=ydw a2
    rw [sS] at e
    split at e
    .rename_i hs
     cases e
     obtain ⟨z,b',rfl,hz,a4⟩:=aS a
     exact yet c' hz a4 a3
    .cases e
   | _=>cases q
  .cases e
 | U::r,c,e,a,h1,h2=>by
  rw [sU] at e
  split at e
  .rename_i h
   cases e
   obtain ⟨y,r',rfl,q,c'⟩:=yiC c (by decide) (by decide)
   cases y with
   | M =>
    intro a2
    rcases aM a2 with z|⟨z,b',eb,hz⟩
    .cases z
    .cases eb
     rcases hz with rfl|rfl
     .exact absurd h (by rfl')
     .exact h2 rfl
   | _=>cases q
  .cases e
 | op::r,c,e,a,h1,h2=>by
  rw [sO,if_neg h1] at e;cases e
 | el::r,c,e,a,h1,h2=>by
  rw [sE] at e
  split at e
  .cases e
   obtain ⟨y,r',rfl,q,c'⟩:=yiC c (by decide) (by decide)
   cases y with
   | op=>intro a2;obtain ⟨b',eb,_⟩:=aO a2;cases eb;exact h1 rfl
   | _=>cases q
  .cases e
 | or_::r,c,e,a,h1,h2=>by
  rw [sR] at e
  split at e
  .cases e
   obtain ⟨y,r',rfl,q,c'⟩:=yiC c (by decide) (by decide)
   cases y with
   | op=>intro a2;obtain ⟨b',eb,_⟩:=aO a2;cases eb;exact h1 rfl
   | _=>cases q
  .cases e
 | on_::r,c,e,a,h1,h2=>by
  rw [sA] at e
  split at e
  .cases e
   obtain ⟨y,r',rfl,q,c'⟩:=yiC c (by decide) (by decide)
   cases y with
   | N =>
    obtain ⟨y,r2,rfl,q2,c2⟩:=yiC c' (by decide) (by decide)
    cases y with
    | S =>
     intro a2
     obtain ⟨n,b',eb,_,a3⟩:=aN a2
     cases eb
     exact yBk c2 a a3
    | _=>cases q2
   | _=>cases q
  .cases e
 | cl::r,c,e,a,h1,h2=>by cases e
 | [],c,e,a,h1,h2=>by cases e
theorem yuO {p q:List Sy}(c:Ch (M::r)) (hp:psK w=some p) (hw:w≠"wait") (a:Acc (p++M::r) (x::b)) (hq:psK x=some q):¬ Acc (q++M::r) b:=by
 intro a2
 have f:=yxU hq
 have hS:∀ {r'},¬ Acc (S::r') (x::b):=fun {r'} a=>by
  obtain ⟨z,b',eb,h,_⟩:=aS a
  cases eb
  rw [f.1] at h;cases h
 have hO:∀ {r'},¬ Acc (op::r') (x::b):=fun {r'} a=>by
  obtain ⟨b',eb,_⟩:=aO a
  cases eb
  exact f.2.2.2 rfl
 rcases yeL hp with ⟨_,rfl⟩|⟨_,rfl⟩|⟨_,rfl⟩|⟨_,rfl⟩|⟨_,rfl⟩|⟨_,rfl⟩|⟨z,_⟩|⟨_,rfl⟩
 .exact hS a
 .exact hO a
 .exact hO a
 .exact hS a
 .exact hS a
 .obtain ⟨n,b1,eb,hn,a3⟩:=aN a
  cases eb
  obtain ⟨s,b2,rfl,hs,a4⟩:=aS a3
  have g:=yrj hs
  obtain ⟨τ,e,a5⟩:=ydw a2
  rcases yeL hq with ⟨_,rfl⟩|⟨_,rfl⟩|⟨_,rfl⟩|⟨_,rfl⟩|⟨_,rfl⟩|⟨_,rfl⟩|⟨_,rfl⟩|⟨_,rfl⟩
  .rw [show pI++M::r=S::(op::([L,cl,el,op,L,cl]++M::r)) from rfl,sS,if_pos hs] at e;cases e
   exact yxV (.inr (.inr rfl)) a4 a5
  .rw [show pE++M::r=op::([L,cl,or_,op,L,cl]++M::r) from rfl,sO,if_neg g.2.2.2.2.2] at e;cases e
  .rw [show pT++M::r=op::([L,cl,on_,N,S,op,L,cl]++M::r) from rfl,sO,if_neg g.2.2.2.2.2] at e;cases e
  .rw [show [S,U]++M::r=S::U::M::r from rfl,sS,if_pos hs] at e;cases e
   exact yxV (.inr (.inl rfl)) a4 a5
  .rw [show [S,S]++M::r=S::S::M::r from rfl,sS,if_pos hs] at e;cases e
   exact yxV (.inl rfl) a4 a5
  .rw [show [N,S]++M::r=N::S::M::r from rfl,sN,if_pos g.2.1] at e;cases e
   exact yxV (.inl rfl) a4 a5
  .rw [show ([]:List Sy)++M::r=M::r from rfl,sM,if_neg g.2.2.2.1,if_neg g.2.2.2.2.1] at e;cases e
  .rw [show [S,S,S]++M::r=S::S::S::M::r from rfl,sS,if_pos hs] at e;cases e
   exact yxV (.inl rfl) a4 a5
 .exact hw z
 .exact hS a
end
open Sy
section
variable {σ τ r:List Sy}{w x:Str}{b:List Str}
theorem yBm {p:List Sy}(hp:psK w=some p) (hw:w≠"wait") (a:Acc (p++M::r) b):∃ x b',b=x::b'/\x≠")":=by
 have hS:∀ {r'},Acc (S::r') b->∃ x b',b=x::b'/\x≠")":=fun a=>by
  obtain ⟨x,b',e,h,_⟩:=aS a
  exact ⟨x,b',e,(yrj h).2.2.2.2.1⟩
 have hO:∀ {r'},Acc (op::r') b->∃ x b',b=x::b'/\x≠")":=fun a=>by
  obtain ⟨b',e,_⟩:=aO a
  exact ⟨_,b',e,by rfl'⟩
 rcases yeL hp with ⟨_,rfl⟩|⟨_,rfl⟩|⟨_,rfl⟩|⟨_,rfl⟩|⟨_,rfl⟩|⟨_,rfl⟩|⟨z,_⟩|⟨_,rfl⟩
 .exact hS a
 .exact hO a
 .exact hO a
 .exact hS a
 .exact hS a
 .obtain ⟨x,b',e,h,_⟩:=aN a
  exact ⟨x,b',e,fun z=>by rw [z] at h;exact absurd h (by rfl')⟩
 .exact (hw z).elim
 .exact hS a
theorem del:∀ {σ:List Sy},Ch σ->st σ w=some τ->Acc τ b->w≠"("->w≠")"->w≠"wait"->¬ Acc σ b
 | L::r,c,e,a,h1,h2,h3=>by
  rw [sL,if_neg h2] at e
  obtain ⟨p,hp,rfl⟩:=yrk e
  obtain ⟨x,b',rfl,hx⟩:=yBm hp h3 a
  intro a2
  obtain ⟨τ,e,a3⟩:=ydw a2
  rw [sL,if_neg hx] at e
  obtain ⟨q,hq,rfl⟩:=yrk e
  exact yuO (yEw c) hp h3 a hq a3
 | M::r,c,e,a,h1,h2,h3=>by
  rw [sM,if_neg h2] at e
  split at e
  .rename_i h
   cases e
   intro a2
   rcases aM a2 with rfl|⟨z,b',rfl,hz⟩
   .rcases yoS a with z|z<;>cases z
   .obtain ⟨τ,e,_⟩:=ydw a
    rw [sP] at e
    obtain ⟨q,hq,_⟩:=yrk e
    rcases hz with rfl|rfl
    .exact (yxU hq).2.1 rfl
    .exact (yxU hq).2.2.1 rfl
  .cases e
 | P::r,c,e,a,h1,h2,h3=>by
  rw [sP] at e
  obtain ⟨r',rfl,c'⟩:=yEx c
  obtain ⟨p,hp,rfl⟩:=yrk e
  obtain ⟨x,b',rfl,hx⟩:=yBm hp h3 a
  intro a2
  obtain ⟨τ,e,a3⟩:=ydw a2
  rw [sP] at e
  obtain ⟨q,hq,rfl⟩:=yrk e
  exact yuO c' hp h3 a hq a3
 | S::r,c,e,a,h1,h2,h3=>by
  rw [sS] at e
  split at e
  .cases e
   intro a2
   obtain ⟨z,b',rfl,hz,a3⟩:=aS a2
   exact yet c hz a3 a
  .cases e
 | N::r,c,e,a,h1,h2,h3=>by
  rw [sN] at e
  split at e
  .cases e
   obtain ⟨y,r',rfl,q,c'⟩:=yiC c (by decide) (by decide)
   cases y with
   | S=>exact yBl c' a
   | _=>cases q
  .cases e
 | U::r,c,e,a,h1,h2,h3=>by
  rw [sU] at e
  split at e
  .cases e
   obtain ⟨y,r',rfl,q,c'⟩:=yiC c (by decide) (by decide)
   cases y with
   | M=>exact yxV (.inr (.inl rfl)) a
   | _=>cases q
  .cases e
 | op::r,c,e,a,h1,h2,h3=>by
  rw [sO,if_neg h1] at e;cases e
 | el::r,c,e,a,h1,h2,h3=>by
  rw [sE] at e
  split at e
  .cases e
   obtain ⟨y,r',rfl,q,c'⟩:=yiC c (by decide) (by decide)
   cases y with
   | op =>
    obtain ⟨b',rfl,_⟩:=aO a
    intro a2
    obtain ⟨τ,e,_⟩:=ydw a2
    rw [sE,if_neg (by rfl')] at e;cases e
   | _=>cases q
  .cases e
 | or_::r,c,e,a,h1,h2,h3=>by
  rw [sR] at e
  split at e
  .cases e
   obtain ⟨y,r',rfl,q,c'⟩:=yiC c (by decide) (by decide)
   cases y with
   | op =>
    obtain ⟨b',rfl,_⟩:=aO a
    intro a2
    obtain ⟨τ,e,_⟩:=ydw a2
    rw [sR,if_neg (by rfl')] at e;cases e
   | _=>cases q
  .cases e
 | on_::r,c,e,a,h1,h2,h3=>by
  rw [sA] at e
  split at e
  .cases e
   obtain ⟨y,r',rfl,q,c'⟩:=yiC c (by decide) (by decide)
   cases y with
   | N =>
    obtain ⟨y,r2,rfl,q2,c2⟩:=yiC c' (by decide) (by decide)
    cases y with
    | S =>
     intro a2
     obtain ⟨n,b',rfl,_,a3⟩:=aN a
     obtain ⟨τ,e,a4⟩:=ydw a2
     rw [sA] at e
     split at e
     .cases e;exact yBl c2 a3 a4
     .cases e
    | _=>cases q2
   | _=>cases q
  .cases e
 | cl::r,c,e,a,h1,h2,h3=>by cases e
 | [],c,e,a,h1,h2,h3=>by cases e
theorem yxu (e:st σ "(" = some τ):σ=op::τ:=by
 have f:∀ {r:List Sy},ps "(" r=none:=fun {r}=>by
  unfold ps
  rw [show psK "(" = none by rfl']
 match σ,e with
 | L::r,e=>rw [sL,if_neg (by rfl'),f] at e;cases e
 | M::r,e=>rw [sM,if_neg (by rfl'),if_neg (by rfl')] at e;cases e
 | P::r,e=>rw [sP,f] at e;cases e
 | S::r,e=>rw [sS,if_neg (by rfl')] at e;cases e
 | N::r,e=>rw [sN,if_neg (by rfl')] at e;cases e
 | U::r,e=>rw [sU,if_neg (by rfl')] at e;cases e
 | op::r,e=>rw [sO,if_pos rfl] at e;cases e;rfl
 | el::r,e=>rw [sE,if_neg (by rfl')] at e;cases e
 | or_::r,e=>rw [sR,if_neg (by rfl')] at e;cases e
 | on_::r,e=>rw [sA,if_neg (by rfl')] at e;cases e
 | cl::r,e=>cases e
 | [],e=>cases e
theorem yGu (c:Ch σ) (e:st σ w=some τ):¬ Acc σ ("("::")"::w::b):=by
 intro a
 obtain ⟨τ1,e1,a1⟩:=ydw a
 have:=yxu e1
 subst this
 obtain ⟨τ2,e2,a2⟩:=ydw a1
 rw [sO] at e
 split at e
 .rename_i hw
  cases e
  obtain ⟨y,r',rfl,q,c'⟩:=yiC c (by decide) (by decide)
  cases y with
  | L =>
   cases r' with
   | nil=>rw [sL,if_pos rfl] at e2;cases e2
   | cons y r2 =>
    have q2:=c'.1
    cases y with
    | cl =>
     rw [yFC] at e2
     cases e2
     obtain ⟨τ3,e3,_⟩:=ydw a2
     rw [hw] at e3
     have:=yxu e3
     subst this
     have:=c'.2.1
     cases this
    | _=>cases q2
  | _=>cases q
 .cases e
theorem yzm (e:st σ w=some τ) (hw:w≠"("):¬ Acc σ ("("::b):=by
 intro a
 obtain ⟨τ1,e1,a1⟩:=ydw a
 have:=yxu e1
 subst this
 rw [sO,if_neg hw] at e
 cases e
def Nv (x:Str):Prop:=psK x=none/\ycT x=false/\yfH x=false/\(ylJ x).isSome=false/\x∉(["(",")",";","else","or","on"]:List Str)
theorem yEz (n:Nv x):∀ σ:List Sy,st σ x=none:=by
 obtain ⟨n1,n2,n3,n4,n5⟩:=n
 simp only [mem_cons,not_mem_nil,or_false,not_or] at n5
 obtain ⟨m1,m2,m3,m4,m5,m6⟩:=n5
 have f:∀ {r:List Sy},ps x r=none:=fun {r}=>by
  unfold ps
  rw [n1]
 intro σ
 match σ with
 | L::r=>rw [sL,if_neg m2,f]
 | M::r=>rw [sM,if_neg m3,if_neg m2]
 | P::r=>rw [sP,f]
 | S::r=>rw [sS,if_neg (by rw [n2];decide)]
 | N::r=>rw [sN,if_neg (by rw [n3];decide)]
 | U::r=>rw [sU,if_neg (by rw [n4];decide)]
 | op::r=>rw [sO,if_neg m1]
 | el::r=>rw [sE,if_neg m4]
 | or_::r=>rw [sR,if_neg m5]
 | on_::r=>rw [sA,if_neg m6]
 | cl::r=>rfl
 | []=>rfl
theorem yip (n:Nv x):∀ {a:List Str}{σ:List Sy},¬ Acc σ (a++x::b):=fun {a σ} h=>by
 obtain ⟨τ,_,h2⟩:=ymE h
 obtain ⟨_,e,_⟩:=ydw h2
 rw [yEz n] at e
 cases e
end
open Sy
noncomputable def OD:List Str:=["","Wait","LET","1a","007","-1","+1","18446744073709551616","[","]","()","( )","wait;",";;","abcdefghi","a.","a,b","{","1.0","Let","A","a-b","99999999999999999999","wait ;;","!"]
def tk (x:Str):List Str:=if x = "( )" then ["(",")"] else if x = "wait ;;" then ["wait",";;"] else [x]
instance {x:Str}:Decidable (Nv x):=by unfold Nv;infer_instance
theorem yFE {x:Str}(h:x∈OD):tk x=(["(",")"]:List Str)\/tk x=(["wait",";;"]:List Str)\/(tk x=[x]/\Nv x) :=
 (show ∀ x∈OD,tk x=(["(",")"]:List Str)\/tk x=(["wait",";;"]:List Str)\/(tk x=[x]/\Nv x) by rfl') x h
theorem yFF:Nv ";;":=by rfl'
section
variable {a b:List Str}{w x:Str}
theorem ygq (h:Acc [L] (a++w::b)):∃ σ τ,go [L] a=some σ/\Ch σ/\st σ w=some τ/\Acc τ b:=by
 obtain ⟨σ,e,h2⟩:=ymE h
 obtain ⟨τ,e2,h3⟩:=ydw h2
 exact ⟨σ,τ,e,yBj (σ:=[L]) (.inl rfl) e,e2,h3⟩
theorem yjW {c:List Str}{σ:List Sy}(e:go [L] a=some σ) (h:¬ Acc σ c):¬ Acc [L] (a++c):=fun z=>by
 obtain ⟨τ,e2,h2⟩:=ymE z
 rw [e] at e2
 cases e2
 exact h h2
theorem yjX:∀ a b:List Str,cnt (a++b)=cnt a+cnt b
 | [],b=>by show cnt b=0+cnt b;omega
 | x::a,b=>by
  show c1 x+cnt (a++b)=c1 x+cnt a+cnt b
  rw [yjX a b];omega
theorem ygV (h:Acc [L] a):cnt a=0:=by
 have:=yuL h
 have e:ph [L]=0:=rfl
 omega
theorem yBn (h:Acc [L] (a++w::b)) (hx:x∈OD):¬ Acc [L] (a++(tk x++w::b)):=by
 obtain ⟨σ,τ,e1,c,e2,h2⟩:=ygq h
 rcases yFE hx with e|e|⟨e,n⟩
 .rw [e];exact yjW e1 (yGu c e2)
 .rw [e]
  have:=yip (a:=a++[("wait":Str)]) (b:=w::b) (σ:=[L]) yFF
  rw [append_assoc] at this
  exact this
 .rw [e];exact yip n
theorem yBo (h:Acc [L] (a++w::b)) (hx:x∈OD):¬ Acc [L] (a++(tk x++b)):=by
 obtain ⟨σ,τ,e1,c,e2,h2⟩:=ygq h
 rcases yFE hx with e|e|⟨e,n⟩
 .rw [e]
  by_cases hw:w = "("
  .intro z
   have c1':=ygV z
   have c2:=ygV h
   rw [hw] at c2
   rw [yjX] at c1' c2
   have q1:cnt ((["(",")"]:List Str)++b)=1+(-1+cnt b):=rfl
   have q2:cnt (("(":Str)::b)=1+cnt b:=rfl
   omega
  .exact yjW e1 (yzm e2 hw)
 .rw [e]
  have:=yip (a:=a++[("wait":Str)]) (b:=b) (σ:=[L]) yFF
  rw [append_assoc] at this
  exact this
 .rw [e];exact yip n
theorem yBp (h:Acc [L] (a++w::b)):¬ Acc [L] (a++w::w::b):=by
 obtain ⟨σ,τ,e1,c,e2,h2⟩:=ygq h
 by_cases h0:c1 w=0
 .refine yjW e1 fun z=>?_
  obtain ⟨τ',e3,z⟩:=ydw z
  rw [e2] at e3
  cases e3
  exact dup c e2 h2 (fun q=>by rw [q] at h0;exact absurd h0 (by rfl')) (fun q=>by rw [q] at h0;exact absurd h0 (by rfl')) z
 .intro z
  have q1:=ygV z
  have q2:=ygV h
  rw [yjX] at q1 q2
  have q3:cnt (w::w::b)=c1 w+(c1 w+cnt b):=rfl
  have q4:cnt (w::b)=c1 w+cnt b:=rfl
  omega
theorem yBq (h:Acc [L] (a++w::b)) (hw:w≠"wait"):¬ Acc [L] (a++b):=by
 obtain ⟨σ,τ,e1,c,e2,h2⟩:=ygq h
 by_cases h0:c1 w=0
 .exact yjW e1 (del c e2 h2 (fun q=>by rw [q] at h0;exact absurd h0 (by rfl')) (fun q=>by rw [q] at h0;exact absurd h0 (by rfl')) hw)
 .intro z
  have q1:=ygV z
  have q2:=ygV h
  rw [yjX] at q1 q2
  have q4:cnt (w::b)=c1 w+cnt b:=rfl
  omega
end
theorem yBr {ts:List T}(g:OkL ts):mLs (mP (wdL ts) 9) (wdL ts) 0=some (ybN ts,(wdL ts).length):=by
 have:=g.lg
 have:=g.rd
 have q:=yfq (d:=9) g.gd (by omega) (by omega) (wdL ts) 0 [] (.inl rfl) (by rw [List.drop_zero,append_nil])
 rw [Nat.zero_add] at q
 exact q
theorem ytM {ts:List T}(g:OkL ts):Acc [L] (wdL ts):=yuI (yBr g) (Nat.le_refl _)
theorem yhE {y z:Str}:∀ (a b:List Str),Str.join " " (a++(y++" "++z)::b)=Str.join " " (a++y::z::b)
 | [],[]=>rfl
 | [],c::b=>by
  show (y++" "++z)++" "++Str.join " " (c::b)=y++" "++(z++" "++Str.join " " (c::b))
  simp only [yci]
 | [d],b=>by
  show d++" "++Str.join " " ((y++" "++z)::b)=d++" "++Str.join " " (y::z::b)
  have:=yhE (y:=y) (z:=z) [] b
  simp only [List.nil_append] at this
  rw [this]
 | d::d2::a,b=>by
  have:=yhE (y:=y) (z:=z) (d2::a) b
  show d++" "++Str.join " " ((d2::a)++(y++" "++z)::b)=d++" "++Str.join " " ((d2::a)++y::z::b)
  rw [this]
theorem ymF {x:Str}(hx:x∈OD) (a b:List Str):Str.join " " (a++x::b)=Str.join " " (a++(tk x++b)):=by
 unfold tk
 split
 .rename_i h
  rw [h,show ("( )":Str) = "("++" "++")" by rfl']
  exact yhE a b
 .split
  .rename_i h
   rw [h,show ("wait ;;":Str) = "wait"++" "++";;" by rfl']
   exact yhE a b
  .rfl
open Sy
section
variable {h:AH}{t:Str}
def Rf (t:Str):Prop:=∀ h,∃ h',ydU [.str t] h=some (("NoDeed":Str),h')
theorem yjY (T:txB t=true) (n:¬ Acc [L] (ybG t)):Rf t:=fun h=>by
 cases e:mLs (mP (ybG t) 9) (ybG t) 0 with
 | none=>obtain ⟨_,k,e2⟩:=yre (h:=h) T e;exact ⟨_,e2⟩
 | some p =>
  obtain ⟨vs,k⟩:=p
  by_cases hk:k<(ybG t).length
  .obtain ⟨_,k,e2⟩:=yrf (h:=h) T e (decide_eq_true hk)
   exact ⟨_,e2⟩
  .exact (n (yuI e (by omega))).elim
theorem yEA (T:txB t=true) (e:mLs (mP (ybG t) 9) (ybG t) 0=none):Rf t:=fun h=>by
 obtain ⟨_,k,e2⟩:=yre (h:=h) T e
 exact ⟨_,e2⟩
theorem yxv {ps:List PV}{n:Int}(T:txB t=true) (e:mLs (mP (ybG t) 9) (ybG t) 0=some (ps,(ybG t).length)) (hlong:∀ h,ybj 45 [.lst ps] h=some (.int n,h)) (hn:80<n+1):Rf t:=fun h=>by
 obtain ⟨hl,O⟩:=ytF (h:=h) T
 have c1:=(yhD O 45 45 0 (by omega) (by omega)).yes e
 have c2:=ygR (k:=(ybG t).length) O (List.getElem?_eq_none_iff.mpr (Nat.le_refl _))
 simp only [ynI] at c1 c2
 have z:((80:Int)<n+1)=True:=eq_true (by omega)
 refine ⟨h++[rdr (ybG t) (ybG t).length],?_⟩
 unfold ydU
 rw [ycA]
 show yrE _ _ [.val (.str t),.no,.no] h=_
 simp_all? only [ycm,ygT hl,yjk,ydx,yjh,yqY,yik,yji,yjT,yjU,ylI,ynF,mN (m:="list_taken") (by rfl'),mN (m:="ahead") (by rfl'),c1,c2,hlong,z]
 rw [if_neg (by intro z;cases z)]
theorem yEB {cs:List Str}{i:Nat}{r:XR}{s:XS}{ρ ρ':PSt}{c:Str}{h h1 h2:AH}(e:r ρ h=some (c,h1)) (hc:c∈cs) (es:s (ρ.set i (.val (.exc c))) h1=some (.nx ρ',h2)):yxL cs i r s ρ h=some (.nx (ρ'.set i .no),h2):=by
 unfold yxL
 rw [e]
 show (if _ then _ else _)=_
 rw [if_pos hc,es]
def kinds:PV:=.lst [.bl true,.bl true,.bl false,.bl false,.bl false,.bl false]
theorem yeu (r:Rf t):∃ h',ybA [.str t] h=some (.bl true,h'):=by
 obtain ⟨h',e⟩:=r h
 refine ⟨h',?_⟩
 unfold ybA
 rw [yN]
 show ob (yw _ (yw (yxL _ 2 _ _) _) [.val (.str t),.no,.no] h) fnK=_
 symm
 rw [yEB (c:="NoDeed") (h1:=h') (h2:=h') (ρ':=[.val (.str t),.val kinds,.val (.exc "NoDeed")]) (by simp_all? only [yxj,e]) mem_cons_self (by kernel_rfl!)]
 kernel_rfl!
end
mutual
theorem yBs:∀ {t:T},gdT t->((wdT t).length:Int)+1<=10*ycM t
 | .base,g=>g.elim
 | .let_ ..,_=>by show (3:Int)+1<=10*1;omega
 | .reckon ..,_=>by show (4:Int)+1<=10*1;omega
 | .take ..,_=>by show (3:Int)+1<=10*1;omega
 | .put ..,_=>by show (3:Int)+1<=10*1;omega
 | .throw ..,_=>by show (3:Int)+1<=10*1;omega
 | .wait,_=>by show (1:Int)+1<=10*1;omega
 | .if_ r a b,g=>by
  have h1:=ygr g.2.1
  have h2:=ygr g.2.2
  show ((("if":Str)::r::(wsd (wdL a)++("else":Str)::wsd (wdL b))).length:Int)+1<=10*(2+(yt a).sum+(yt b).sum)
  simp only [wsd,length_cons,length_append,length_nil]
  omega
 | .either a b,g=>by
  have h1:=ygr g.1
  have h2:=ygr g.2
  show ((("either":Str)::(wsd (wdL a)++("or":Str)::wsd (wdL b))).length:Int)+1<=10*(3+(yt a).sum+(yt b).sum)
  simp only [wsd,length_cons,length_append,length_nil]
  omega
 | .try_ a nm r b,g=>by
  have h1:=ygr g.2.2.1
  have h2:=ygr g.2.2.2
  show ((("try":Str)::(wsd (wdL a)++("on":Str)::nm::r::wsd (wdL b))).length:Int)+1<=10*(3+(yt a).sum+(yt b).sum)
  simp only [wsd,length_cons,length_append,length_nil]
  omega
theorem ygr:∀ {ts:List T},gdL ts->((wdL ts).length:Int)<=10*(yt ts).sum
 | [],_=>by show (0:Int)<=10*0;omega
 | t::r,g=>by
  have h1:=yBs g.1
  have h2:=yuP g.2
  show ((wdT t++wdR r).length:Int)<=10*(ycM t+(yt r).sum)
  rw [length_append]
  omega
theorem yuP:∀ {ts:List T},gdL ts->((wdR ts).length:Int)<=10*(yt ts).sum
 | [],_=>by show (0:Int)<=10*0;omega
 | t::r,g=>by
  have h1:=yBs g.1
  have h2:=yuP g.2
  show (((";":Str)::(wdT t++wdR r)).length:Int)<=10*(ycM t+(yt r).sum)
  rw [length_cons,length_append]
  omega
end
def wf (l:List Str):Prop:=∀ w∈l,32∉w.cps.toList/\w.length<=20
theorem ynK {l:List Str}(h:frs l):wf l:=fun w hw=>⟨(h w hw).1,(h w hw).2.2⟩
theorem ymG {l:List Str}(h:wf l):(Str.join " " l).length<=21*l.length:=by
 have q:=ycH " " l
 have:∀ l:List Str,wf l->(l.map (·.length)).sum<=20*l.length:=by
  intro l
  induction l with
  | nil=>intro _;simp
  | cons x l ih =>
   intro f
   have h1:=(f x mem_cons_self).2
   have h2:=ih fun w hw=>f w (mem_cons_of_mem _ hw)
   rw [map_cons,List.sum_cons,length_cons]
   omega
 have:=this l h
 rw [l1] at q
 omega
theorem yjZ {l:List Str}(h:wf l) (hl:l.length<=990) (hn:Str.join " " l≠""\/l=[]):ybG (Str.join " " l)=l/\txB (Str.join " " l)=true:=by
 have e:ybG (Str.join " " l)=l:=by
  unfold ybG
  rcases hn with hn|rfl
  .rw [if_neg hn]
   exact ygh l (fun z=>hn (by rw [z];rfl')) fun w hw=>(h w hw).1
  .rw [if_pos (by rfl')]
 refine ⟨e,?_⟩
 have:=ymG h
 unfold txB
 rw [e]
 simp only [and_eq_true,decide_eq_true_eq,List.all_eq_true]
 exact ⟨⟨by omega,by omega⟩,fun w hw=>by have:=(h w hw).2;omega⟩
theorem yuQ {x y:Str}{l:List Str}:Str.join " " (x::y::l)≠"":=fun z=>by
 have:(Str.join " " (x::y::l)).length=0:=by rw [z];exact ynr
 have e:Str.join " " (x::y::l)=x++" "++Str.join " " (y::l):=rfl
 rw [e,ycl,ycl,l1] at this
 omega
theorem yfU {l:List Str}(h:2<=l.length):Str.join " " l≠"":=by
 match l,h with
 | x::y::l,_=>exact yuQ
section
variable {h:AH}{t:Str}
theorem yrl {ts:List T}(hd:ybz ts<=14) (hw:wL ts<=100000) (h:AH):ybj 45 [.lst (ybN ts)] h=some (.int (yt ts).sum,h):=ycz (yif 44) (by omega) hw
theorem yBt {ts:List T}(T:txB t=true) (e:mLs (mP (ybG t) 9) (ybG t) 0=some (ybN ts,(ybG t).length)) (hd:ybz ts<=14) (hw:wL ts<=100000) (hn:(yt ts).sum<=79):∃ h',ybk [.str t,.int (yt ts).sum] h=some (.bl true,h'):=by
 have rd:=ytG (h:=h) T e (yrl hd hw) (by omega)
 generalize h++[rdr (ybG t) (ybG t).length]=h1 at *
 have w5:=w_count ts
 have cm:yki (yhr "long" (yfm 45) (ye 0)) (yiw [] [.val (.str t),.val (.int (yt ts).sum),.val (.lst (ybN ts))]) (ybN ts) h1=some ((yt ts).map .int,h1):=by
  rw [yen,ylc,map_map]
  refine yhT ydN _ fun u hu=>?_
  show yhr "long" (yfm 45) (ye 0) [.val (ydN u)] h1=_
  rw [yql,ynj,ydi,ylf u (.inr rfl),yif 45 h1 u (by have:=yie hu;omega) (by have:=ywT hu;omega)]
  rfl
 have sm:yoV [.lst ((yt ts).map .int)] h1=some (.int (yt ts).sum,h1):=by
  unfold yoV ycd
  simp only [yfC]
 have ll:((ybN ts).length<=100000)=True:=eq_true (by rw [yen,length_map];omega)
 have i2:xIL (ye 2) [.val (.str t),.val (.int (yt ts).sum),.val (.lst (ybN ts))] h1=some (ybN ts,h1):=rfl
 have il:yzr yjO [.lst (ybN ts),.ty "list"] h1=some (.bl true,h1):=rfl
 refine ⟨h1,?_⟩
 unfold ybk
 rw [yN]
 show ob (yw _ _ [.val (.str t),.val (.int (yt ts).sum),.no] h) fnK=_
 simp_all? only [rd,il,i2,ll,cm,sm]
end
open Sy
section
variable {h:AH}{xs:List PV}{k:Nat}{y:PV}{ρ:PSt}
theorem yEC {d d':Nd}:(h++[d]).set h.length d'=h++[d']:=by simp
theorem ymH {d:Nd}:(h++[d])[h.length]?=some d:=by simp
theorem yBu:yhq [.loc h.length] (h++[.lst xs])=some (.int (xs.length:Nat),h++[.lst xs]):=ywm ymH
theorem yBv:yix (.loc h.length) (h++[.lst xs])=true:=yqt ymH
theorem yFG (e:xs[k]?=some y):yfM (.loc h.length) (.int (k:Nat)) (h++[.lst xs])=some (y,h++[.lst xs]):=by
 unfold yfM
 simp only [ymH,ydr e]
theorem yxw (hk:k<=xs.length) (hx:xs.length<=2000):ymp (.loc h.length) [.int (k:Nat),y] (h++[.lst xs])=some (.non,h++[.lst (xs.take k++y::xs.drop k)]):=by
 unfold ymp
 simp only [ymH]
 rw [if_pos ⟨by omega,by omega,by omega⟩,yEC]
 rfl
theorem yED (e:xs[k]?=some y) (hx:xs.length<=2000):yqx (.loc h.length) [.int (k:Nat)] (h++[.lst xs])=some (y,h++[.lst (xs.eraseIdx k)]):=by
 have:=(List.getElem?_eq_some_iff.mp e).1
 unfold yqx
 simp only [ymH]
 rw [if_pos ⟨by omega,by omega⟩,Int.toNat_natCast,e]
 dsimp only
 rw [yEC]
theorem yEE {eo ei ev:XE}(e1:ev ρ (h++[.lst xs])=some (y,h++[.lst xs])) (e2:eo ρ (h++[.lst xs])=some (.loc h.length,h++[.lst xs])) (e3:ei ρ (h++[.lst xs])=some (.int (k:Nat),h++[.lst xs])) (hk:k<xs.length):yqm eo ei ev ρ (h++[.lst xs])=some (.nx ρ,h++[.lst (xs.set k y)]):=by
 have e':ixN xs.length (k:Nat)=some k:=by
  unfold ixN
  simp [hk]
 unfold yqm
 rw [e1,ydi,e2,ydi,e3,ydi]
 simp only [ymH,e']
 rw [yEC]
theorem yuR {l:List Str}(hl:(l.map (·.length)).sum+l.length<=1048576):yeC (.str " ") [.loc h.length] (h++[.lst (l.map .str)])=some (.str (Str.join " " l),h++[.lst (l.map .str)]):=by
 unfold yeC ycd
 simp only [ymH,yej]
 rw [if_pos ⟨by rfl',hl⟩]
theorem yBw (n:Int):∃ x,(∀ h,ycy [.int n] h=some (.str x,h))/\x∈OD:=by
 have m0:=Int.emod_nonneg n (show (25:Int)≠0 by decide)
 have m1:=Int.emod_lt_of_pos n (show (0:Int)<25 by decide)
 obtain ⟨j,hj⟩:∃ j:Nat,n%25=(j:Nat):=⟨(n%25).toNat,by omega⟩
 have hj2:j<OD.length:=by show j<25;omega
 have e:atI (OD.map PV.str) (n%25)=some (.str OD[j]):=by
  rw [hj]
  exact ydr (by rw [getElem?_map,List.getElem?_eq_getElem hj2];rfl)
 refine ⟨OD[j],fun h=>?_,List.getElem_mem hj2⟩
 have e2:yfM (.lst (OD.map .str)) (.int (n%25)) h=some (.str OD[j],h):=by
  unfold yfM
  simp only [e]
 have q:ycy [.int n] h=ob (ob (yfM (.lst (OD.map .str)) (.int (n%25)) h) fun x h1=>some (Out.rt x,h1)) fnK:=by kernel_rfl!
 rw [q,e2]
 rfl
end
open Sy
section
variable {h:AH}{t w x:Str}{l:List Str}{wy nu:Int}{k:Nat}
noncomputable abbrev spS (h:AH) (t:Str) (wy nu:Int) (k:Nat) (x:Str):PSt:=[.val (.str t),.val (.int wy),.val (.int nu),.val (.loc h.length),.val (.int (k:Nat)),.val (.str x)]
theorem yuS (e:l[k]?=some w):∃ wy',spA (spS h t wy nu k x) (h++[.lst (l.map .str)])=some (.nx (spS h t wy' nu k x),h++[.lst (l.map .str)])/\(wy'=0\/(wy'=wy/\l.length≠1/\¬ (wy=3/\w = "wait"))):=by
 have ix:=yFG (h:=h) (xs:=l.map .str) (k:=k) (y:=.str w) (by rw [getElem?_map,e];rfl)
 have ln:=yBu (h:=h) (xs:=l.map .str)
 rw [length_map] at ln
 unfold spA
 by_cases z1:l.length=1
 .have t1:(((l.length:Nat):Int)=1)=True:=eq_true (by omega)
  refine ⟨0,?_,.inl rfl⟩
  by_cases z3:wy=3
  .have t3:(wy=3)=True:=eq_true z3
   by_cases zw:w = "wait"
   .have tw:(w = "wait")=True:=eq_true zw
    simp_all? only [t3,ix,tw,ln,t1]
   .have tw:(w = "wait")=False:=eq_false zw
    simp_all? only [t3,ix,tw,ln,t1]
  .have t3:(wy=3)=False:=eq_false z3
   simp_all? only [t3,ix,ln,t1]
 .have t1:(((l.length:Nat):Int)=1)=False:=eq_false (by omega)
  by_cases z3:wy=3
  .have t3:(wy=3)=True:=eq_true z3
   by_cases zw:w = "wait"
   .have tw:(w = "wait")=True:=eq_true zw
    exact ⟨0,by simp_all? only [t3,ix,tw,ln,t1],.inl rfl⟩
   .have tw:(w = "wait")=False:=eq_false zw
    exact ⟨wy,by simp_all? only [t3,ix,tw,ln,t1],.inr ⟨rfl,z1,fun z=>zw z.2⟩⟩
  .have t3:(wy=3)=False:=eq_false z3
   exact ⟨wy,by simp_all? only [t3,ix,ln,t1],.inr ⟨rfl,z1,fun z=>z3 z.1⟩⟩
theorem yBx (e:l[k]?=some w) (hl:l.length<=1000) (ht:t≠"") (hw:wy=0\/wy=1\/wy=2\/wy=3):∃ l',spB (spS h t wy nu k x) (h++[.lst (l.map .str)])=some (.nx (spS h t wy nu k x),h++[.lst (l'.map .str)])/\((wy=0/\l'=l.take k++x::w::l.drop (k+1))\/(wy=1/\l'=l.take k++x::l.drop (k+1))\/(wy=2/\l'=l.take k++w::w::l.drop (k+1))\/(wy=3/\l'=l.take k++l.drop (k+1))):=by
 obtain ⟨hk,ek⟩:=List.getElem?_eq_some_iff.mp e
 have em:(l.map PV.str)[k]?=some (.str w):=by rw [getElem?_map,e];rfl
 have ix:=yFG (h:=h) em
 have il:=yBv (h:=h) (xs:=l.map .str)
 have ed:l.drop k=w::l.drop (k+1):=by rw [List.drop_eq_getElem_cons hk,ek]
 have te:(t = "")=False:=eq_false ht
 unfold spB
 rcases hw with rfl|rfl|rfl|rfl
 .have q:=yxw (h:=h) (xs:=l.map .str) (k:=k) (y:=.str x) (by rw [length_map];omega) (by rw [length_map];omega)
  rw [<- List.map_take,<- List.map_drop,ed,<- map_cons,<- map_append] at q
  exact ⟨_,by simp_all? only [il,q,te],.inl ⟨rfl,rfl⟩⟩
 .have q:=yEE (h:=h) (xs:=l.map .str) (k:=k) (y:=.str x) (ρ:=spS h t 1 nu k x) (eo:=ye 3) (ei:=ye 4) (ev:=ye 5) rfl rfl rfl (by rw [length_map];omega)
  rw [List.set_eq_take_append_cons_drop,if_pos (by rw [length_map];omega),<- List.map_take,<- List.map_drop,<- map_cons,<- map_append] at q
  exact ⟨_,by simp_all? only [te,q],.inr (.inl ⟨rfl,rfl⟩)⟩
 .have q:=yxw (h:=h) (xs:=l.map .str) (k:=k) (y:=.str w) (by rw [length_map];omega) (by rw [length_map];omega)
  rw [<- List.map_take,<- List.map_drop,ed,<- map_cons,<- map_append] at q
  exact ⟨_,by simp_all? only [il,ix,q,te],.inr (.inr (.inl ⟨rfl,rfl⟩))⟩
 .have q:=yED (h:=h) em (by rw [length_map];omega)
  rw [List.eraseIdx_eq_take_drop_succ,<- List.map_take,<- List.map_drop,<- map_append] at q
  exact ⟨_,by simp_all? only [il,q,te],.inr (.inr (.inr ⟨rfl,rfl⟩))⟩
end
open Sy
section
variable {h:AH}{t w x:Str}{l:List Str}{wy nu:Int}{k:Nat}
theorem yxx {x:Str}(h:x∈OD):wf (tk x)/\(tk x).length<=2/\x.length<=20:=by
 have q:∀ x∈OD,(∀ w∈tk x,32∉w.cps.toList/\w.length<=20)/\(tk x).length<=2/\x.length<=20:=by rfl'
 exact q x h
theorem yFH (x:Str):1<=(tk x).length:=by
 unfold tk
 split
 .decide
 .split<;>simp
theorem yfr {a b:List Str}(h1:wf a) (h2:wf b):wf (a++b):=fun w hw=>(List.mem_append.mp hw).elim (h1 w) (h2 w)
theorem yfs {b:List Str}(h1:32∉w.cps.toList/\w.length<=20) (h2:wf b):wf (w::b):=fun v hv=>(mem_cons.mp hv).elim (fun e=>e ▸ h1) (h2 v)
theorem yrm:∀ {l:List Str},(∀ w∈l,w.length<=20)->(l.map (·.length)).sum<=20*l.length
 | [],_=>by simp
 | x::l,f=>by
  have h1:=f x mem_cons_self
  have h2:=yrm fun w hw=>f w (mem_cons_of_mem _ hw)
  rw [map_cons,List.sum_cons,length_cons]
  omega
theorem yBy (hl:t.length<=100000) {r:PSt}:yqy (ye 0) (yb (xC (.str " ")) (yk)) (.val (.str t)::r) h=some (.lst ((ymn t).map .str),h):=by
 rw [yzW,ynj,ydi,if_pos yqk,yuk,x_c,ydi,yzw,ydi,ydi,yqw hl]
 rfl
theorem ytN (a:Acc [L] l) (f:wf l) (hl:l.length<=900) (e:l[k]?=some w) (hx:x∈OD) (h1:wy≠0->l.length≠1) (h3:¬ (wy=3/\w = "wait")) {l':List Str}(q:(wy=0/\l'=l.take k++x::w::l.drop (k+1))\/(wy=1/\l'=l.take k++x::l.drop (k+1))\/(wy=2/\l'=l.take k++w::w::l.drop (k+1))\/(wy=3/\l'=l.take k++l.drop (k+1))) (hne:∀ w∈l,w.length≠0):Rf (Str.join " " l')/\(∀ w∈l',w.length<=20)/\l'.length<=902:=by
 obtain ⟨hk,ek⟩:=List.getElem?_eq_some_iff.mp e
 have el:l=l.take k++w::l.drop (k+1):=by
  conv=>lhs;rw [<- List.take_append_drop k l,List.drop_eq_getElem_cons hk,ek]
 have lt:(l.take k).length=k:=by rw [length_take];omega
 have ld:(l.drop (k+1)).length=l.length-(k+1):=by rw [length_drop]
 have fa:wf (l.take k):=fun v hv=>f v (List.mem_of_mem_take hv)
 have fb:wf (l.drop (k+1)):=fun v hv=>f v (List.mem_of_mem_drop hv)
 have fw:=f w (mem_of_getElem? e)
 have o:=yxx hx
 have o1:=yFH x
 rw [el] at a
 generalize l.take k=A at *
 generalize l.drop (k+1)=B at *
 have ll:∀ v∈A,v.length<=20:=fun v hv=>(fa v hv).2
 have lr:∀ v∈B,v.length<=20:=fun v hv=>(fb v hv).2
 have ap:∀ {a b:List Str},(∀ w∈a,w.length<=20)->(∀ w∈b,w.length<=20)->∀ w∈a++b,w.length<=20:=fun h1 h2 w hw=>(List.mem_append.mp hw).elim (h1 w) (h2 w)
 have cs:∀ {w:Str}{b:List Str},w.length<=20->(∀ w∈b,w.length<=20)->∀ v∈w::b,v.length<=20:=fun h1 h2 v hv=>(mem_cons.mp hv).elim (fun e=>e ▸ h1) (h2 v)
 rcases q with ⟨rfl,rfl⟩|⟨rfl,rfl⟩|⟨rfl,rfl⟩|⟨rfl,rfl⟩
 .refine ⟨?_,ap ll (cs o.2.2 (cs fw.2 lr)),by simp only [length_append,length_cons];omega⟩
  rw [ymF hx]
  obtain ⟨e1,T⟩:=yjZ (l:=A++(tk x++w::B)) (yfr fa (yfr o.1 (yfs fw fb))) (by simp only [length_append,length_cons];omega) (.inl (yfU (by simp only [length_append,length_cons];omega)))
  exact yjY T (by rw [e1];exact yBn a hx)
 .have h1:=h1 (by decide)
  refine ⟨?_,ap ll (cs o.2.2 lr),by simp only [length_append,length_cons];omega⟩
  rw [ymF hx]
  obtain ⟨e1,T⟩:=yjZ (l:=A++(tk x++B)) (yfr fa (yfr o.1 fb)) (by simp only [length_append];omega) (.inl (yfU (by simp only [length_append];omega)))
  exact yjY T (by rw [e1];exact yBo a hx)
 .refine ⟨?_,ap ll (cs fw.2 (cs fw.2 lr)),by simp only [length_append,length_cons];omega⟩
  obtain ⟨e1,T⟩:=yjZ (l:=A++w::w::B) (yfr fa (yfs fw (yfs fw fb))) (by simp only [length_append,length_cons];omega) (.inl (yfU (by simp only [length_append,length_cons];omega)))
  exact yjY T (by rw [e1];exact yBp a)
 .have h1:=h1 (by decide)
  refine ⟨?_,ap ll lr,by simp only [length_append];omega⟩
  have ne:Str.join " " (A++B)≠"":=by
   have h2:1<=(A++B).length:=by rw [length_append];omega
   have hne':∀ v∈A++B,v.length≠0:=fun v hv=>hne v (by rw [el];exact (List.mem_append.mp hv).elim (fun z=>List.mem_append_left _ z) (fun z=>mem_append_right _ (mem_cons_of_mem _ z)))
   generalize A++B=C at *
   match C,h2 with
   | [v],_ =>
    intro z
    have z:v = "":=z
    exact hne' v mem_cons_self (by rw [z];exact ynr)
   | x::y::C,_=>exact yuQ
  obtain ⟨e1,T⟩:=yjZ (l:=A++B) (yfr fa fb) (by rw [length_append];omega) (.inl ne)
  exact yjY T (by rw [e1];exact yBq a fun z=>h3 ⟨rfl,z⟩)
end
open Sy
section
variable {h:AH}{wy nu:Int}
theorem ylv {t:Str}{l:List Str}{k:Nat}{x w:Str}(es:ymn t=l) (hl:l.length<=900) (h1:1<=l.length) (htl:t.length<=60000) (hn:nu%(l.length:Nat)=(k:Nat)) (ew:l[k]?=some w) (ox:∀ h,ycy [.int (nu/1009)] h=some (.str x,h)) {wy':Int}{ρ:PSt}{h2:AH}{l':List Str}{n:Nat}
  (eA:spA (spS h t wy nu k x) (h++[.lst (l.map .str)])=some (.nx (spS h t wy' nu k x),h++[.lst (l.map .str)]))
  (eB:spB (spS h t wy' nu k x) (h++[.lst (l.map .str)])=some (.nx ρ,h2)) (e3:ye 3 ρ h2=some (.loc n,h2)) (ej:yeC (.str " ") [.loc n] h2=some (.str (Str.join " " l'),h2)):ycY [.str t,.int wy,.int nu] h=some (.str (Str.join " " l'),h2):=by
 have sp:=yBy (h:=h) (t:=t) (r:=[.val (.int wy),.val (.int nu),.no,.no,.no]) (by omega)
 rw [es] at sp
 have ln:=yBu (h:=h) (xs:=l.map .str)
 rw [length_map] at ln
 have p0:((0:Int)<(l.length:Nat))=True:=eq_true (by omega)
 have eR:yBU ρ h2=some (.rt (.str (Str.join " " l')),h2):=by
  unfold yBU
  simp_all? only [e3,ej]
 unfold ycY
 rw [yN]
 show ob (yw _ (yw _ (yw _ (yw spA (yw spB yBU)))) [.val (.str t),.val (.int wy),.val (.int nu),.no,.no,.no] h) fnK=_
 have eA':=eA
 unfold spS at eA' eB
 simp_all? only [sp,ln,p0,hn,ox,eA',eB,eR]
theorem yrn {ts:List T}(g:OkL ts) (hw:wy=0\/wy=1\/wy=2\/wy=3) (hn:0<=nu):∃ t' h',ycY [.str (ycR ts),.int wy,.int nu] h=some (.str t',h')/\Rf t':=by
 obtain ⟨x,ox,hx⟩:=yBw (nu/1009)
 have et:ycR ts=Str.join " " (wdL ts):=ycj ts g.gd
 have fr:=yfo g.gd
 have w10:=ygr g.gd
 have lg:=g.lg
 by_cases z:ts=[]
 .subst z
  obtain ⟨wy',eA,qA⟩:=yuS (h:=h) (t:="") (wy:=wy) (nu:=nu) (x:=x) (l:=[""]) (k:=0) rfl
  have hz:wy'=0:=qA.elim id fun q=>(q.2.1 rfl).elim
  subst hz
  have rf:Rf (Str.join " " ["wait",x]):=by
   have o:=yxx hx
   have o1:=yFH x
   rw [show (["wait",x]:List Str)=[("wait":Str)]++x::[] from rfl,ymF hx]
   obtain ⟨e1,T⟩:=yjZ (l:=(["wait"]:List Str)++(tk x++[])) (yfr (yfs (by rfl') fun _ z=>absurd z not_mem_nil) (yfr o.1 fun _ z=>absurd z not_mem_nil)) (by simp only [length_append,length_cons,length_nil];omega) (.inl (yfU (by simp only [length_append,length_cons,length_nil];omega)))
   refine yjY T ?_
   rw [e1,append_nil]
   intro a
   obtain ⟨τ,e,a2⟩:=ydw a
   have:τ=[M]:=by
    have q:st [L] "wait" = some [M]:=by rfl'
    rw [q] at e
    exact (Option.some.inj e).symm
   subst this
   have a2:Acc [M] (tk x):=a2
   rcases aM a2 with z|⟨v,b,eb,hv⟩
   .rw [z] at o1;simp at o1
   .have q:∀ x∈OD,(tk x).head?≠some (";":Str)/\(tk x).head?≠some (")":Str):=by rfl'
    have:=q x hx
    rw [eb] at this
    rcases hv with rfl|rfl
    .exact this.1 rfl
    .exact this.2 rfl
  refine ⟨_,_,ylv (t:="") (l:=[""]) (k:=0) (l':=["wait",x]) (n:=h.length+1) (h2:=(h++[.lst [.str x,.str ""]])++[.lst [.str "wait",.str x]]) (ρ:=[.val (.str ""),.val (.int 0),.val (.int nu),.val (.loc (h.length+1)),.val (.int ((0:Nat):Int)),.val (.str x)]) (by rfl') (by decide) (by decide) (by rfl') (by show nu%1=0;omega) rfl ox eA ?_ rfl ?_,rf⟩
  .have q:=yxw (h:=h) (xs:=[.str ""]) (k:=0) (y:=.str x) (by decide) (by decide)
   have il:=yBv (h:=h) (xs:=[.str ""])
   have q:ymp (.loc h.length) [.int ((0:Nat):Int),.str x] (h++[.lst [.str ""]])=some (.non,h++[.lst [.str x,.str ""]]):=q
   have ll:(h++[Nd.lst [.str x,.str ""]]).length=h.length+1:=by simp
   unfold spB
   show yck _ _ _ [.val (.str ""),.val (.int 0),.val (.int nu),.val (.loc h.length),.val (.int ((0:Nat):Int)),.val (.str x)] (h++[.lst [.str ""]])=_
   simp_all? only [il,q,ll]
  .have q:=yuR (h:=h++[Nd.lst [.str x,.str ""]]) (l:=["wait",x]) (by have:=(yxx hx).2.2;simp only [map_cons,map_nil,List.sum_cons,List.sum_nil,length_cons,length_nil,yux];omega)
   rw [show (h++[Nd.lst [PV.str x,PV.str ""]]).length=h.length+1 by simp] at q
   exact q
 .have ne:wdL ts≠[]:=by
   cases ts with
   | nil=>exact absurd rfl z
   | cons t r=>exact fun q=>yqQ g.gd.1 (List.append_eq_nil_iff.mp q).1
  have tn:ycR ts≠"":=by rw [et];exact yig fr ne
  have es:ymn (ycR ts)=wdL ts:=by rw [et];exact ygh _ ne fun w hw=>(fr w hw).1
  have l1:1<=(wdL ts).length:=by
   cases q:wdL ts with
   | nil=>exact absurd q ne
   | cons a b=>simp
  have jl:=ymG (ynK fr)
  rw [<- et] at jl
  obtain ⟨k,hk⟩:∃ k:Nat,nu%((wdL ts).length:Nat)=(k:Nat):=⟨(nu%((wdL ts).length:Nat)).toNat,by have:=Int.emod_nonneg nu (show ((wdL ts).length:Int)≠0 by omega);omega⟩
  have hk2:k<(wdL ts).length:=by have:=Int.emod_lt_of_pos nu (show (0:Int)<(wdL ts).length by omega);omega
  have ew:(wdL ts)[k]?=some (wdL ts)[k]:=List.getElem?_eq_getElem hk2
  generalize (wdL ts)[k]=w at ew
  obtain ⟨wy',eA,qA⟩:=yuS (h:=h) (t:=ycR ts) (wy:=wy) (nu:=nu) (x:=x) ew
  obtain ⟨l',eB,qB⟩:=yBx (h:=h) (t:=ycR ts) (wy:=wy') (nu:=nu) (x:=x) ew (by omega) tn (by
   rcases qA with rfl|⟨rfl,_⟩
   .exact .inl rfl
   .exact hw)
  obtain ⟨r,b20,bl⟩:=ytN (ytM g) (ynK fr) (by omega) ew hx (by
   rcases qA with rfl|⟨rfl,q,_⟩
   .exact fun z=>absurd rfl z
   .exact fun _=>q) (by
   rcases qA with rfl|⟨rfl,_,q⟩
   .exact fun z=>by cases z.1
   .exact q) qB (fun w hw=>(fr w hw).2.1)
  refine ⟨_,_,ylv es (by omega) l1 (by omega) hk ew ox eA eB rfl (yuR (by have:=yrm b20;omega)),r⟩
end
open Sy
noncomputable def OT:List Str:=([" ",";","( )","( wait )","wait ;","; wait","wait;wait","wait wait","let a","let a 05","let i 5","let ab 5","plus a b","plus a b c d","over a b c","take a","put a b c","throw a","throw A a","throw abcdefghi a"]:List Str)++(["if a ( )","if a ( ) else","if a ( ) or ( )","if ( ) else ( )","either ( )","either ( ) else ( )","either a ( ) or ( )","try ( ) on x ( )","try ( ) on a b","try ( ) on X a ( )","try ( ) or x a ( )","if a ( wait else ( )","if a wait else ( )","lay","settle","jump 1","either ( ; ) or ( )","either ( wait ; ) or ( )","if a ( ) else ( ) )","("]:List Str)
def yEF (ws:List Str):Bool:=match go [L] ws with|some τ=>decide (τ=[L]) || decide (τ=[M])|none=>false
theorem yEG {ws:List Str}(h:yEF ws=false):¬ Acc [L] ws:=fun ⟨τ,e,f⟩=>by
 unfold yEF at h
 rw [e] at h
 rcases f with rfl|rfl<;>exact absurd h (by decide)
theorem yEH {t:Str}(h:t∈OT):Rf t:=by
 have q:∀ t∈OT,txB t=true/\yEF (ybG t)=false:=by rfl'
 exact yjY (q t h).1 (yEG (q t h).2)
section
variable {h:AH}
theorem yBz (n:Int):∃ x,(∀ h,ycX [.int n] h=some (.str x,h))/\x∈OT:=by
 have m0:=Int.emod_nonneg n (show (40:Int)≠0 by decide)
 have m1:=Int.emod_lt_of_pos n (show (0:Int)<40 by decide)
 obtain ⟨j,hj⟩:∃ j:Nat,n%40=(j:Nat):=⟨(n%40).toNat,by omega⟩
 have hj2:j<OT.length:=by show j<40;omega
 have e:atI (OT.map PV.str) (n%40)=some (.str OT[j]):=by
  rw [hj]
  exact ydr (by rw [getElem?_map,List.getElem?_eq_getElem hj2];rfl)
 refine ⟨OT[j],fun h=>?_,List.getElem_mem hj2⟩
 have e2:yfM (.lst (OT.map .str)) (.int (n%40)) h=some (.str OT[j],h):=by
  unfold yfM
  simp only [e]
 have q:ycX [.int n] h=ob (ob (yfM (.lst (OT.map .str)) (.int (n%40)) h) fun x h1=>some (Out.rt x,h1)) fnK:=by kernel_rfl!
 rw [q,e2]
 rfl
theorem yBA {ts:List T}(g:OkL ts):∃ l,ycR ts=Str.join " " l/\wf l/\1<=l.length/\l.length<=900:=by
 have et:ycR ts=Str.join " " (wdL ts):=ycj ts g.gd
 have w10:=ygr g.gd
 have lg:=g.lg
 by_cases z:wdL ts=[]
 .refine ⟨[""],?_,yfs (by rfl') fun _ z=>absurd z not_mem_nil,by decide,by decide⟩
  rw [et,z]
  rfl'
 .exact ⟨wdL ts,et,ynK (yfo g.gd),by cases q:wdL ts with
   | nil=>exact absurd q z
   | cons a b=>simp,by omega⟩
theorem yEI:Nv "":=by rfl'
theorem yxy {a b:List Str}(ha:a≠[]) (hb:b≠[]):Str.join " " a++" "++Str.join " " b=Str.join " " (a++b):=(ybS ha hb).symm
theorem blank_eq {ts:List T}(g:OkL ts) {w:Int}(hw:w=0\/w=1\/w=2):∃ t',ycQ [.str (ycR ts),.int w] h=some (.str t',h)/\Rf t':=by
 obtain ⟨l,et,f,l1,l9⟩:=yBA g
 have jl:=ymG f
 rw [<- et] at jl
 have ne:l≠[]:=fun z=>by rw [z] at l1;exact absurd l1 (by decide)
 have f0:wf [""]:=yfs (by rfl') fun _ z=>absurd z not_mem_nil
 rcases hw with rfl|rfl|rfl
 .have e:(" ":Str)++ycR ts=Str.join " " ([("":Str)]++l):=by
   rw [<- yxy (fun z=>by cases z) ne,et]
   rw [show Str.join " " [("":Str)]++" " = " " by rfl']
  have ad:ybJ (.str " ") (.str (ycR ts)) h=some (.str (Str.join " " ([("":Str)]++l)),h):=by
   rw [ydJ,if_pos (by rw [show (" ":Str).length=1 from My.l1];omega),e]
  obtain ⟨e1,T⟩:=yjZ (l:=[("":Str)]++l) (yfr f0 f) (by simp only [length_append,length_cons,length_nil];omega) (.inl (yfU (by simp only [length_append,length_cons,length_nil];omega)))
  refine ⟨_,?_,yjY T (by rw [e1];exact yip (a:=[]) yEI)⟩
  unfold ycQ
  rw [yN]
  show ob (yw _ _ [.val (.str (ycR ts)),.val (.int 0)] h) fnK=_
  simp_all? only [ad,-ydJ]
 .have e:ycR ts++(" ":Str)=Str.join " " (l++[("":Str)]):=by
   rw [<- yxy ne (fun z=>by cases z),et]
   rw [yci,show (" ":Str)++Str.join " " [("":Str)] = " " by rfl']
  have ad:ybJ (.str (ycR ts)) (.str " ") h=some (.str (Str.join " " (l++[("":Str)])),h):=by
   rw [ydJ,if_pos (by rw [show (" ":Str).length=1 from My.l1];omega),e]
  obtain ⟨e1,T⟩:=yjZ (l:=l++[("":Str)]) (yfr f f0) (by simp only [length_append,length_cons,length_nil];omega) (.inl (yfU (by simp only [length_append,length_cons,length_nil];omega)))
  refine ⟨_,?_,yjY T (by rw [e1];exact yip yEI)⟩
  unfold ycQ
  rw [yN]
  show ob (yw _ _ [.val (.str (ycR ts)),.val (.int 1)] h) fnK=_
  simp_all? only [ad,-ydJ]
 .have e:("wait ;  ":Str)++ycR ts=Str.join " " ((["wait",";",""]:List Str)++l):=by
   rw [<- yxy (fun z=>by cases z) ne,et]
   rw [show Str.join " " (["wait",";",""]:List Str)++" " = "wait ;  " by rfl']
  have ad:ybJ (.str "wait ;  ") (.str (ycR ts)) h=some (.str (Str.join " " ((["wait",";",""]:List Str)++l)),h):=by
   rw [ydJ,if_pos (by rw [show ("wait ;  ":Str).length=8 by rfl'];omega),e]
  obtain ⟨e1,T⟩:=yjZ (l:=(["wait",";",""]:List Str)++l) (yfr (yfs (by rfl') (yfs (by rfl') f0)) f) (by simp only [length_append,length_cons,length_nil];omega) (.inl (yfU (by simp only [length_append,length_cons,length_nil];omega)))
  refine ⟨_,?_,yjY T (by rw [e1];exact yip (a:=["wait",";"]) yEI)⟩
  unfold ycQ
  rw [yN]
  show ob (yw _ _ [.val (.str (ycR ts)),.val (.int 2)] h) fnK=_
  simp_all? only [ad,-ydJ]
end
section
variable {ws:List Str}{k d:Nat}
theorem yoT {w rest:List Str}(h:∀ (k:Nat) (rest:List Str),ws.drop k=w++rest->mLs (mP ws d) ws k=none) (e:ws.drop k=("(":Str)::(w++(")":Str)::rest)):mSd (mP ws d) ws k=none:=by
 unfold mSd
 rw [yjV e]
 dsimp only
 rw [h (k+1) _ (ydF e).2]
mutual
theorem yuT:∀ {t:T}{d:Nat},gdT t->ycM t<=800->(d:Int)<=rdT t->∀ (k:Nat) (rest:List Str),ws.drop k=wdT t++rest->mP ws d k=none
 | t,0,_,_,_,_,_,_=>rfl
 | .base,d+1,g,_,_,_,_,_=>g.elim
 | .let_ ..,d+1,_,_,h,_,_,_=>by have h:((d+1:Nat):Int)<=0:=h;omega
 | .reckon ..,d+1,_,_,h,_,_,_=>by have h:((d+1:Nat):Int)<=0:=h;omega
 | .take ..,d+1,_,_,h,_,_,_=>by have h:((d+1:Nat):Int)<=0:=h;omega
 | .put ..,d+1,_,_,h,_,_,_=>by have h:((d+1:Nat):Int)<=0:=h;omega
 | .throw ..,d+1,_,_,h,_,_,_=>by have h:((d+1:Nat):Int)<=0:=h;omega
 | .wait,d+1,_,_,h,_,_,_=>by have h:((d+1:Nat):Int)<=0:=h;omega
 | .if_ r a b,d+1,g,hl,h,k,rest,e=>by
  have h:((d+1:Nat):Int)<=max 0 (max (1+rdL a) (1+rdL b)):=h
  have la:=yT g.2.1
  have lb:=yT g.2.2
  have hl:2+(yt a).sum+(yt b).sum<=800:=hl
  have e:ws.drop k=("if":Str)::r::("(":Str)::(wdL a++(")":Str)::("else":Str)::("(":Str)::(wdL b++(")":Str)::rest)):=by
   rw [e]
   show (("if":Str)::r::(wsd (wdL a)++("else":Str)::wsd (wdL b)))++rest=_
   simp [wsd]
  obtain ⟨e1,e2⟩:=ydF e
  have e3:=(ydF e2).2
  unfold mP
  rw [e1]
  dsimp only
  rw [if_pos rfl]
  unfold yrH
  rw [ygU e2 (yer g.1)]
  dsimp only
  by_cases z:(d:Int)<=rdL a
  .rw [yoT (yiq g.2.1 (by omega) z) e3]
  .have e4:ws.drop (k+1+1+1+(wdL a).length+1)=("else":Str)::("(":Str)::(wdL b++(")":Str)::rest):=(ydF (yin (ydF e3).2)).2
   rw [ytI (yfq (d:=d) g.2.1 (by omega) (by omega)) e3]
   dsimp only
   rw [yjV e4]
   dsimp only
   rw [yoT (yiq (d:=d) g.2.2 (by omega) (by omega)) (ydF e4).2]
 | .either a b,d+1,g,hl,h,k,rest,e=>by
  have h:((d+1:Nat):Int)<=max 0 (max (1+rdL a) (1+rdL b)):=h
  have la:=yT g.1
  have lb:=yT g.2
  have hl:3+(yt a).sum+(yt b).sum<=800:=hl
  have e:ws.drop k=("either":Str)::("(":Str)::(wdL a++(")":Str)::("or":Str)::("(":Str)::(wdL b++(")":Str)::rest)):=by
   rw [e]
   show (("either":Str)::(wsd (wdL a)++("or":Str)::wsd (wdL b)))++rest=_
   simp [wsd]
  obtain ⟨e1,e3⟩:=ydF e
  unfold mP
  rw [e1]
  dsimp only
  rw [if_neg (by rfl'),if_pos rfl]
  unfold ydj
  by_cases z:(d:Int)<=rdL a
  .rw [yoT (yiq g.1 (by omega) z) e3]
  .have e4:ws.drop (k+1+1+(wdL a).length+1)=("or":Str)::("(":Str)::(wdL b++(")":Str)::rest):=(ydF (yin (ydF e3).2)).2
   rw [ytI (yfq (d:=d) g.1 (by omega) (by omega)) e3]
   dsimp only
   rw [yjV e4]
   dsimp only
   rw [yoT (yiq (d:=d) g.2 (by omega) (by omega)) (ydF e4).2]
 | .try_ a nm r b,d+1,g,hl,h,k,rest,e=>by
  have h:((d+1:Nat):Int)<=max 0 (max (1+rdL a) (1+rdL b)):=h
  have la:=yT g.2.2.1
  have lb:=yT g.2.2.2
  have hl:3+(yt a).sum+(yt b).sum<=800:=hl
  have e:ws.drop k=("try":Str)::("(":Str)::(wdL a++(")":Str)::("on":Str)::nm::r::("(":Str)::(wdL b++(")":Str)::rest)):=by
   rw [e]
   show (("try":Str)::(wsd (wdL a)++("on":Str)::nm::r::wsd (wdL b)))++rest=_
   simp [wsd]
  obtain ⟨e1,e3⟩:=ydF e
  unfold mP
  rw [e1]
  dsimp only
  rw [if_neg (by rfl'),if_neg (by rfl'),if_pos rfl]
  unfold yiB
  by_cases z:(d:Int)<=rdL a
  .rw [yoT (yiq g.2.2.1 (by omega) z) e3]
  .have e4:ws.drop (k+1+1+(wdL a).length+1)=("on":Str)::nm::r::("(":Str)::(wdL b++(")":Str)::rest):=(ydF (yin (ydF e3).2)).2
   have e5:=(ydF e4).2
   have e6:=(ydF e5).2
   rw [ytI (yfq (d:=d) g.2.2.1 (by omega) (by omega)) e3]
   dsimp only
   rw [yjV e4]
   dsimp only
   rw [yxr e5 (yrh g.1)]
   dsimp only
   rw [ygU e6 (yer g.2.1)]
   dsimp only
   rw [yoT (yiq (d:=d) g.2.2.2 (by omega) (by omega)) (ydF e6).2]
theorem yiq:∀ {ts:List T}{d:Nat},gdL ts->(yt ts).sum<=800->(d:Int)<=rdL ts->∀ (k:Nat) (rest:List Str),ws.drop k=wdL ts++rest->mLs (mP ws d) ws k=none
 | [],_,_,_,h,_,_,_=>by have h:_<=(-1:Int):=h;omega
 | t::r,d,g,hl,h,k,rest,e=>by
  have h:(d:Int)<=max (rdT t) (rdL r):=h
  have hl:ycM t+(yt r).sum<=800:=hl
  have l1:=yhC g.1
  have l2:=yT g.2
  obtain ⟨w,tl,ew,nw⟩:=fw g.1
  have e:ws.drop k=wdT t++(wdR r++rest):=by rw [e];show (wdT t++wdR r)++rest=_;rw [append_assoc]
  have e0:=e
  rw [ew] at e0
  unfold mLs
  rw [(ydF e0).1]
  dsimp only
  rw [if_neg nw]
  by_cases z:(d:Int)<=rdT t
  .rw [yuT g.1 (by omega) z k _ e]
  .rw [(yri (d:=d) g.1 (by omega) (by omega)).1 ws k _ e]
   dsimp only
   exact yuU g.2 (by omega) (by omega) 1000 _ _ rest (by omega) (yin e)
theorem yuU:∀ {ts:List T}{d:Nat},gdL ts->(yt ts).sum<=800->(d:Int)<=rdL ts->∀ (f:Nat) (acc:List PV) (k:Nat) (rest:List Str),ts.length<f->ws.drop k=wdR ts++rest->mLp (mP ws d) ws f acc k=none
 | [],_,_,_,h,_,_,_,_,_,_=>by have h:_<=(-1:Int):=h;omega
 | t::r,d,g,hl,h,0,acc,k,rest,hf,e=>by cases hf
 | t::r,d,g,hl,h,f+1,acc,k,rest,hf,e=>by
  have h:(d:Int)<=max (rdT t) (rdL r):=h
  have hl:ycM t+(yt r).sum<=800:=hl
  have l1:=yhC g.1
  have l2:=yT g.2
  have e:ws.drop k=(";":Str)::(wdT t++(wdR r++rest)):=by rw [e];show ((";":Str)::(wdT t++wdR r))++rest=_;simp
  obtain ⟨e1,e2⟩:=ydF e
  unfold mLp
  rw [if_pos e1]
  by_cases z:(d:Int)<=rdT t
  .rw [yuT g.1 (by omega) z _ _ e2]
  .rw [(yri (d:=d) g.1 (by omega) (by omega)).1 ws (k+1) _ e2]
   dsimp only
   exact yuU g.2 (by omega) (by omega) f _ _ rest (by simp at hf;omega) (yin e2)
end
end
def PA:List (Str×Str):=[("if b (",") else ( )"),("if b ( ) else (",")"),("either (",") or ( )"),("either ( ) or (",")"),("try (",") on x a ( )"),("try ( ) on x a (",")")]
def pV (p:Str×Str):PV:=.lst [.str p.1,.str p.2]
def cP (p:Str×Str):Int:=if ¬ yxF p.1 none (some 2) = "if" then 1 else 0
noncomputable def ylw:Nat->List T->T
 | 0,ts=>.if_ "b" ts []
 | 1,ts=>.if_ "b" [] ts
 | 2,ts=>.either ts []
 | 3,ts=>.either [] ts
 | 4,ts=>.try_ ts "x" "a" []
 | _,ts=>.try_ [] "x" "a" ts
noncomputable def yrI:Nat->List Str
 | 0=>["if","b","("]
 | 1=>["if","b","(",")","else","("]
 | 2=>["either","("]
 | 3=>["either","(",")","or","("]
 | 4=>["try","("]
 | _=>["try","(",")","on","x","a","("]
def yrJ:Nat->List Str
 | 0=>[")","else","(",")"]
 | 2=>[")","or","(",")"]
 | 4=>[")","on","x","a","(",")"]
 | _=>[")"]
theorem yxz {j:Nat}(hj:j<6) (ts:List T):wdL [ylw j ts]=yrI j++wdL ts++yrJ j:=by
 show wdT (ylw j ts)++[]=_
 rw [append_nil]
 rcases (show j=0\/j=1\/j=2\/j=3\/j=4\/j=5 by omega) with rfl|rfl|rfl|rfl|rfl|rfl
 .show ("if":Str)::"b"::(wsd (wdL ts)++("else":Str)::wsd [])=_
  simp [wsd,yrI,yrJ]
 .show ("if":Str)::"b"::(wsd []++("else":Str)::wsd (wdL ts))=_
  simp [wsd,yrI,yrJ]
 .show ("either":Str)::(wsd (wdL ts)++("or":Str)::wsd [])=_
  simp [wsd,yrI,yrJ]
 .show ("either":Str)::(wsd []++("or":Str)::wsd (wdL ts))=_
  simp [wsd,yrI,yrJ]
 .show ("try":Str)::(wsd (wdL ts)++("on":Str)::"x"::"a"::wsd [])=_
  simp [wsd,yrI,yrJ]
 .show ("try":Str)::(wsd []++("on":Str)::"x"::"a"::wsd (wdL ts))=_
  simp [wsd,yrI,yrJ]
theorem yEJ:ydn "a":=⟨97,by decide,by decide,by rfl'⟩
theorem yBB:ydn "b":=⟨98,by decide,by decide,by rfl'⟩
theorem yFI:yiZ "x":=⟨by rfl',by rfl',by rfl'⟩
theorem yxA {j:Nat}(hj:j<6) {ts:List T}(g:gdL ts):gdL [ylw j ts]/\rdL [ylw j ts]=max 0 (1+rdL ts)/\(yt [ylw j ts]).sum=(yt ts).sum+2+cP (PA.getD j ("",""))/\ybz [ylw j ts]<=ybz ts+1:=by
 have r0:(yt ([]:List T)).sum=0:=rfl
 have q:∀ t:T,rdL [t]=max (rdT t) (-1)/\(yt [t]).sum=ycM t+0/\ybz [t]=max (yhA t) 0:=fun t=>⟨rfl,rfl,rfl⟩
 obtain ⟨q1,q2,q3⟩:=q (ylw j ts)
 rw [q1,q2,q3]
 rcases (show j=0\/j=1\/j=2\/j=3\/j=4\/j=5 by omega) with rfl|rfl|rfl|rfl|rfl|rfl
 .refine ⟨⟨⟨yBB,g,trivial⟩,trivial⟩,?_,?_,?_⟩
  .show max (max 0 (max (1+rdL ts) (1 + -1))) (-1)=_;omega
  .rw [show cP (PA.getD 0 ("",""))=0 by rfl'];show 2+(yt ts).sum+0+0=_;omega
  .show max (1+max (ybz ts) 0) 0<=_;omega
 .refine ⟨⟨⟨yBB,trivial,g⟩,trivial⟩,?_,?_,?_⟩
  .show max (max 0 (max (1 + -1) (1+rdL ts))) (-1)=_;omega
  .rw [show cP (PA.getD 1 ("",""))=0 by rfl'];show 2+0+(yt ts).sum+0=_;omega
  .show max (1+max 0 (ybz ts)) 0<=_;omega
 .refine ⟨⟨⟨g,trivial⟩,trivial⟩,?_,?_,?_⟩
  .show max (max 0 (max (1+rdL ts) (1 + -1))) (-1)=_;omega
  .rw [show cP (PA.getD 2 ("",""))=1 by rfl'];show 3+(yt ts).sum+0+0=_;omega
  .show max (1+max (ybz ts) 0) 0<=_;omega
 .refine ⟨⟨⟨trivial,g⟩,trivial⟩,?_,?_,?_⟩
  .show max (max 0 (max (1 + -1) (1+rdL ts))) (-1)=_;omega
  .rw [show cP (PA.getD 3 ("",""))=1 by rfl'];show 3+0+(yt ts).sum+0=_;omega
  .show max (1+max 0 (ybz ts)) 0<=_;omega
 .refine ⟨⟨⟨yFI,yEJ,g,trivial⟩,trivial⟩,?_,?_,?_⟩
  .show max (max 0 (max (1+rdL ts) (1 + -1))) (-1)=_;omega
  .rw [show cP (PA.getD 4 ("",""))=1 by rfl'];show 3+(yt ts).sum+0+0=_;omega
  .show max (1+max (ybz ts) 0) 0<=_;omega
 .refine ⟨⟨⟨yFI,yEJ,trivial,g⟩,trivial⟩,?_,?_,?_⟩
  .show max (max 0 (max (1 + -1) (1+rdL ts))) (-1)=_;omega
  .rw [show cP (PA.getD 5 ("",""))=1 by rfl'];show 3+0+(yt ts).sum+0=_;omega
  .show max (1+max 0 (ybz ts)) 0<=_;omega
def Sm (l W:List Str):Prop:=Str.join " " l=Str.join " " W/\(l=[] ↔ W=[])
theorem yuV {a b A B:List Str}(h1:Sm a A) (h2:Sm b B):Sm (a++b) (A++B):=by
 by_cases z1:a=[]
 .have:=h1.2.mp z1
  rw [z1,this,List.nil_append,List.nil_append]
  exact h2
 .by_cases z2:b=[]
  .have:=h2.2.mp z2
   rw [z2,this,append_nil,append_nil]
   exact h1
  .have n1:A≠[]:=fun z=>z1 (h1.2.mpr z)
   have n2:B≠[]:=fun z=>z2 (h2.2.mpr z)
   refine ⟨by rw [ybS z1 z2,ybS n1 n2,h1.1,h2.1],?_⟩
   simp [z1,n1]
theorem yBC {j:Nat}(hj:j<6):Sm [(PA.getD j ("","")).1] (yrI j)/\Sm [(PA.getD j ("","")).2] (yrJ j):=by
 have q:∀ j,j<6->(Str.join " " [(PA.getD j ("","")).1]=Str.join " " (yrI j)/\yrI j≠[])/\(Str.join " " [(PA.getD j ("","")).2]=Str.join " " (yrJ j)/\yrJ j≠[]):=by rfl'
 obtain ⟨⟨a,b⟩,c,d⟩:=q j hj
 exact ⟨⟨a,by simp [b]⟩,c,by simp [d]⟩
section
variable {h:AH}
theorem yEK {n m i:Int}{j:Nat}{l:List Str}{v5:PVar}(hj:j<6) (ix:(n/22+i*(n/132%5))%6=(j:Nat)) (hl:l.length<=1000):nbB [.val (.int n),.val (.lst (PA.map pV)),.val (.lst (l.map .str)),.val (.int m),.val (.int i),v5] h=some (.nx [.val (.int n),.val (.lst (PA.map pV)),.val (.lst (([(PA.getD j ("","")).1]++l++[(PA.getD j ("","")).2]).map .str)),.val (.int (m+2+cP (PA.getD j ("","")))),.val (.int i),.val (pV (PA.getD j ("","")))],h):=by
 have m5:=ydm (n/132) (show (0:Int)<5 by decide)
 have at_:atI (PA.map pV) (j:Nat)=some (pV (PA.getD j ("",""))):=ydr (by
  have:j<PA.length:=hj
  rw [getElem?_map,List.getD_eq_getElem?_getD,List.getElem?_eq_getElem this]
  rfl)
 have pl:∀ j,j<6->(PA.getD j ("","")).1.length<=100:=by rfl'
 have pl:=pl j hj
 generalize PA.getD j ("","")=p at *
 have e1:yfM (.lst (PA.map pV)) (.int (j:Nat)) h=some (pV p,h):=by
  unfold yfM
  simp only [at_]
 have e2:yfM (pV p) (.int 0) h=some (.str p.1,h):=rfl
 have e3:yfM (pV p) (.int 1) h=some (.str p.2,h):=rfl
 have e4:yiQ (.lst [.str p.1]) (.lst (l.map .str)) h=some (.lst (([p.1]++l).map .str),h):=by
  rw [yml,if_pos (by simp only [length_map,length_cons,length_nil];omega),map_append]
  rfl
 have e5:yiQ (.lst (([p.1]++l).map .str)) (.lst [.str p.2]) h=some (.lst (([p.1]++l++[p.2]).map .str),h):=by
  rw [yml,if_pos (by simp only [length_map,length_append,length_cons,length_nil];omega),show ([p.1]++l++[p.2]).map PV.str=([p.1]++l).map PV.str++[PV.str p.2] by rw [map_append];rfl]
 have e6:yBO (.str p.1) none (some 2) h=some (.str (yxF p.1 none (some 2)),h):=by
  show (if _ then _ else _)=_
  rw [if_pos (by omega)]
 unfold nbB
 have mo:=yul (i:=i) (j:=n/132%5) (by omega) (by omega)
 simp_all? only [mo,ix,e1,at_,e2,e3,e4,e5,e6,-yml]
 rfl
theorem yro {n:Int}{e:Nat}(he:n%2=(e:Nat)) (he2:e<=1) (c:Nat) (hc:c<=10) (v0:List Str) (hv:v0=replicate e ("wait":Str)):∃ (ts:List T) (l:List Str) (a4 a5:PVar),yeZ (yl 4) nbB (ykj 0 c) [.val (.int n),.val (.lst (PA.map pV)),.val (.lst (v0.map .str)),.val (.int (n%2)),.no,.no] h=some (.nx [.val (.int n),.val (.lst (PA.map pV)),.val (.lst (l.map .str)),.val (.int (yt ts).sum),a4,a5],h)/\Sm l (wdL ts)/\l.length<=30/\(∀ w∈l,w.length<=20)/\gdL ts/\rdL ts=(c:Int)+e-1/\(yt ts).sum<=3*c+e/\ybz ts<=c:=by
 obtain ⟨ρ',h',q,q1,ts,l,a4,a5,q2,q3,q4,q5,q6,q7,q8,q9⟩:=yqp (xs:=ykj 0 c) (g:=yl 4) (s:=nbB) (ρ:=[.val (.int n),.val (.lst (PA.map pV)),.val (.lst (v0.map .str)),.val (.int (n%2)),.no,.no]) (h:=h) (fun i ρ h'=>h'=h/\∃ (ts:List T) (l:List Str) (a4 a5:PVar),ρ=[.val (.int n),.val (.lst (PA.map pV)),.val (.lst (l.map .str)),.val (.int (yt ts).sum),a4,a5]/\Sm l (wdL ts)/\l.length=2*i+e/\(∀ w∈l,w.length<=20)/\gdL ts/\rdL ts=(i:Int)+e-1/\(yt ts).sum<=3*(i:Int)+e/\ybz ts<=i) (by
   rcases (show e=0\/e=1 by omega) with rfl|rfl
   .exact ⟨rfl,[],[],.no,.no,by rw [he,hv];rfl,⟨rfl,by simp [wdL]⟩,rfl,fun _ z=>absurd z not_mem_nil,trivial,rfl,by decide,by decide⟩
   .refine ⟨rfl,[.wait],["wait"],.no,.no,by rw [he,hv];rfl,⟨rfl,by simp [wdL,wdT]⟩,rfl,fun w hw=>?_,⟨trivial,trivial⟩,rfl,by decide,by decide⟩
    rw [List.mem_singleton.mp hw];rfl') (by
   rintro i x ρ h' hx ⟨rfl,ts,l,a4,a5,rfl,p1,p2,p3,p4,p5,p6,p7⟩
   obtain ⟨hi,rfl⟩:=yqr hx
   have hi0:(0:Int)+(i:Int)=(i:Nat):=by omega
   rw [hi0]
   have m6:=ydm (n/22+(i:Nat)*(n/132%5)) (show (0:Int)<6 by decide)
   obtain ⟨j,hj⟩:∃ j:Nat,(n/22+((i:Nat):Int)*(n/132%5))%6=(j:Nat):=⟨((n/22+((i:Nat):Int)*(n/132%5))%6).toNat,by omega⟩
   have hj6:j<6:=by omega
   obtain ⟨w1,w2,w3,w4⟩:=yxA hj6 p4
   obtain ⟨s1,s2⟩:=yBC hj6
   have lp:∀ j,j<6->(PA.getD j ("","")).1.length<=20/\(PA.getD j ("","")).2.length<=20/\cP (PA.getD j ("",""))<=1:=by rfl'
   have lp:=lp j hj6
   refine ⟨_,_,h',rfl,.inl (yEK (v5:=a5) hj6 hj (by omega)),rfl,[ylw j ts],_,_,_,by rw [w3],?_,?_,?_,w1,by rw [w2];omega,by rw [w3];omega,by omega⟩
   .rw [yxz hj6]
    exact yuV (yuV s1 p1) s2
   .simp only [length_append,length_cons,length_nil];omega
   .intro w hw
    rcases List.mem_append.mp hw with hw|hw
    .rcases List.mem_append.mp hw with hw|hw
     .rw [List.mem_singleton.mp hw];exact lp.1
     .exact p3 w hw
    .rw [List.mem_singleton.mp hw];exact lp.2.1)
 subst q1 q2
 rw [yjG] at q4 q7 q8 q9
 exact ⟨ts,l,a4,a5,q,q3,by omega,q5,q6,q7,q8,q9⟩
end
section
variable {h:AH}
theorem yrp {n:Int}:∃ (ts:List T) (d:Int),ydD [.int n] h=some (.tup [.str (Str.join " " (wdL ts)),.int d,.int (yt ts).sum],h)/\gdL ts/\rdL ts=d-1/\(yt ts).sum<=31/\ybz ts<=10:=by
 have m2:=ydm n (show (0:Int)<2 by decide)
 have m11:=ydm (n/2) (show (0:Int)<11 by decide)
 obtain ⟨e,he⟩:∃ e:Nat,n%2=(e:Nat):=⟨(n%2).toNat,by omega⟩
 obtain ⟨c,hc⟩:∃ c:Nat,n/2%11=(c:Nat):=⟨(n/2%11).toNat,by omega⟩
 obtain ⟨ts,l,a4,a5,q1,q2,q3,q4,q5,q6,q7,q8⟩:=yro (h:=h) he (by omega) c (by omega) _ rfl
 refine ⟨ts,n/2%11+n%2,?_,q5,by omega,by omega,by omega⟩
 have w0:yzl (.lst [.str "wait"]) (.int (n%2)) h=some (.lst ((replicate e ("wait":Str)).map .str),h):=by
  rw [he]
  rcases (show e=0\/e=1 by omega) with rfl|rfl<;>kernel_rfl!
 have cw:yiQ (.lst [.lst [.str "if b (",.str ") else ( )"],.lst [.str "if b ( ) else (",.str ")"],.lst [.str "either (",.str ") or ( )"],.lst [.str "either ( ) or (",.str ")"]]) (.lst [.lst [.str "try (",.str ") on x a ( )"],.lst [.str "try ( ) on x a (",.str ")"]]) h=some (.lst (PA.map pV),h):=by kernel_rfl!
 have ir:∀ r:PSt,ysC (yb (xOp oMod (xOp oDiv (ye 0) (xC (.int 2))) (xC (.int 11))) (yk)) (.val (.int n)::r) h=some (ykj 0 c,h):=fun r=>by
  have:=yqs (a:=yb (xOp oMod (xOp oDiv (ye 0) (xC (.int 2))) (xC (.int 11))) (yk)) (ρ:=.val (.int n)::r) (h:=h) (h1:=h) (j:=n/2%11) (by symm) (by omega) (by omega)
  rw [this,hc]
  rfl
 have jn:yeC (.str " ") [.lst (l.map .str)] h=some (.str (Str.join " " (wdL ts)),h):=by
  rw [yfO (yej l) j1 (by have:=yrm q4;omega),q2.1]
 unfold ydD
 rw [yN]
 show ob (yw _ (yw _ (yw _ (yw _ (yw (ylF _ _ nbB) _)))) [.val (.int n),.no,.no,.no,.no,.no] h) fnK=_
 simp_all? only [cw,w0,ir,q1,jn,-yml,-yDp]
theorem txw {ts:List T}(g:gdL ts) (hl:(yt ts).sum<=95):ybG (Str.join " " (wdL ts))=wdL ts/\txB (Str.join " " (wdL ts))=true:=by
 have f:=yfo g
 have w10:=ygr g
 refine yjZ (ynK f) (by omega) ?_
 by_cases z:wdL ts=[]
 .exact .inr z
 .exact .inl (yig f z)
theorem yFJ {ts:List T}(g:gdL ts) (hl:(yt ts).sum<=95):wL ts<=100000:=by have:=yed g;omega
theorem yuW {ts:List T}(g:gdL ts) (hl:(yt ts).sum<=95) (hr:rdL ts<=8):mLs (mP (ybG (Str.join " " (wdL ts))) 9) (ybG (Str.join " " (wdL ts))) 0=some (ybN ts,(ybG (Str.join " " (wdL ts))).length):=by
 rw [(txw g hl).1]
 have q:=yfq (d:=9) g (by omega) (by omega) (wdL ts) 0 [] (.inl rfl) (by rw [List.drop_zero,append_nil])
 rw [Nat.zero_add] at q
 exact q
theorem yrq {ts:List T}(g:gdL ts) (hl:(yt ts).sum<=95) (hr:rdL ts<=8):if 79<(yt ts).sum then Rf (Str.join " " (wdL ts)) else ∀ h,∃ h',ybk [.str (Str.join " " (wdL ts)),.int (yt ts).sum] h=some (.bl true,h'):=by
 have hd:ybz ts<=14:=by have:=yeK ts;omega
 have T:=(txw g hl).2
 split
 .exact yxv T (yuW g hl hr) (yrl hd (yFJ g hl)) (by omega)
 .exact fun h=>yBt T (yuW g hl hr) hd (yFJ g hl) (by omega)
theorem yxB {n:Int}:∃ h',ybX [.int n] h=some (.bl true,h'):=by
 obtain ⟨ts,d,e,g,hr,hl,hd⟩:=yrp (h:=h) (n:=n)
 by_cases z:9<d
 .have T:=txw g (by omega)
  have nz:mLs (mP (ybG (Str.join " " (wdL ts))) 9) (ybG (Str.join " " (wdL ts))) 0=none:=by
   rw [T.1]
   exact yiq (d:=9) g (by omega) (by omega) 0 [] (by rw [List.drop_zero,append_nil])
  obtain ⟨h',e2⟩:=yeu (h:=h) (yEA T.2 nz)
  have t1:(9<d)=True:=eq_true z
  refine ⟨h',?_⟩
  unfold ybX
  rw [yN]
  show ob (yw _ _ [.val (.int n),.no,.no,.no] h) fnK=_
  simp_all? only [e,t1,e2]
 .have q:=yrq g (by omega) (by omega)
  rw [if_neg (by omega)] at q
  obtain ⟨h',e2⟩:=q h
  have t1:(9<d)=False:=eq_false z
  refine ⟨h',?_⟩
  unfold ybX
  rw [yN]
  show ob (yw _ _ [.val (.int n),.no,.no,.no] h) fnK=_
  simp_all? only [e,t1,e2]
end
section
variable {h:AH}
def lt (k:Nat):T:=.let_ "a" (k:Int)
def lts (m:Nat):List T:=(List.range m).map lt
theorem yEL {k:Nat}(hk:k<=100):gdT (lt k):=⟨yEJ,by omega,by have:(B64:Int)=18446744073709551616:=rfl;omega⟩
theorem yrr {ts:List T}(g:∀ t∈ts,gdT t):gdL ts:=gdL_iff.mpr g
theorem yuX {m:Nat}(hm:m<=100):∀ t∈lts m,gdT t:=fun t ht=>by
 obtain ⟨k,hk,rfl⟩:=List.mem_map.mp ht
 exact yEL (by have:=List.mem_range.mp hk;omega)
def fl1 (ts:List T):Prop:=∀ t∈ts,ycM t=1/\rdT t=0
theorem yBD (m:Nat):fl1 (lts m):=fun t ht=>by
 obtain ⟨k,hk,rfl⟩:=List.mem_map.mp ht
 exact ⟨rfl,rfl⟩
theorem yka:∀ {ts:List T},fl1 ts->(yt ts).sum=ts.length/\rdL ts<=0
 | [],_=>⟨rfl,by show (-1:Int)<=0;omega⟩
 | t::r,f=>by
  obtain ⟨h1,h2⟩:=yka (ts:=r) fun u hu=>f u (mem_cons_of_mem _ hu)
  obtain ⟨q1,q2⟩:=f t mem_cons_self
  refine ⟨?_,?_⟩
  .show ycM t+(yt r).sum=((r.length+1:Nat):Int)
   omega
  .show max (rdT t) (rdL r)<=0
   omega
theorem ynL:∀ (a b:List T),(yt (a++b)).sum=(yt a).sum+(yt b).sum
 | [],b=>by show _=0+_;rw [zero_add];rfl
 | t::a,b=>by
  show ycM t+(yt (a++b)).sum=ycM t+(yt a).sum+(yt b).sum
  rw [ynL a b];omega
theorem yuY:∀ (a b:List T),rdL (a++b)<=max (rdL a) (rdL b)
 | [],b=>by show rdL b<=max (-1) (rdL b);omega
 | t::a,b=>by
  have:=yuY a b
  show max (rdT t) (rdL (a++b))<=max (max (rdT t) (rdL a)) (rdL b)
  omega
theorem yEM (k:Nat):yca (lt k) = "let a "++Str.ofString (toString ((k:Nat):Int)):=by
 show Str.join " " ["let","a",Str.ofString (toString ((k:Nat):Int))]=_
 rw [j3,show ("let a ":Str) = "let"++" "++"a"++" " by rfl']
theorem yFK (a:List T) (hn:Str.join " ; " (yG a)≠""):yca (.if_ "c" a []) = "if c ( "++Str.join " ; " (yG a)++" ) else ( )":=by
 show Str.join " " ["if","c",ybD (Str.join " ; " (yG a)),"else",ybD (Str.join " ; " (yG []))]=_
 rw [show ybD (Str.join " ; " (yG [])) = "( )" by rfl']
 unfold ybD
 rw [if_neg hn,j3]
 generalize Str.join " ; " (yG a)=J
 show "if"++" "++("c"++" "++(("("++" "++J++" "++")")++" "++("else"++" "++"( )")))=_
 rw [show ("if c ( ":Str) = "if"++" "++"c"++" "++"("++" " by rfl',show (" ) else ( )":Str) = " "++")"++" "++"else"++" "++"( )" by rfl']
 simp only [yci]
def yoZ (k:Nat):Str:="let a "++Str.ofString (toString ((k:Nat):Int))
theorem yrs (m:Nat):yG (lts m)=(List.range m).map yoZ:=by
 rw [ybB]
 unfold lts
 rw [map_map]
 exact List.map_congr_left fun k _=>yEM k
theorem yrt {k:Nat}(hk:k<=100):(yoZ k).length<=26:=by
 unfold yoZ
 have:=str_len (v:=((k:Nat):Int)) (by omega) (k:=20) (by decide) (by omega)
 rw [ycl,show ("let a ":Str).length=6 by rfl']
 omega
theorem yru {k:Nat}(hk:k<=100):((k:Nat):Int).natAbs.log2<1920:=yuC (by omega) (by have:(B64:Int)=18446744073709551616:=rfl;omega)
theorem yBE {m:Nat}(hm:m<=100) {ρ:PSt}:yki (xOp ybJ (xC (.str "let a ")) (xCB (yop) (yb (ye 0) (yk)))) (yiw [] ρ) (ykj 0 m) h=some (((List.range m).map yoZ).map .str,h):=by
 unfold ykj
 rw [map_map]
 refine yhT _ _ fun k hk=>?_
 have hk:=List.mem_range.mp hk
 have ll:=yrt (k:=k) (by omega)
 show xOp ybJ _ _ [.val (.int (0+(k:Int)))] h=_
 rw [show (0:Int)+(k:Int)=((k:Nat):Int) by omega]
 have e1:yop [.int ((k:Nat):Int)] h=some (.str (Str.ofString (toString ((k:Nat):Int))),h):=by
  show (if _ then _ else _)=_
  rw [if_pos (yru (by omega))]
 have e2:ybJ (.str "let a ") (.str (Str.ofString (toString ((k:Nat):Int)))) h=some (.str (yoZ k),h):=by
  unfold yoZ at ll ⊢
  rw [ycl] at ll
  rw [ydJ,if_pos (by omega)]
 have lg:=yru (k:=k) (by omega)
 simp_all? only [e1,lg,e2,-ydJ]
 rfl
theorem yrv {a:List T}(ha:a.length<=100) (f:∀ w∈yG a,w.length<=10000):yeC (.str " ; ") [.lst ((yG a).map .str)] h=some (.str (ycR a),h):=by
 have:∀ l:List Str,(∀ w∈l,w.length<=10000)->(l.map (·.length)).sum<=10000*l.length:=by
  intro l
  induction l with
  | nil=>intro _;simp
  | cons x l ih =>
   intro f
   have h1:=f x mem_cons_self
   have h2:=ih fun w hw=>f w (mem_cons_of_mem _ hw)
   rw [map_cons,List.sum_cons,length_cons]
   omega
 have:=this _ f
 have sl:(yG a).length=a.length:=by rw [ybB,length_map]
 exact yfO (yej _) (by rfl') (by omega)
end
section
variable {h:AH}
theorem ynM {ts:List T}{n many:Int}{v2 v4 v5:PVar}(g:gdL ts) (hl:(yt ts).sum<=95) (hr:rdL ts<=8) (hm:many=(yt ts).sum):∃ h',ob (lrT [.val (.int n),.val (.int many),v2,.val (.str (ycR ts)),v4,v5] h) fnK=some (.bl true,h'):=by
 have et:ycR ts=Str.join " " (wdL ts):=ycj ts g
 have q:=yrq g hl hr
 rw [<- et] at q
 unfold lrT
 by_cases z:79<(yt ts).sum
 .rw [if_pos z] at q
  obtain ⟨h',e2⟩:=yeu (h:=h) q
  have t1:(79<(yt ts).sum)=True:=eq_true z
  exact ⟨h',by simp_all? only [hm,t1,e2]⟩
 .rw [if_neg z] at q
  obtain ⟨h',e2⟩:=q h
  have t1:(79<(yt ts).sum)=False:=eq_false z
  exact ⟨h',by simp_all? only [hm,t1,e2]⟩
theorem yEN {m k:Nat}(hk:k<=m):yol (((List.range m).map yoZ).map PV.str) none (some ((k:Nat):Int))=(yG ((lts m).take k)).map .str/\yol (((List.range m).map yoZ).map PV.str) (some ((k:Nat):Int)) none=(yG ((lts m).drop k)).map .str:=by
 rw [<- yrs,ybB,ybB,ybB]
 have ll:((lts m).map yca).length=m:=by unfold lts;simp
 unfold yol
 rw [length_map,ll]
 simp only [HT.sIx_nat,HT.sIx_none,Nat.min_eq_left hk]
 constructor
 .rw [List.drop_zero,Nat.sub_zero,List.map_take,List.map_take]
 .rw [List.take_of_length_le (by rw [length_drop,length_map,ll];omega),List.map_drop,List.map_drop]
theorem yxC {n:Int}:∃ h',ybY [.int n] h=some (.bl true,h'):=by
 have m21:=ydm n (show (0:Int)<21 by decide)
 obtain ⟨m,hm⟩:∃ m:Nat,70+n%21=(m:Nat):=⟨(70+n%21).toNat,by omega⟩
 have hm7:70<=m/\m<=90:=by omega
 have lc:=fun ρ=>yBE (h:=h) (m:=m) (by omega) (ρ:=ρ)
 have fl:=yBD m
 have lm:(lts m).length=m:=by unfold lts;simp
 have ir:∀ (a:PVar) (r:PSt),ysC (yb (ye 1) (yk)) (a::.val (.int ((m:Nat):Int))::r) h=some (ykj 0 m,h):=fun a r=>yqs (a:=yb (ye 1) (yk)) (ρ:=a::.val (.int ((m:Nat):Int))::r) (h:=h) (h1:=h) (j:=((m:Nat):Int)) (by symm) (by omega) (by omega)
 have rl:((ykj 0 m).length<=100000)=True:=eq_true (by rw [yjG];omega)
 have sh:∀ w∈yG (lts m),w.length<=26:=fun w hw=>by
  rw [yrs] at hw
  obtain ⟨k,hk,rfl⟩:=List.mem_map.mp hw
  exact yrt (by have:=List.mem_range.mp hk;omega)
 have j0:=yrv (h:=h) (a:=lts m) (by omega) (fun w hw=>by have:=sh w hw;omega)
 rw [yrs] at j0
 by_cases z:n/21%2=1
 .have t1:(n/21%2=1)=True:=eq_true z
  have mm:=ydm (n/42) (show (0:Int)<((m:Nat):Int) by omega)
  obtain ⟨k,hk⟩:∃ k:Nat,n/42%((m:Nat):Int)=(k:Nat):=⟨(n/42%((m:Nat):Int)).toNat,by omega⟩
  have hkm:k<m:=by omega
  obtain ⟨c1,c2⟩:=yEN (m:=m) (k:=k) (by omega)
  have pm:((0:Int)<((m:Nat):Int))=True:=eq_true (by omega)
  have ltk:((lts m).take k).length=k:=by rw [length_take];omega
  have ldk:((lts m).drop k).length=m-k:=by rw [length_drop];omega
  have mt:∀ t∈(lts m).take k,t∈lts m:=fun t ht=>List.mem_of_mem_take ht
  have md:∀ t∈(lts m).drop k,t∈lts m:=fun t ht=>List.mem_of_mem_drop ht
  have sm:∀ {a:List T},(∀ t∈a,t∈lts m)->∀ w∈yG a,w.length<=26:=fun {a} ha w hw=>by
   rw [ybB] at hw
   obtain ⟨t,ht,rfl⟩:=List.mem_map.mp hw
   exact sh _ (by rw [ybB];exact List.mem_map_of_mem (ha t ht))
  have gd:=yuX (m:=m) (by omega)
  have f1:fl1 ((lts m).take k):=fun t ht=>fl t (mt t ht)
  have f2:fl1 ((lts m).drop k):=fun t ht=>fl t (md t ht)
  have g1:gdL ((lts m).take k):=yrr fun t ht=>gd t (mt t ht)
  have g2:gdL ((lts m).drop k):=yrr fun t ht=>gd t (md t ht)
  generalize (lts m).take k=A at *
  generalize (lts m).drop k=B at *
  obtain ⟨s1,r1⟩:=yka f1
  obtain ⟨s2,r2⟩:=yka f2
  have jb:=yrv (h:=h) (a:=B) (by omega) (fun w hw=>by have:=sm md w hw;omega)
  have lb:(ycR B).length<=9000:=by
   have q:(ycR B).length<=wL B:=ybr B
   have:=yed g2
   omega
  have nb:ycR B≠"":=by
   rw [show ycR B=Str.join " " (wdL B) from ycj B g2]
   refine yig (yfo g2) ?_
   cases B with
   | nil=>exact absurd ldk (by show ¬ 0=m-k;omega)
   | cons t r=>exact fun q=>yqQ g2.1 (List.append_eq_nil_iff.mp q).1
  have a1:ybJ (.str "if c ( ") (.str (ycR B)) h=some (.str ("if c ( "++ycR B),h):=by
   rw [ydJ,if_pos (by rw [show ("if c ( ":Str).length=7 by rfl'];omega)]
  have a2:ybJ (.str ("if c ( "++ycR B)) (.str " ) else ( )") h=some (.str (yca (.if_ "c" B [])),h):=by
   rw [ydJ,if_pos (by rw [ycl,show ("if c ( ":Str).length=7 by rfl',show (" ) else ( )":Str).length=11 by rfl'];omega),yFK B nb]
   rfl
  have sl:(yG A).length=A.length:=by rw [ybB,length_map]
  have ec:yiQ (.lst ((yG A).map .str)) (.lst [.str (yca (.if_ "c" B []))]) h=some (.lst ((yG (A++[.if_ "c" B []])).map .str),h):=by
   rw [yml,if_pos (by rw [length_map,sl];simp only [length_cons,length_nil];omega),ybB,ybB,map_append,map_append]
   rfl
  have lif:(yca (.if_ "c" B [])).length<=10000:=by
   rw [yFK B nb,ycl,ycl,show ("if c ( ":Str).length=7 by rfl',show (" ) else ( )":Str).length=11 by rfl']
   have lb:(Str.join " ; " (yG B)).length<=9000:=lb
   omega
  have jc:=yrv (h:=h) (a:=A++[.if_ "c" B []]) (by rw [length_append,List.length_singleton];omega) (fun w hw=>by
   rw [ybB,map_append] at hw
   rcases List.mem_append.mp hw with hw|hw
   .have:=sm mt w (by rw [ybB];exact hw);omega
   .rw [List.mem_singleton.mp hw];exact lif)
  have sc:ydn "c":=⟨99,by decide,by decide,by rfl'⟩
  have gi:gdT (.if_ "c" B []):=⟨sc,g2,trivial⟩
  have gg:gdL (A++[.if_ "c" B []]):=ymA g1 gi
  have li:ycM (.if_ "c" B [])=2+(yt B).sum+0:=rfl
  have ri:rdT (.if_ "c" B [])=max 0 (max (1+rdL B) (1 + -1)):=rfl
  have q1:∀ t:T,rdL [t]=max (rdT t) (-1)/\(yt [t]).sum=ycM t+0:=fun t=>⟨rfl,rfl⟩
  have ls:=ynL A [.if_ "c" B []]
  have rs:=yuY A [.if_ "c" B []]
  rw [(q1 _).2,li] at ls
  rw [(q1 _).1,ri] at rs
  obtain ⟨h',q⟩:=ynM (h:=h) (n:=n) (many:=((m:Nat):Int)+2) (v2:=.val (.lst (((List.range m).map yoZ).map .str))) (v4:=.val (.int ((k:Nat):Int))) (v5:=.val (.str (ycR B))) gg (by omega) (by omega) (by omega)
  refine ⟨h',?_⟩
  unfold ybY
  rw [yN]
  show ob (yw _ (yw _ (yw _ (yw _ lrT))) [.val (.int n),.no,.no,.no,.no,.no] h) fnK=_
  have sB:yom (.lst (((List.range m).map yoZ).map PV.str)) (some ((k:Nat):Int)) none h=some (.lst ((yG B).map .str),h):=by rw [ysR,c2]
  have sA:yom (.lst (((List.range m).map yoZ).map PV.str)) none (some ((k:Nat):Int)) h=some (.lst ((yG A).map .str),h):=by rw [ysR,c1]
  simp_all? only [hm,ir,rl,lc,j0,t1,pm,hk,sB,sA,jb,a1,a2,ec,jc,q,-ydJ,-yml,-ysR]
 .have t1:(n/21%2=1)=False:=eq_false z
  obtain ⟨s1,r1⟩:=yka fl
  obtain ⟨h',q⟩:=ynM (h:=h) (n:=n) (many:=((m:Nat):Int)) (v2:=.val (.lst (((List.range m).map yoZ).map .str))) (v4:=.no) (v5:=.no) (yrr (yuX (m:=m) (by omega))) (by omega) (by omega) (by omega)
  refine ⟨h',?_⟩
  unfold ybY
  rw [yN]
  show ob (yw _ (yw _ (yw _ (yw _ lrT))) [.val (.int n),.no,.no,.no,.no,.no] h) fnK=_
  simp_all? only [hm,ir,rl,lc,j0,t1,q]
end
section
variable {h:AH}{ns:List Int}
theorem ygW (k:Nat):ybo [.scr ns,.int (k:Nat)] h=some (.int (ns.getD k 0),h):=by
 unfold ybo
 rw [yN]
 show ob (yw _ _ [.val (.scr ns),.val (.int (k:Nat))] h) fnK=_
 by_cases e:k<ns.length
 .have e1:(((k:Nat):Int)<(ns.length:Nat))=True:=eq_true (by omega)
  have e3:atI ns (k:Nat)=some (ns.getD k 0):=ydr (by rw [List.getElem?_eq_getElem e,List.getD_eq_getElem?_getD,List.getElem?_eq_getElem e];rfl)
  have e2:yfM (.scr ns) (.int (k:Nat)) h=some (.int (ns.getD k 0),h):=by
   unfold yfM
   simp only [e3]
  simp_all? only [e1,e2,e3]
 .have e1:(((k:Nat):Int)<(ns.length:Nat))=False:=eq_false (by omega)
  rw [show ns.getD k 0=0 by rw [List.getD_eq_getElem?_getD,getElem?_eq_none (by omega)];rfl]
  simp_all? only [e1]
theorem ynN (x0:PVar) {r:PSt}:∀ (cs:List Int) (us:List T) (c2:PVar),OkL us->∃ (ws:List T) (d2:PVar),OkL ws/\yeZ (yl 2) ymt (cs.map PV.int) (x0::.val (.lst (yQ us))::c2::r) h=some (.nx (x0::.val (.lst (yQ ws))::d2::r),h)
 | [],us,c2,g=>⟨us,c2,g,rfl⟩
 | n::ns,us,c2,g=>by
  obtain ⟨vs,gv,e⟩:=yxi (h:=h) g n
  obtain ⟨ws,d2,gw,f⟩:=ynN x0 (r:=r) ns vs (.val (.int n)) gv
  refine ⟨ws,d2,gw,?_⟩
  have b:ymt (x0::.val (.lst (yQ us))::.val (.int n)::r) h=some (.nx (x0::.val (.lst (yQ vs))::.val (.int n)::r),h):=by
   unfold ymt
   simp_all? only [e]
  show yeZ (yl 2) ymt (.int n::ns.map PV.int) _ h=_
  rw [yhR,show yl 2 (.int n) (x0::.val (.lst (yQ us))::c2::r)=some (x0::.val (.lst (yQ us))::.val (.int n)::r) from rfl,bind_some,b,ydi]
  exact f
theorem yBF:OkL []:=⟨trivial,by show (-1:Int)<=8;omega,by show (0:Int)<=79;omega⟩
theorem yrw {ts:List T}(g:OkL ts):∃ h',ybk [.str (ycR ts),.int (yt ts).sum] h=some (.bl true,h'):=by
 have q:=yrq g.gd (by have:=g.lg;omega) g.rd
 rw [if_neg (by have:=g.lg;omega),<- ycj ts g.gd] at q
 exact q h
theorem yBG (ns:List Int) (hl:ns.length<=63):∃ h',yto [.scr ns] h=some (.bl true,h'):=by
 obtain ⟨ts,d2,g,e0⟩:=ynN (h:=h) (.val (.scr ns)) (r:=[.no,.no,.no]) (yol ns (some 3) (some 43)) [] .no yBF
 have e0:yeZ (yl 2) ymt ((yol ns (some 3) (some 43)).map PV.int) [.val (.scr ns),.val (.lst []),.no,.no,.no,.no] h=_:=e0
 have tx:=yxe 30 ts h g.gd (by have:=g.w;omega) (by have:=g.dep;omega)
 have lg:=fun h=>yjS 15 ts h g.gd (by have:=g.dep;omega)
 have c0:∀ h,ybo [.scr ns,.int 0] h=some (.int (ns.getD 0 0),h):=fun h=>ygW 0
 have c1:∀ h,ybo [.scr ns,.int 1] h=some (.int (ns.getD 1 0),h):=fun h=>ygW 1
 have c2:∀ h,ybo [.scr ns,.int 2] h=some (.int (ns.getD 2 0),h):=fun h=>ygW 2
 have n0:=Int.emod_nonneg (ns.getD 0 0) (show (1000000000000000000000000000000:Int)≠0 by decide)
 obtain ⟨N,hN⟩:∃ N,ns.getD 0 0%1000000000000000000000000000000=N:=⟨_,rfl⟩
 rw [hN] at n0
 obtain ⟨h1,r1⟩:=yrw (h:=h) g
 obtain ⟨t2,h2,r2,f2⟩:=yrn (h:=h1) (wy:=N%4) (nu:=N/4) g (by omega) (by omega)
 obtain ⟨h3,r3⟩:=yeu (h:=h2) f2
 obtain ⟨t4,o4,m4⟩:=yBz (N/4)
 obtain ⟨h4,r4⟩:=yeu (h:=h3) (yEH m4)
 obtain ⟨t5,b5,f5⟩:=blank_eq (h:=h4) g (w:=N%3) (by omega)
 obtain ⟨h5,r5⟩:=yeu (h:=h4) f5
 obtain ⟨h6,r6⟩:=yxB (h:=h5) (n:=ns.getD 1 0%1000000000)
 obtain ⟨h7,r7⟩:=yxC (h:=h6) (n:=ns.getD 2 0%1000000000)
 obtain ⟨h8,r8⟩:=yrw (h:=h7) g
 refine ⟨h8,?_⟩
 have il:xIL (xFz (yrC yom (ye 0) (ygf (xC (.int 3))) (ygf (xC (.int 43))))) [.val (.scr ns),.val (.lst []),.no,.no,.no,.no] h=some ((yol ns (some 3) (some 43)).map PV.int,h):=yBP (by
  symm
  unfold yol
  rw [length_map,List.map_take,List.map_drop])
 unfold yto
 rw [yN]
 show ob (yw _ (yw (ylF _ (yl 2) ymt) _) [.val (.scr ns),.no,.no,.no,.no,.no] h) fnK=_
 simp_all? only [il,e0,tx,c0,hN,lg,r1,r2,r3,o4,r4,b5,r5,c1,r6,c2,r7,r8]
end
end
def top (i:Nat):Stmt:=PySem.Challenge.pw_retryhall_k06_deeds_refused.main.body.getD i (.Pass ⟨0,0,0,0⟩)
abbrev FR:=Str×Str×Stmt×Nat×List Str
abbrev fRw (x q:Str) (s:Stmt) (k:Nat) (n:List Str):FR:=(x,q,s,k,n)
abbrev mRw (k:Nat) (x:Str) (n:Nat):Nat×Str×Nat:=(k,x,n)
def r0:FR:=fRw "is_made_of" "is_made_of" (top 30) 2 ["text","signs"]
def r1:FR:=fRw "number_of" "number_of" (top 26) 1 ["text","number"]
def r2:FR:=fRw "is_word" "is_word" (top 27) 1 ["text"]
def r3:FR:=fRw "is_slot" "is_slot" (top 28) 1 ["text"]
def r4:FR:=fRw "is_name" "is_name" (top 29) 1 ["text"]
def r5:FR:=fRw "__init__" "Let.__init__" (inClass (top 11) 0) 3 ["self","slot","number"]
def r6:FR:=fRw "__init__" "Reckon.__init__" (inClass (top 12) 0) 5 ["self","word","slot","one","other"]
def r7:FR:=fRw "__init__" "Take.__init__" (inClass (top 13) 0) 3 ["self","slot","place"]
def r8:FR:=fRw "__init__" "Put.__init__" (inClass (top 14) 0) 3 ["self","place","slot"]
def r9:FR:=fRw "__init__" "If.__init__" (inClass (top 15) 0) 4 ["self","slot","parts","others"]
def r10:FR:=fRw "__init__" "Either.__init__" (inClass (top 16) 0) 3 ["self","parts","others"]
def r11:FR:=fRw "__init__" "Try.__init__" (inClass (top 17) 0) 5 ["self","parts","name","slot","others"]
def r12:FR:=fRw "__init__" "Throw.__init__" (inClass (top 18) 0) 3 ["self","name","slot"]
def r13:FR:=fRw "long" "Part.long" (inClass (top 10) 1) 1 ["self"]
def r14:FR:=fRw "long" "Let.long" (inClass (top 11) 2) 1 ["self"]
def r15:FR:=fRw "long" "Reckon.long" (inClass (top 12) 2) 1 ["self"]
def r16:FR:=fRw "long" "Take.long" (inClass (top 13) 2) 1 ["self"]
def r17:FR:=fRw "long" "Put.long" (inClass (top 14) 2) 1 ["self"]
def r18:FR:=fRw "long" "Throw.long" (inClass (top 18) 2) 1 ["self"]
def r19:FR:=fRw "long" "Wait.long" (inClass (top 19) 1) 1 ["self"]
def r20:FR:=fRw "list_long" "list_long" (top 9) 1 ["parts"]
def r21:FR:=fRw "long" "If.long" (inClass (top 15) 2) 1 ["self"]
def r22:FR:=fRw "long" "Either.long" (inClass (top 16) 2) 1 ["self"]
def r23:FR:=fRw "long" "Try.long" (inClass (top 17) 2) 1 ["self"]
def r24:FR:=fRw "__init__" "Reader.__init__" (inClass (top 36) 0) 2 ["self","words"]
def r25:FR:=fRw "words_of" "words_of" (top 35) 1 ["text"]
def r26:FR:=fRw "ahead" "Reader.ahead" (inClass (top 36) 1) 1 ["self"]
def r27:FR:=fRw "taken" "Reader.taken" (inClass (top 36) 2) 1 ["self","word"]
def r28:FR:=fRw "pass_over" "Reader.pass_over" (inClass (top 36) 3) 2 ["self","wanted","word"]
def r29:FR:=fRw "slot_taken" "Reader.slot_taken" (inClass (top 36) 4) 1 ["self","word"]
def r30:FR:=fRw "name_taken" "Reader.name_taken" (inClass (top 36) 5) 1 ["self","word"]
def r31:FR:=fRw "number_taken" "Reader.number_taken" (inClass (top 36) 6) 1 ["self","word","number"]
def r32:FR:=fRw "reckon_taken" "Reader.reckon_taken" (inClass (top 36) 14) 2 ["self","word","slot","one","other"]
def r33:FR:=fRw "plain_taken" "Reader.plain_taken" (inClass (top 36) 13) 2 ["self","word","slot","place","name"]
def r34:FR:=fRw "list_taken" "Reader.list_taken" (inClass (top 36) 7) 2 ["self","around","parts"]
def r35:FR:=fRw "side_taken" "Reader.side_taken" (inClass (top 36) 8) 2 ["self","around","parts"]
def r36:FR:=fRw "part_taken" "Reader.part_taken" (inClass (top 36) 9) 2 ["self","around","word"]
def r37:FR:=fRw "if_taken" "Reader.if_taken" (inClass (top 36) 10) 2 ["self","around","slot","parts","others"]
def r38:FR:=fRw "either_taken" "Reader.either_taken" (inClass (top 36) 11) 2 ["self","around","parts","others"]
def r39:FR:=fRw "try_taken" "Reader.try_taken" (inClass (top 36) 12) 2 ["self","around","parts","name","slot","others"]
def r40:FR:=fRw "read" "read" (top 34) 1 ["text","reader","deed"]
def r41:FR:=fRw "taken" "Reader.taken" (inClass (top 36) 2) 1 ["self","word"]
def r42:FR:=fRw "pass_over" "Reader.pass_over" (inClass (top 36) 3) 2 ["self","wanted","word"]
def r43:FR:=fRw "slot_taken" "Reader.slot_taken" (inClass (top 36) 4) 1 ["self","word"]
def r44:FR:=fRw "name_taken" "Reader.name_taken" (inClass (top 36) 5) 1 ["self","word"]
def r45:FR:=fRw "number_taken" "Reader.number_taken" (inClass (top 36) 6) 1 ["self","word","number"]
def r46:FR:=fRw "reckon_taken" "Reader.reckon_taken" (inClass (top 36) 14) 2 ["self","word","slot","one","other"]
def r47:FR:=fRw "plain_taken" "Reader.plain_taken" (inClass (top 36) 13) 2 ["self","word","slot","place","name"]
def r48:FR:=fRw "list_taken" "Reader.list_taken" (inClass (top 36) 7) 2 ["self","around","parts"]
def r49:FR:=fRw "side_taken" "Reader.side_taken" (inClass (top 36) 8) 2 ["self","around","parts"]
def r50:FR:=fRw "part_taken" "Reader.part_taken" (inClass (top 36) 9) 2 ["self","around","word"]
def r51:FR:=fRw "if_taken" "Reader.if_taken" (inClass (top 36) 10) 2 ["self","around","slot","parts","others"]
def r52:FR:=fRw "either_taken" "Reader.either_taken" (inClass (top 36) 11) 2 ["self","around","parts","others"]
def r53:FR:=fRw "try_taken" "Reader.try_taken" (inClass (top 36) 12) 2 ["self","around","parts","name","slot","others"]
def r54:FR:=fRw "read" "read" (top 34) 1 ["text","reader","deed"]
def r55:FR:=fRw "_law_cell_at" "_law_cell_at" (top 38) 2 ["_law_script","_law_k"]
noncomputable def r56:FR:=fRw "_law_name" "_law_name" (top 39) 1 ["_law_cell","_law_letters","_law_size","_law_at","_law_name_here","_law_k","_law_sign"]
def r57:FR:=fRw "_law_slot" "_law_slot" (top 40) 1 ["_law_number_here"]
def r58:FR:=fRw "_law_number" "_law_number" (top 41) 1 ["_law_cell"]
def r59:FR:=fRw "_law_plain" "_law_plain" (top 42) 1 ["_law_cell","_law_way","_law_mixed","_law_one","_law_other"]
def r60:FR:=fRw "_law_sided" "_law_sided" (top 43) 3 ["_law_cell","_law_one","_law_other","_law_mixed","_law_way"]
def r61:FR:=fRw "_law_sides" "_law_sides" (top 44) 1 ["_law_part"]
def r62:FR:=fRw "_law_round" "_law_round" (top 45) 1 ["_law_parts","_law_found","_law_part","_law_side"]
def r63:FR:=fRw "_law_long" "_law_long" (top 46) 1 ["_law_parts","_law_many","_law_part"]
def r64:FR:=fRw "_law_more" "_law_more" (top 47) 2 ["_law_parts","_law_cell","_law_made","_law_cut","_law_low"]
def r65:FR:=fRw "_law_in" "_law_in" (top 48) 1 ["_law_parts"]
def r66:FR:=fRw "_law_text" "_law_text" (top 49) 1 ["_law_parts","_law_found","_law_part","_law_some"]
def r67:FR:=fRw "_law_refused" "_law_refused" (top 50) 1 ["_law_text_here","_law_kinds","e"]
def r68:FR:=fRw "_law_has_rows" "_law_has_rows" (top 51) 2 ["_law_text_here","_law_many","_law_found"]
def r69:FR:=fRw "_law_odd_word" "_law_odd_word" (top 52) 1 ["_law_number_here","_law_some"]
def r70:FR:=fRw "_law_odd_text" "_law_odd_text" (top 53) 1 ["_law_number_here","_law_some"]
noncomputable def r71:FR:=fRw "_law_spoilt" "_law_spoilt" (top 54) 3 ["_law_text_here","_law_way","_law_number_here","_law_words","_law_at","_law_odd"]
def r72:FR:=fRw "_law_blank" "_law_blank" (top 55) 2 ["_law_text_here","_law_way"]
noncomputable def r73:FR:=fRw "_law_nested" "_law_nested" (top 56) 1 ["_law_number_here","_law_ways","_law_words","_law_many","_law_k","_law_pair"]
noncomputable def r74:FR:=fRw "_law_deep_right" "_law_deep_right" (top 57) 1 ["_law_number_here","_law_text_here","_law_deep","_law_many"]
noncomputable def r75:FR:=fRw "_law_long_right" "_law_long_right" (top 58) 1 ["_law_number_here","_law_many","_law_lets","_law_text_here","_law_cut","_law_side"]
noncomputable def r76:FR:=fRw "law" "law" (top 59) 1 ["_law_script","_law_parts","_law_cell","_law_text_here","_law_number_here","_law_bad"]
def fT:List FR:=[r0,r1,r2,r3,r4,r5,r6,r7,r8,r9,r10,r11,r12,r13,r14,r15,r16,r17,r18,r19,r20,r21,r22,r23,r24,r25,r26,r27,r28,r29,r30,r31,r32,r33,r34,r35,r36,r37,r38,r39,r40,r41,r42,r43,r44,r45,r46,r47,r48,r49,r50,r51,r52,r53,r54,r55,r56,r57,r58,r59,r60,r61,r62,r63,r64,r65,r66,r67,r68,r69,r70,r71,r72,r73,r74,r75,r76]
def fR (n:Nat):FR:=fT.getD n r0
def FR.ps (r:FR):List Str:=r.2.2.2.2.take r.2.2.2.1
abbrev fP (n:Nat):List Str:=FR.ps (fR n)
def AllP {α:Type}(p:α->Prop):List α->Prop
 | []=>True
 | c::cs=>p c/\AllP p cs
theorem AllP.get {α:Type}{p:α->Prop}{d:α}(hd:p d):∀ {cs:List α},AllP p cs->∀ k:Nat,p (cs.getD k d)
 | [],_,_=>hd
 | _::_,a,0=>a.1
 | _::_,a,k+1=>AllP.get hd a.2 k
theorem AllP.mem {α:Type}{p:α->Prop}:∀ {cs:List α},AllP p cs->∀ i∈cs,p i
 | c::cs,a,i,hi=>by
  rcases mem_cons.mp hi with rfl|hi
  .exact a.1
  .exact AllP.mem a.2 i hi
theorem yuZ:AllP (fun r:FR=>yez r.2.2.2.2 r.ps (ybE r.2.2.1)) fT:=by
 repeat' first|exact True.intro|refine And.intro ?_ ?_|exact ⟨rfl,rfl,rfl,by rfl',rfl,by rfl',by rfl'⟩
theorem sc (n:Nat) {r:FR}(h:fR n=r:=by rfl):yez r.2.2.2.2 r.ps (ybE r.2.2.1):=h ▸ AllP.get (p:=fun r:FR=>yez r.2.2.2.2 r.ps (ybE r.2.2.1)) yuZ.1 yuZ n
noncomputable def mT:List (Nat×Str×Nat):=[mRw 0 "long" 13,mRw 1 "long" 14,mRw 2 "long" 15,mRw 3 "long" 16,mRw 4 "long" 17,mRw 5 "long" 21,mRw 6 "long" 22,mRw 7 "long" 23,mRw 8 "long" 18,mRw 9 "long" 19,mRw 10 "ahead" 26,mRw 10 "taken" 27,mRw 10 "pass_over" 28,mRw 10 "slot_taken" 29,mRw 10 "name_taken" 30,mRw 10 "number_taken" 31,mRw 10 "reckon_taken" 32,mRw 10 "plain_taken" 33,mRw 10 "list_taken" 34,mRw 10 "side_taken" 35,mRw 10 "part_taken" 36,mRw 10 "if_taken" 37,mRw 10 "either_taken" 38,mRw 10 "try_taken" 39,mRw 10 "taken" 41,mRw 10 "pass_over" 42,mRw 10 "slot_taken" 43,mRw 10 "name_taken" 44,mRw 10 "number_taken" 45,mRw 10 "reckon_taken" 46,mRw 10 "plain_taken" 47,mRw 10 "list_taken" 48,mRw 10 "side_taken" 49,mRw 10 "part_taken" 50,mRw 10 "if_taken" 51,mRw 10 "either_taken" 52,mRw 10 "try_taken" 53]
abbrev gRw (x:Str) (n:Nat):Str×Nat:=(x,n)
noncomputable def gT:List (Str×Nat):=[gRw "is_made_of" 0,gRw "number_of" 1,gRw "is_word" 2,gRw "is_slot" 3,gRw "is_name" 4,gRw "list_long" 20,gRw "words_of" 25,gRw "read" 40,gRw "read" 54,gRw "_law_cell_at" 55,gRw "_law_name" 56,gRw "_law_slot" 57,gRw "_law_number" 58,gRw "_law_plain" 59,gRw "_law_sided" 60,gRw "_law_sides" 61,gRw "_law_round" 62,gRw "_law_long" 63,gRw "_law_more" 64,gRw "_law_in" 65,gRw "_law_text" 66,gRw "_law_refused" 67,gRw "_law_has_rows" 68,gRw "_law_odd_word" 69,gRw "_law_odd_text" 70,gRw "_law_spoilt" 71,gRw "_law_blank" 72,gRw "_law_nested" 73,gRw "_law_deep_right" 74,gRw "_law_long_right" 75,gRw "law" 76]
def kT:List (Nat×Nat):=[(1,5),(2,6),(3,7),(4,8),(5,9),(6,10),(7,11),(8,12),(10,24)]
def cT:List Str:=["Part","Let","Reckon","Take","Put","If","Either","Try","Throw","Wait","Reader"]
def zT:List Str:=["ValueError","all","int","isinstance","len","list","max","range","str","sum"]
noncomputable def nT:List (Str×List Nat):=[("at",[10]),("words",[10]),("slot",[1,2,3,4,5,7,8]),("number",[1]),("place",[3,4]),("parts",[5,6,7]),("others",[5,6,7]),("name",[7,8]),("word",[2]),("one",[2]),("other",[2])]
theorem ml1 {α:Type}{P:List α->Prop}(h:∀ a,P [a]):∀ us:List α,us.length=1->P us
 | [_],_=>h _
theorem ml2 {α:Type}{P:List α->Prop}(h:∀ a b,P [a,b]):∀ us:List α,us.length=2->P us
 | [_,_],_=>h _ _
theorem ml3 {α:Type}{P:List α->Prop}(h:∀ a b c,P [a,b,c]):∀ us:List α,us.length=3->P us
 | [_,_,_],_=>h _ _ _
theorem ml4 {α:Type}{P:List α->Prop}(h:∀ a b c d,P [a,b,c,d]):∀ us:List α,us.length=4->P us
 | [_,_,_,_],_=>h _ _ _ _
theorem ml5 {α:Type}{P:List α->Prop}(h:∀ a b c d e,P [a,b,c,d,e]):∀ us:List α,us.length=5->P us
 | [_,_,_,_,_],_=>h _ _ _ _ _
set_option genInjectivity false in
set_option genSizeOf false in
structure Ads where
 A:Nat->Addr
 fl:Nat->Addr×FuncData
 k_FIGURES:Tok
 k_LETTERS:Tok
 k_MOST_AROUND:Tok
 k_MOST_ROWS:Tok
 k_SLOTS:Tok
 k_WIDE:Tok
 k_WORDS:Addr
abbrev Ads.a (t:Ads) (n:Nat):Addr:=(t.fl n).1
abbrev Ads.d (t:Ads) (n:Nat):FuncData:=(t.fl n).2
abbrev yhw (K:PySem.W.Frag) (t:Ads):Ck:=⟨K,t.A⟩
structure Txt (K:PySem.W.Frag) (mg:Str->Option Value) (t:Ads):Prop where
 f:∀ n,Fun K (fR n).1 (fR n).2.1 (fR n).2.2.1 (t.a n) (t.d n)
 b:∀ n,Binds K (t.d n) (fP n) []
 G:∀ n,mg (gT.getD n ("is_made_of",0)).1=some (.ref (t.a (gT.getD n ("is_made_of",0)).2))
 C:∀ n,mg (cT.getD n "Part")=some (.ref (t.A n))
 J:∀ n,Mk K (t.A (kT.getD n (1,5)).1) (t.a (kT.getD n (1,5)).2)
 M:∀ n,Meth K (t.A (mT.getD n (mRw 0 "long" 13)).1) (mT.getD n (mRw 0 "long" 13)).2.1 (t.a (mT.getD n (mRw 0 "long" 13)).2.2)
 mk_Part:makesIn K (t.A 0)=true
 io_Part:findIn K (.ref (t.A 0)) "__init__" = some (some (.builtin "object.__init__"))
 kp_Part:keepIn K (.ref (t.A 0))=true
 mk_Wait:makesIn K (t.A 9)=true
 io_Wait:findIn K (.ref (t.A 9)) "__init__" = some (some (.builtin "object.__init__"))
 kp_Wait:keepIn K (.ref (t.A 9))=true
 cl:∀ k,Cls K (t.A k)
 N:∀ n,∀ k∈(nT.getD n ("at",[10])).2,Cls K (t.A k)/\NoAttr K (t.A k) (nT.getD n ("at",[10])).1
 isa:∀ r∈yjO,∀ (H:Hp) (a dx:Addr) (fs:List (Str×V)),H a=some (.ins (t.A r.1) dx fs)->IsI K H (.ref a) (.ref (t.A r.2.1)) r.2.2
 Z:∀ n,mg (zT.getD n "ValueError")=none
 m_FIGURES:mg "FIGURES" = some (.str "0123456789" t.k_FIGURES)
 m_LETTERS:mg "LETTERS" = some (.str "abcdefghijklmnopqrstuvwxyz" t.k_LETTERS)
 m_MOST_AROUND:mg "MOST_AROUND" = some (.int 8 t.k_MOST_AROUND)
 m_MOST_ROWS:mg "MOST_ROWS" = some (.int 80 t.k_MOST_ROWS)
 m_SLOTS:mg "SLOTS" = some (.str "abcdefgh" t.k_SLOTS)
 m_WIDE:mg "WIDE" = some (.int 18446744073709551616 t.k_WIDE)
 m_WORDS:mg "WORDS" = some (.ref t.k_WORDS)
 kt_WORDS:KTp K t.k_WORDS ((["plus","minus","times","less","same"]:List Str).map V.str)
 m_HallError:mg "HallError" = some (.ref (xAd K "HallError"))
 m_NoDeed:mg "NoDeed" = some (.ref (xAd K "NoDeed"))
 m_NoBoxes:mg "NoBoxes" = some (.ref (xAd K "NoBoxes"))
 m_NoHands:mg "NoHands" = some (.ref (xAd K "NoHands"))
 m_NoHand:mg "NoHand" = some (.ref (xAd K "NoHand"))
 m_NoRow:mg "NoRow" = some (.ref (xAd K "NoRow"))
 x_NoDeed:XCls K (xAd K "NoDeed")
 xs__law_refused:∀ k∈(["NoDeed"]:List Str),XSub K (xAd K k) (xAd K "HallError")
 isx:∀ r∈ywQ,(∀ a,PySem.W.KitX K (.ref a) (.ref (xAd K r.1)) (fun h=>∃ ox,PySem.W.InstAt h a ox (xAd K r.1) none))/\PySem.W.kitOne K (.ref (xAd K r.1)) (.ref (xAd K r.2.1))=some r.2.2
 isy:∀ r∈ywR,(∀ a,PySem.W.KitX K (.ref a) (.ref (xAd K r.1)) (fun h=>∃ ox,PySem.W.InstAt h a ox (xAd K r.1) none))/\PySem.W.kitOne K (.ref (xAd K r.1)) (.type r.2.1)=some r.2.2
theorem Txt.F {K:PySem.W.Frag}{mg:Str->Option Value}{t:Ads}(T:Txt K mg t) (n:Nat) (r:FR) (h:fR n=r:=by rfl):Fun K r.1 r.2.1 r.2.2.1 (t.a n) (t.d n):=h ▸ T.f n
theorem Txt.k {K:PySem.W.Frag}{mg:Str->Option Value}{t:Ads}(T:Txt K mg t) (n:Nat):keepIn K (.ref (t.a n))=true:=(T.f n).kp
section
variable {P:Program}{w:World}{K:PySem.W.Frag}{mg:Str->Option Value}{base:Heap}{t:Ads}
theorem yir {n:Nat}{ck:Ck}{vs:List V}{H:Hp}{Q:VK}{E:XK}(h:spE ck n (fun _ _=>none) vs H Q E):False:=by
 obtain ⟨_,_,_,_,_,_,_,_,q,_⟩:=h
 cases q
theorem ycZ {f:Addr}{fd:FuncData}{ps:List Str}{k n:Nat}{ck:Ck}:FnOk P w K mg base CX0 k f fd ps (spE ck n fun _ _=>none):=⟨fun vs H Q E h=>(yir h).elim,fun A outer s H args us vs Q E _ _ _ _ h=>(yir h).elim⟩
theorem ynO {n:Nat}{ck:Ck}{vs:List V}{H:Hp}{Q:VK}{E:XK}(h:spR ck n (fun _ _=>none) vs H Q E):False:=by
 obtain ⟨_,_,_,_,_,_,_,_,q,_⟩:=h
 cases q
theorem yfE {f:Addr}{fd:FuncData}{ps:List Str}{k n:Nat}{ck:Ck}:FnOk P w K mg base (CXr P w) k f fd ps (spR ck n fun _ _=>none):=⟨fun vs H Q E h=>(ynO h).elim,fun A outer s H args us vs Q E _ _ _ _ h=>(ynO h).elim⟩
local macro_rules | `(‹($n,$i,$r,$k,$p)›)=>`(FnOk $(Lean.mkIdent `P) $(Lean.mkIdent `w) $(Lean.mkIdent `K) $(Lean.mkIdent `mg) $(Lean.mkIdent `base) CX0 $n ($(Lean.mkIdent `t).a $i) ($(Lean.mkIdent `t).d $i) (FR.ps $r) (spE (yhw $(Lean.mkIdent `K) $(Lean.mkIdent `t)) $k $p))
structure yGv (P:Program) (w:World) (K:PySem.W.Frag) (mg:Str->Option Value) (base:Heap) (t:Ads) (n:Nat):Prop where
 yfV:‹(n+1,20,r20,1,(ybj n))›
 ylx:‹(n+1,21,r21,1,(ygl n))›
 ygs:‹(n+1,22,r22,1,(ydB n))›
 yjl:‹(n+1,23,r23,1,(yfD n))›
 m_long:ylU P w K mg base (n+1) t.A "long" (fun k=>spE (yhw K t) 1 (yfm n k))
structure yGw (P:Program) (w:World) (K:PySem.W.Frag) (mg:Str->Option Value) (base:Heap) (t:Ads) (n:Nat):Prop where
 ycf:‹(n+6,34,r34,2,(yI n))›
 ycg:‹(n+6,35,r35,2,(yp n))›
 ycN:‹(n+6,36,r36,2,(yx n))›
 ygX:‹(n+6,37,r37,2,(ycD n))›
 yft:‹(n+6,38,r38,2,(ybM n))›
 ygt:‹(n+6,39,r39,2,(ycq n))›
structure yGx (P:Program) (w:World) (K:PySem.W.Frag) (mg:Str->Option Value) (base:Heap) (t:Ads) (n:Nat):Prop where
 ydo:FnOk P w K mg base (CXr P w) (n+52) (t.a 48) (t.d 48) (FR.ps r48) (spR (yhw K t) 2 (yK n))
 yfu:FnOk P w K mg base (CXr P w) (n+52) (t.a 49) (t.d 49) (FR.ps r49) (spR (yhw K t) 2 (yv n))
 yfv:FnOk P w K mg base (CXr P w) (n+52) (t.a 50) (t.d 50) (FR.ps r50) (spR (yhw K t) 2 (yD n))
 yfW:FnOk P w K mg base (CXr P w) (n+52) (t.a 51) (t.d 51) (FR.ps r51) (spR (yhw K t) 2 (yce n))
 yeM:FnOk P w K mg base (CXr P w) (n+52) (t.a 52) (t.d 52) (FR.ps r52) (spR (yhw K t) 2 (yby n))
 yfJ:FnOk P w K mg base (CXr P w) (n+52) (t.a 53) (t.d 53) (FR.ps r53) (spR (yhw K t) 2 (ybR n))
structure yGy (P:Program) (w:World) (K:PySem.W.Frag) (mg:Str->Option Value) (base:Heap) (t:Ads) (n:Nat):Prop where
 yhk:‹(n+100,62,r62,1,(ycx n))›
structure yGz (P:Program) (w:World) (K:PySem.W.Frag) (mg:Str->Option Value) (base:Heap) (t:Ads) (n:Nat):Prop where
 yeN:‹(n+120,63,r63,1,(ybP n))›
structure yGA (P:Program) (w:World) (K:PySem.W.Frag) (mg:Str->Option Value) (base:Heap) (t:Ads) (n:Nat):Prop where
 yrx:‹(n+140,65,r65,1,(ybC n))›
 yis:‹(n+140,66,r66,1,(ydM n))›
variable (T:Txt K mg t)
include T
theorem yfw:FnOk P w K mg base CX0 (0+1) (t.a 5) (t.d 5) (FR.ps r5) (spI (yhw K t) 2 1 yea):=zin (T.F 5 r5) (sc 5) rfl (by decide) fun cdv Ar outer sh H E hr=>(yco (ycu (T.N 2) z_v) (yeF (ycu (T.N 3) z_v)))
theorem ygu:FnOk P w K mg base CX0 (0+1) (t.a 6) (t.d 6) (FR.ps r6) (spI (yhw K t) 4 2 yde):=zin (T.F 6 r6) (sc 6) rfl (by decide) fun cdv Ar outer sh H E hr=>(yco (ycu (T.N 8) z_v) (yco (ycu (T.N 2) z_v) (yco (ycu (T.N 9) z_v) (yeF (ycu (T.N 10) z_v)))))
theorem yeV:FnOk P w K mg base CX0 (0+1) (t.a 7) (t.d 7) (FR.ps r7) (spI (yhw K t) 2 3 ydK):=zin (T.F 7 r7) (sc 7) rfl (by decide) fun cdv Ar outer sh H E hr=>(yco (ycu (T.N 2) z_v) (yeF (ycu (T.N 4) z_v)))
theorem yfx:FnOk P w K mg base CX0 (0+1) (t.a 8) (t.d 8) (FR.ps r8) (spI (yhw K t) 2 4 yeb):=zin (T.F 8 r8) (sc 8) rfl (by decide) fun cdv Ar outer sh H E hr=>(yco (ycu (T.N 4) z_v) (yeF (ycu (T.N 2) z_v)))
theorem yiD:FnOk P w K mg base CX0 (0+1) (t.a 9) (t.d 9) (FR.ps r9) (spI (yhw K t) 3 5 yeG):=zin (T.F 9 r9) (sc 9) rfl (by decide) fun cdv Ar outer sh H E hr=>(yco (ycu (T.N 2) z_v) (yco (ycu (T.N 5) (ych (yhY ycs yeB (T.Z 5) (ya z_v yd)))) (yeF (ycu (T.N 6) (ych (yhY ycs yeB (T.Z 5) (ya z_v yd)))))))
theorem ygv:FnOk P w K mg base CX0 (0+1) (t.a 10) (t.d 10) (FR.ps r10) (spI (yhw K t) 2 6 ydf):=zin (T.F 10 r10) (sc 10) rfl (by decide) fun cdv Ar outer sh H E hr=>(yco (ycu (T.N 5) (ych (yhY ycs yeB (T.Z 5) (ya z_v yd)))) (yeF (ycu (T.N 6) (ych (yhY ycs yeB (T.Z 5) (ya z_v yd))))))
theorem yit:FnOk P w K mg base CX0 (0+1) (t.a 11) (t.d 11) (FR.ps r11) (spI (yhw K t) 4 7 yec):=zin (T.F 11 r11) (sc 11) rfl (by decide) fun cdv Ar outer sh H E hr=>(yco (ycu (T.N 5) (ych (yhY ycs yeB (T.Z 5) (ya z_v yd)))) (yco (ycu (T.N 7) z_v) (yco (ycu (T.N 2) z_v) (yeF (ycu (T.N 6) (ych (yhY ycs yeB (T.Z 5) (ya z_v yd))))))))
theorem yev:FnOk P w K mg base CX0 (0+1) (t.a 12) (t.d 12) (FR.ps r12) (spI (yhw K t) 2 8 ydv):=zin (T.F 12 r12) (sc 12) rfl (by decide) fun cdv Ar outer sh H E hr=>(yco (ycu (T.N 7) z_v) (yeF (ycu (T.N 2) z_v)))
theorem yly:‹(0+1,13,r13,1,yib)›:=zfn (T.F 13 r13) (sc 13) fun cdv Ar outer sh H E hr=>(yf (yo yi))
theorem ymI:‹(0+1,14,r14,1,yiX)›:=zfn (T.F 14 r14) (sc 14) fun cdv Ar outer sh H E hr=>(yf (yo yi))
theorem yiE:‹(0+1,15,r15,1,ygk)›:=zfn (T.F 15 r15) (sc 15) fun cdv Ar outer sh H E hr=>(yf (yo yi))
theorem ylz:‹(0+1,16,r16,1,yic)›:=zfn (T.F 16 r16) (sc 16) fun cdv Ar outer sh H E hr=>(yf (yo yi))
theorem ymJ:‹(0+1,17,r17,1,yiY)›:=zfn (T.F 17 r17) (sc 17) fun cdv Ar outer sh H E hr=>(yf (yo yi))
theorem ykb:‹(0+1,18,r18,1,yhe)›:=zfn (T.F 18 r18) (sc 18) fun cdv Ar outer sh H E hr=>(yf (yo yi))
theorem ylA:‹(0+1,19,r19,1,yid)›:=zfn (T.F 19 r19) (sc 19) fun cdv Ar outer sh H E hr=>(yf (yo yi))
theorem ykc:∀ n,yGv P w K mg base t n
 | 0=>⟨ycZ,ycZ,ycZ,ycZ,fun c=>⟨T.cl c,.inl fun _ _ _ _ h=>yir h⟩⟩
 | n+1=>by
  have I:=ykc n
  have ydh:=I.yfV
  have yBH:=I.ylx
  have ytO:=I.ygs
  have yxW:=I.yjl
  have G_long:=I.m_long
  exact ⟨zfn (T.F 20 r20) (sc 20) fun cdv Ar outer sh H E hr=>(yf (yo (yhX (yjx rfl) ywe (T.Z 9) (ya (ych (ykV [] (yfh z_v) (fun _ _ _ _ _ _=>(yqD z_v G_long)))) yd)))),
   zfn (T.F 21 r21) (sc 21) fun cdv Ar outer sh H E hr=>(yf (yo (yW ybI ycU (yW ybI ycU yi (yF ydh (T.G 5) (T.k 20) (T.b 20) (ya (yhW (T.N 5) z_v) yd))) (yF ydh (T.G 5) (T.k 20) (T.b 20) (ya (yhW (T.N 6) z_v) yd))))),
   zfn (T.F 22 r22) (sc 22) fun cdv Ar outer sh H E hr=>(yf (yo (yW ybI ycU (yW ybI ycU yi (yF ydh (T.G 5) (T.k 20) (T.b 20) (ya (yhW (T.N 5) z_v) yd))) (yF ydh (T.G 5) (T.k 20) (T.b 20) (ya (yhW (T.N 6) z_v) yd))))),
   zfn (T.F 23 r23) (sc 23) fun cdv Ar outer sh H E hr=>(yf (yo (yW ybI ycU (yW ybI ycU yi (yF ydh (T.G 5) (T.k 20) (T.b 20) (ya (yhW (T.N 5) z_v) yd))) (yF ydh (T.G 5) (T.k 20) (T.b 20) (ya (yhW (T.N 6) z_v) yd))))),
   fun c=>⟨T.cl c,match c with|0=>.inr ⟨_,_,_,(T.M 0),(yly T).mono (by omega),(T.b 13)⟩|1=>.inr ⟨_,_,_,(T.M 1),(ymI T).mono (by omega),(T.b 14)⟩|2=>.inr ⟨_,_,_,(T.M 2),(yiE T).mono (by omega),(T.b 15)⟩|3=>.inr ⟨_,_,_,(T.M 3),(ylz T).mono (by omega),(T.b 16)⟩|4=>.inr ⟨_,_,_,(T.M 4),(ymJ T).mono (by omega),(T.b 17)⟩|5=>.inr ⟨_,_,_,(T.M 5),I.ylx.mono (by omega),(T.b 21)⟩|6=>.inr ⟨_,_,_,(T.M 6),I.ygs.mono (by omega),(T.b 22)⟩|7=>.inr ⟨_,_,_,(T.M 7),I.yjl.mono (by omega),(T.b 23)⟩|8=>.inr ⟨_,_,_,(T.M 8),(ykb T).mono (by omega),(T.b 18)⟩|9=>.inr ⟨_,_,_,(T.M 9),(ylA T).mono (by omega),(T.b 19)⟩|10=>.inl fun _ _ _ _ h=>yir h|c+11=>.inl fun _ _ _ _ h=>yir h⟩⟩
theorem ygw:‹(0+1,0,r0,2,ydl)›:=zfn (T.F 0 r0) (sc 0) fun cdv Ar outer sh H E hr=>(yf (yo (yhX (ysg rfl) yCE (T.Z 1) (ya (ych (ykV ["signs"] (yzZ z_v) (fun _ _ _ _ _ _=>(yjI ykt yzk z_v z_v)))) yd))))
theorem yhl:‹(1+1,1,r1,1,ycL)›:=zfn (T.F 1 r1) (sc 1) fun cdv Ar outer sh H E hr=>have nd:=(sc 1 (r:=r1)).nd;(yc (ybg (yup (you (yeR (yti yrS yrS yBM yBM yi (yhX yfb yqe (T.Z 4) (ya z_v yd)) yi)) (yiU (yeR (yel (yF (ygw T) (T.G 0) (T.k 0) (T.b 0) (ya z_v (ya (yqA T.m_FIGURES) yd)))))))) (yf (yo yht)) yC) (yc (ybg (yup (yuq (yz ybu ydy (yeS ypB ywd z_v yi) yg) (yqB (yz yrR yBN z_v yg)))) (yf (yo yht)) yC) (yc (ym (yow yku yzo (T.Z 2) (ya z_v yd))) (yf (yo (yDx (yz ylK ywb z_v (ykU T.m_WIDE)) z_v yht))))))
theorem yjm:‹(0+1,2,r2,1,yfj)›:=zfn (T.F 2 r2) (sc 2) fun cdv Ar outer sh H E hr=>(yf (yo (yjI yhK ywl z_v (yAc (ss:=["plus","minus","times","less","same"]) T.m_WORDS T.kt_WORDS))))
theorem yjn:‹(0+1,3,r3,1,yfk)›:=zfn (T.F 3 r3) (sc 3) fun cdv Ar outer sh H E hr=>(yf (yo (ywt (yjI ybu ydy (yhX yfb yqe (T.Z 4) (ya z_v yd)) yi) (yws (yjI ykt yzk z_v (yqA T.m_SLOTS))))))
theorem yjo:‹(1+1,4,r4,1,yfl)›:=zfn (T.F 4 r4) (sc 4) fun cdv Ar outer sh H E hr=>(yf (yo (ywt (ywr yrS yrS yBM yBM yi (yhX yfb yqe (T.Z 4) (ya z_v yd)) yi) (yws (yF (ygw T) (T.G 0) (T.k 0) (T.b 0) (ya z_v (ya (yqA T.m_LETTERS) yd)))))))
theorem ydY:FnOk P w K mg base CX0 (0+1) (t.a 24) (t.d 24) (FR.ps r24) (spI (yhw K t) 1 10 ycC):=zin (T.F 24 r24) (sc 24) rfl (by decide) fun cdv Ar outer sh H E hr=>(yco (ycu (T.N 1) (ych (yhY ycs yeB (T.Z 5) (ya z_v yd)))) (yeF (ycu (T.N 0) yi)))
theorem yiu:‹(0+1,25,r25,1,yem)›:=zfn (T.F 25 r25) (sc 25) fun cdv Ar outer sh H E hr=>(yc (ybg (yz ybu ydy z_v yg) (yf (yo (ych (ybW yd)))) yC) (yf (yo (yoX PySem.F.plainAttrs_str PySem.F.slot_str_split PySem.F.type_str_split ynq m_split z_v (ya yg yd)))))
theorem yY:‹(0+1,26,r26,1,yO)›:=zfn (T.F 26 r26) (sc 26) fun cdv Ar outer sh H E hr=>(yc (ybg (yz ylK ywb (yhW (T.N 0) z_v) (yhX ydk ykM (T.Z 4) (ya (yhW (T.N 1) z_v) yd))) (yf (yo (yeS yds yhp (yhW (T.N 1) z_v) (yhW (T.N 0) z_v)))) yC) (yf (yo yht)))
theorem yZ:‹(1+1,27,r27,1,yL)›:=zfn (T.F 27 r27) (sc 27) fun cdv Ar outer sh H E hr=>have nd:=(sc 27 (r:=r27)).nd;(yc (ym (yB z_v (T.M 10) (yY T) (T.b 26))) (yc (ybg (yz yiJ yok z_v yht) (yf ydz) yC) (yc (ywx (T.N 0) z_v (yW ybI ycU (yhW (T.N 0) z_v) yi)) (yf (yo z_v)))))
theorem yE:‹(2+1,28,r28,2,yq)›:=zfn (T.F 28 r28) (sc 28) fun cdv Ar outer sh H E hr=>have nd:=(sc 28 (r:=r28)).nd;(yc (ym (yB z_v (T.M 11) (yZ T) (T.b 27))) (yf (ybg (yz yrR yBN z_v z_v) (yf ydz) yC)))
theorem yn:‹(2+1,29,r29,1,yh)›:=zfn (T.F 29 r29) (sc 29) fun cdv Ar outer sh H E hr=>have nd:=(sc 29 (r:=r29)).nd;(yc (ym (yB z_v (T.M 11) (yZ T) (T.b 27))) (yc (ybg (yeR (yel (yF (yjn T) (T.G 3) (T.k 3) (T.b 3) (ya z_v yd)))) (yf ydz) yC) (yf (yo z_v))))
theorem ybT:‹(2+1,30,r30,1,ybb)›:=zfn (T.F 30 r30) (sc 30) fun cdv Ar outer sh H E hr=>have nd:=(sc 30 (r:=r30)).nd;(yc (ym (yB z_v (T.M 11) (yZ T) (T.b 27))) (yc (ybg (yeR (yel (yF (yjo T) (T.G 4) (T.k 4) (T.b 4) (ya z_v yd)))) (yf ydz) yC) (yf (yo z_v))))
theorem yeX:‹(2+1,31,r31,1,ybK)›:=zfn (T.F 31 r31) (sc 31) fun cdv Ar outer sh H E hr=>have nd:=(sc 31 (r:=r31)).nd;(yc (ym (yB z_v (T.M 11) (yZ T) (T.b 27))) (yc (ym (yF (yhl T) (T.G 1) (T.k 1) (T.b 1) (ya z_v yd))) (yc (ybg (yz yiJ yok z_v yht) (yf ydz) yC) (yf (yo z_v)))))
theorem yeY:‹(3+1,32,r32,2,ybL)›:=zfn (T.F 32 r32) (sc 32) fun cdv Ar outer sh H E hr=>have nd:=(sc 32 (r:=r32)).nd;(yc (ym (yB z_v (T.M 13) (yn T) (T.b 29))) (yc (ym (yB z_v (T.M 13) (yn T) (T.b 29))) (yc (ym (yB z_v (T.M 13) (yn T) (T.b 29))) (yf (yo (ych (yfN (T.J 1) (ygu T) (T.C 2) (T.b 6) (ya z_v (ya z_v (ya z_v (ya z_v yd)))))))))))
theorem yfy:‹(4+1,33,r33,2,ybQ)›:=zfn (T.F 33 r33) (sc 33) fun cdv Ar outer sh H E hr=>have nd:=(sc 33 (r:=r33)).nd;(yc (ybg (yz ybu ydy z_v yg) (yc (ym (yB z_v (T.M 13) (yn T) (T.b 29))) (yf (yo (ych (yfN (T.J 0) (yfw T) (T.C 1) (T.b 5) (ya z_v (ya (yB z_v (T.M 15) (yeX T) (T.b 31)) yd))))))) yC) (yc (ybg (yz ybu ydy z_v yg) (yc (ym (yB z_v (T.M 13) (yn T) (T.b 29))) (yf (yo (ych (yfN (T.J 2) (yeV T) (T.C 3) (T.b 7) (ya z_v (ya (yB z_v (T.M 13) (yn T) (T.b 29)) yd))))))) yC) (yc (ybg (yz ybu ydy z_v yg) (yc (ym (yB z_v (T.M 13) (yn T) (T.b 29))) (yf (yo (ych (yfN (T.J 3) (yfx T) (T.C 4) (T.b 8) (ya z_v (ya (yB z_v (T.M 13) (yn T) (T.b 29)) yd))))))) yC) (yc (ybg (yz ybu ydy z_v yg) (yc (ym (yB z_v (T.M 14) (ybT T) (T.b 30))) (yf (yo (ych (yfN (T.J 7) (yev T) (T.C 8) (T.b 12) (ya z_v (ya (yB z_v (T.M 13) (yn T) (T.b 29)) yd))))))) yC) (yc (ybg (yz ybu ydy z_v yg) (yf (yo (ych (ywu T.mk_Wait T.io_Wait T.kp_Wait (T.C 9))))) yC) (yc (ybg (yel (yF (yjm T) (T.G 2) (T.k 2) (T.b 2) (ya z_v yd))) (yf (yo (yU z_v (T.M 16) (yeY T) (T.b 32) (ya z_v yd)))) yC) (yf ydz)))))))
theorem yeO:∀ n,yGw P w K mg base t n
 | 0=>⟨ycZ,ycZ,ycZ,ycZ,ycZ,ycZ⟩
 | n+1=>by
  have I:=yeO n
  have yfX:=I.ycf
  have ybn:=I.ycg
  have ydP:=I.ycN
  have ygY:=I.ygX
  have yfz:=I.yft
  have ygx:=I.ygt
  exact ⟨zfn (T.F 34 r34) (sc 34) fun cdv Ar outer sh H E hr=>have nd:=(sc 34 (r:=r34)).nd;(yc (ybg (yup (you (yz yiJ yok (yB z_v (T.M 10) (yY T) (T.b 26)) yht) (yiU (yz ybu ydy (yB z_v (T.M 10) (yY T) (T.b 26)) yg)))) (yf (yo (ych (ybW yd)))) yC) (yc (ymr (ybW (ya (yU z_v (T.M 20) ydP (T.b 36) (ya z_v yd)) yd))) (yc (ytj (yz ybu ydy (yB z_v (T.M 10) (yY T) (T.b 26)) yg) (yc (ycK (yU z_v (T.M 12) (yE T) (T.b 28) (ya yg yd))) (yf (yiV (yU z_v (T.M 20) ydP (T.b 36) (ya z_v yd)))))) (yqE (yf (yo z_v)))))),
   zfn (T.F 35 r35) (sc 35) fun cdv Ar outer sh H E hr=>have nd:=(sc 35 (r:=r35)).nd;(yc (ycK (yU z_v (T.M 12) (yE T) (T.b 28) (ya yg yd))) (yc (ym (yU z_v (T.M 18) yfX (T.b 34) (ya z_v yd))) (yc (ycK (yU z_v (T.M 12) (yE T) (T.b 28) (ya yg yd))) (yf (yo z_v))))),
   zfn (T.F 36 r36) (sc 36) fun cdv Ar outer sh H E hr=>have nd:=(sc 36 (r:=r36)).nd;(yc (ybg (yz yjt ysK z_v (ykU T.m_MOST_AROUND)) (yf ydz) yC) (yc (ym (yB z_v (T.M 11) (yZ T) (T.b 27))) (yc (ybg (yz ybu ydy z_v yg) (yf (yo (yU z_v (T.M 21) ygY (T.b 37) (ya (yW ybI ycU z_v yi) yd)))) yC) (yc (ybg (yz ybu ydy z_v yg) (yf (yo (yU z_v (T.M 22) yfz (T.b 38) (ya (yW ybI ycU z_v yi) yd)))) yC) (yc (ybg (yz ybu ydy z_v yg) (yf (yo (yU z_v (T.M 23) ygx (T.b 39) (ya (yW ybI ycU z_v yi) yd)))) yC) (yf (yo (yU z_v (T.M 17) (yfy T) (T.b 33) (ya z_v yd))))))))),
   zfn (T.F 37 r37) (sc 37) fun cdv Ar outer sh H E hr=>have nd:=(sc 37 (r:=r37)).nd;(yc (ym (yB z_v (T.M 13) (yn T) (T.b 29))) (yc (ym (yU z_v (T.M 19) ybn (T.b 35) (ya z_v yd))) (yc (ycK (yU z_v (T.M 12) (yE T) (T.b 28) (ya yg yd))) (yc (ym (yU z_v (T.M 19) ybn (T.b 35) (ya z_v yd))) (yf (yo (ych (yfN (T.J 4) (yiD T) (T.C 5) (T.b 9) (ya z_v (ya z_v (ya z_v yd))))))))))),
   zfn (T.F 38 r38) (sc 38) fun cdv Ar outer sh H E hr=>have nd:=(sc 38 (r:=r38)).nd;(yc (ym (yU z_v (T.M 19) ybn (T.b 35) (ya z_v yd))) (yc (ycK (yU z_v (T.M 12) (yE T) (T.b 28) (ya yg yd))) (yc (ym (yU z_v (T.M 19) ybn (T.b 35) (ya z_v yd))) (yf (yo (ych (yfN (T.J 5) (ygv T) (T.C 6) (T.b 10) (ya z_v (ya z_v yd))))))))),
   zfn (T.F 39 r39) (sc 39) fun cdv Ar outer sh H E hr=>have nd:=(sc 39 (r:=r39)).nd;(yc (ym (yU z_v (T.M 19) ybn (T.b 35) (ya z_v yd))) (yc (ycK (yU z_v (T.M 12) (yE T) (T.b 28) (ya yg yd))) (yc (ym (yB z_v (T.M 14) (ybT T) (T.b 30))) (yc (ym (yB z_v (T.M 13) (yn T) (T.b 29))) (yc (ym (yU z_v (T.M 19) ybn (T.b 35) (ya z_v yd))) (yf (yo (ych (yfN (T.J 6) (yit T) (T.C 7) (T.b 11) (ya z_v (ya z_v (ya z_v (ya z_v yd)))))))))))))⟩
theorem ybZ:FnOk P w K mg base (CXr P w) (1+1) (t.a 41) (t.d 41) (FR.ps r41) (spR (yhw K t) 1 ybl):=yfn (T.F 41 r41) (sc 41) fun cdv Ar outer sh H E hr=>have nd:=(sc 41 (r:=r41)).nd;(yjK (ym (yB z_v (T.M 10) (yY T) (T.b 26))) (ydc (yz yiJ yok z_v yht) (yX (ydA T.x_NoDeed T.m_NoDeed yg)) yhd))
theorem ybd:FnOk P w K mg base (CXr P w) (2+1) (t.a 42) (t.d 42) (FR.ps r42) (spR (yhw K t) 2 yJ):=yfn (T.F 42 r42) (sc 42) fun cdv Ar outer sh H E hr=>have nd:=(sc 42 (r:=r42)).nd;(ybs (ycp (i:=2) (ybv z_v (T.M 24) (ybZ T) (T.b 41))) (ym (yB z_v (T.M 11) (yZ T) (T.b 27))) (ydc (yz yrR yBN z_v z_v) (yX (ydA T.x_NoDeed T.m_NoDeed (yW yM ycn (yW yM ycn (yW yM ycn yg z_v) yg) z_v))) yhd))
theorem yA:FnOk P w K mg base (CXr P w) (2+1) (t.a 43) (t.d 43) (FR.ps r43) (spR (yhw K t) 1 yr):=yfn (T.F 43 r43) (sc 43) fun cdv Ar outer sh H E hr=>have nd:=(sc 43 (r:=r43)).nd;(ybs (ycp (i:=1) (ybv z_v (T.M 24) (ybZ T) (T.b 41))) (ym (yB z_v (T.M 11) (yZ T) (T.b 27))) (ydc (yeR (yel (yF (yjn T) (T.G 3) (T.k 3) (T.b 3) (ya z_v yd)))) (yX (ydA T.x_NoDeed T.m_NoDeed (yW yM ycn yg z_v))) yhd))
theorem ydd:FnOk P w K mg base (CXr P w) (2+1) (t.a 44) (t.d 44) (FR.ps r44) (spR (yhw K t) 1 ybp):=yfn (T.F 44 r44) (sc 44) fun cdv Ar outer sh H E hr=>have nd:=(sc 44 (r:=r44)).nd;(ybs (ycp (i:=1) (ybv z_v (T.M 24) (ybZ T) (T.b 41))) (ym (yB z_v (T.M 11) (yZ T) (T.b 27))) (ydc (yeR (yel (yF (yjo T) (T.G 4) (T.k 4) (T.b 4) (ya z_v yd)))) (yX (ydA T.x_NoDeed T.m_NoDeed (yW yM ycn yg z_v))) yhd))
theorem yew:FnOk P w K mg base (CXr P w) (2+1) (t.a 45) (t.d 45) (FR.ps r45) (spR (yhw K t) 1 ybw):=yfn (T.F 45 r45) (sc 45) fun cdv Ar outer sh H E hr=>have nd:=(sc 45 (r:=r45)).nd;(ybs (ycp (i:=1) (ybv z_v (T.M 24) (ybZ T) (T.b 41))) (ym (yB z_v (T.M 11) (yZ T) (T.b 27))) (yjK (ym (yF (yhl T) (T.G 1) (T.k 1) (T.b 1) (ya z_v yd))) (ydc (yz yiJ yok z_v yht) (yX (ydA T.x_NoDeed T.m_NoDeed (yW yM ycn yg z_v))) yhd)))
theorem yex:FnOk P w K mg base (CXr P w) (3+1) (t.a 46) (t.d 46) (FR.ps r46) (spR (yhw K t) 2 ybx):=yfn (T.F 46 r46) (sc 46) fun cdv Ar outer sh H E hr=>have nd:=(sc 46 (r:=r46)).nd;(ybs (ycp (i:=2) (ybv z_v (T.M 26) (yA T) (T.b 43))) (ym (yB z_v (T.M 13) (yn T) (T.b 29))) (ybs (ycp (i:=3) (ybv z_v (T.M 26) (yA T) (T.b 43))) (ym (yB z_v (T.M 13) (yn T) (T.b 29))) (yX (ycp (i:=4) (ybv z_v (T.M 26) (yA T) (T.b 43))))))
theorem yeP:FnOk P w K mg base (CXr P w) (4+1) (t.a 47) (t.d 47) (FR.ps r47) (spR (yhw K t) 2 ybF):=yfn (T.F 47 r47) (sc 47) fun cdv Ar outer sh H E hr=>have nd:=(sc 47 (r:=r47)).nd;(ydc (yz ybu ydy z_v yg) (ybs (ycp (i:=2) (ybv z_v (T.M 26) (yA T) (T.b 43))) (ym (yB z_v (T.M 13) (yn T) (T.b 29))) (yX (ygj (yjM (T.J 0) (yfw T) (T.C 1) (T.b 5) (yjL z_v (ygK (ybv z_v (T.M 28) (yew T) (T.b 45)))))))) (ydc (yz ybu ydy z_v yg) (ybs (ycp (i:=2) (ybv z_v (T.M 26) (yA T) (T.b 43))) (ym (yB z_v (T.M 13) (yn T) (T.b 29))) (yX (ygj (yjM (T.J 2) (yeV T) (T.C 3) (T.b 7) (yjL z_v (ygK (ybv z_v (T.M 26) (yA T) (T.b 43)))))))) (ydc (yz ybu ydy z_v yg) (ybs (ycp (i:=3) (ybv z_v (T.M 26) (yA T) (T.b 43))) (ym (yB z_v (T.M 13) (yn T) (T.b 29))) (yX (ygj (yjM (T.J 3) (yfx T) (T.C 4) (T.b 8) (yjL z_v (ygK (ybv z_v (T.M 26) (yA T) (T.b 43)))))))) (ydc (yz ybu ydy z_v yg) (ybs (ycp (i:=4) (ybv z_v (T.M 27) (ydd T) (T.b 44))) (ym (yB z_v (T.M 14) (ybT T) (T.b 30))) (yX (ygj (yjM (T.J 7) (yev T) (T.C 8) (T.b 12) (yjL z_v (ygK (ybv z_v (T.M 26) (yA T) (T.b 43)))))))) (ydc (yz ybu ydy z_v yg) yhd (ydc (yel (yF (yjm T) (T.G 2) (T.k 2) (T.b 2) (ya z_v yd))) (yX (ygj (ybO z_v (T.M 29) (yex T) (T.b 46) (ya z_v yd)))) (yX (ydA T.x_NoDeed T.m_NoDeed (yW yM ycn yg z_v)))))))))
theorem yry:∀ n,yGx P w K mg base t n
 | 0=>⟨yfE,yfE,yfE,yfE,yfE,yfE⟩
 | n+1=>by
  have I:=yry n
  have yfA:=I.ydo
  have ybe:=I.yfu
  have ydp:=I.yfv
  have yfY:=I.yfW
  have yeQ:=I.yeM
  have yfK:=I.yfJ
  exact ⟨yfn (T.F 48 r48) (sc 48) fun cdv Ar outer sh H E hr=>have nd:=(sc 48 (r:=r48)).nd;(ydc (yup (you (yz yiJ yok (yB z_v (T.M 10) (yY T) (T.b 26)) yht) (yiU (yz ybu ydy (yB z_v (T.M 10) (yY T) (T.b 26)) yg)))) yhd (ybs (ycp (i:=2) (yDy (ygK (ybO z_v (T.M 33) ydp (T.b 50) (ya z_v yd))))) (ymr (ybW (ya (yU z_v (T.M 20) (yeO T 45).ycN (T.b 36) (ya z_v yd)) yd))) (yX (ytl (yz ybu ydy (yB z_v (T.M 10) (yY T) (T.b 26)) yg) (yc (ycK (yU z_v (T.M 12) (yE T) (T.b 28) (ya yg yd))) (yf (yiV (yU z_v (T.M 20) (yeO T 45).ycN (T.b 36) (ya z_v yd))))) (ybs (ygJ (ybO z_v (T.M 25) (ybd T) (T.b 42) (ya yg yd))) (ycK (yU z_v (T.M 12) (yE T) (T.b 28) (ya yg yd))) (yX (yAh (ybO z_v (T.M 33) ydp (T.b 50) (ya z_v yd))))))))),
   yfn (T.F 49 r49) (sc 49) fun cdv Ar outer sh H E hr=>have nd:=(sc 49 (r:=r49)).nd;(ybs (ygJ (ybO z_v (T.M 25) (ybd T) (T.b 42) (ya yg yd))) (ycK (yU z_v (T.M 12) (yE T) (T.b 28) (ya yg yd))) (ybs (ycp (i:=2) (ybO z_v (T.M 31) yfA (T.b 48) (ya z_v yd))) (ym (yU z_v (T.M 18) (yeO T 45).ycf (T.b 34) (ya z_v yd))) (yX (ygJ (ybO z_v (T.M 25) (ybd T) (T.b 42) (ya yg yd)))))),
   yfn (T.F 50 r50) (sc 50) fun cdv Ar outer sh H E hr=>have nd:=(sc 50 (r:=r50)).nd;(ydc (yz yjt ysK z_v (ykU T.m_MOST_AROUND)) (yX (ydA T.x_NoDeed T.m_NoDeed yg)) (ybs (ycp (i:=2) (ybv z_v (T.M 24) (ybZ T) (T.b 41))) (ym (yB z_v (T.M 11) (yZ T) (T.b 27))) (ydc (yz ybu ydy z_v yg) (yX (ygj (ybO z_v (T.M 34) yfY (T.b 51) (ya (yW ybI ycU z_v yi) yd)))) (ydc (yz ybu ydy z_v yg) (yX (ygj (ybO z_v (T.M 35) yeQ (T.b 52) (ya (yW ybI ycU z_v yi) yd)))) (ydc (yz ybu ydy z_v yg) (yX (ygj (ybO z_v (T.M 36) yfK (T.b 53) (ya (yW ybI ycU z_v yi) yd)))) (yX (ygj (ybO z_v (T.M 30) (yeP T) (T.b 47) (ya z_v yd))))))))),
   yfn (T.F 51 r51) (sc 51) fun cdv Ar outer sh H E hr=>have nd:=(sc 51 (r:=r51)).nd;(ybs (ycp (i:=2) (ybv z_v (T.M 26) (yA T) (T.b 43))) (ym (yB z_v (T.M 13) (yn T) (T.b 29))) (ybs (ycp (i:=3) (ybO z_v (T.M 32) ybe (T.b 49) (ya z_v yd))) (ym (yU z_v (T.M 19) (yeO T 45).ycg (T.b 35) (ya z_v yd))) (ybs (ygJ (ybO z_v (T.M 25) (ybd T) (T.b 42) (ya yg yd))) (ycK (yU z_v (T.M 12) (yE T) (T.b 28) (ya yg yd))) (yX (ycp (i:=4) (ybO z_v (T.M 32) ybe (T.b 49) (ya z_v yd))))))),
   yfn (T.F 52 r52) (sc 52) fun cdv Ar outer sh H E hr=>have nd:=(sc 52 (r:=r52)).nd;(ybs (ycp (i:=2) (ybO z_v (T.M 32) ybe (T.b 49) (ya z_v yd))) (ym (yU z_v (T.M 19) (yeO T 45).ycg (T.b 35) (ya z_v yd))) (ybs (ygJ (ybO z_v (T.M 25) (ybd T) (T.b 42) (ya yg yd))) (ycK (yU z_v (T.M 12) (yE T) (T.b 28) (ya yg yd))) (yX (ycp (i:=3) (ybO z_v (T.M 32) ybe (T.b 49) (ya z_v yd)))))),
   yfn (T.F 53 r53) (sc 53) fun cdv Ar outer sh H E hr=>have nd:=(sc 53 (r:=r53)).nd;(ybs (ycp (i:=2) (ybO z_v (T.M 32) ybe (T.b 49) (ya z_v yd))) (ym (yU z_v (T.M 19) (yeO T 45).ycg (T.b 35) (ya z_v yd))) (ybs (ygJ (ybO z_v (T.M 25) (ybd T) (T.b 42) (ya yg yd))) (ycK (yU z_v (T.M 12) (yE T) (T.b 28) (ya yg yd))) (ybs (ycp (i:=3) (ybv z_v (T.M 27) (ydd T) (T.b 44))) (ym (yB z_v (T.M 14) (ybT T) (T.b 30))) (ybs (ycp (i:=4) (ybv z_v (T.M 26) (yA T) (T.b 43))) (ym (yB z_v (T.M 13) (yn T) (T.b 29))) (yX (ycp (i:=5) (ybO z_v (T.M 32) ybe (T.b 49) (ya z_v yd))))))))⟩
theorem yxD:‹(51+1,40,r40,1,yhf)›:=zfn (T.F 40 r40) (sc 40) fun cdv Ar outer sh H E hr=>have nd:=(sc 40 (r:=r40)).nd;(yc (ym (yth (yfN (T.J 8) (ydY T) (T.C 10) (T.b 24) (ya (yF (yiu T) (T.G 6) (T.k 25) (T.b 25) (ya z_v yd)) yd)))) (yc (ym (yU z_v (T.M 18) (yeO T 45).ycf (T.b 34) (ya yi yd))) (yc (ybg (yz ypq yui (yB z_v (T.M 10) (yY T) (T.b 26)) yht) (yf ydz) yC) (yc (ybg (yz yjt ysK (yW ybI ycU (yF (ykc T 45).yfV (T.G 5) (T.k 20) (T.b 20) (ya z_v yd)) yi) (ykU T.m_MOST_ROWS)) (yf ydz) yC) (yf (yo z_v))))))
theorem yrz:FnOk P w K mg base (CXr P w) (97+1) (t.a 54) (t.d 54) (FR.ps r54) (spR (yhw K t) 1 ydU):=yfn (T.F 54 r54) (sc 54) fun cdv Ar outer sh H E hr=>have nd:=(sc 54 (r:=r54)).nd;(yjK (ym (yth (yfN (T.J 8) (ydY T) (T.C 10) (T.b 24) (ya (yF (yiu T) (T.G 6) (T.k 25) (T.b 25) (ya z_v yd)) yd)))) (ybs (ycp (i:=2) (ybO z_v (T.M 31) (yry T 45).ydo (T.b 48) (ya yi yd))) (ym (yU z_v (T.M 18) (yeO T 45).ycf (T.b 34) (ya yi yd))) (ydc (yz ypq yui (yB z_v (T.M 10) (yY T) (T.b 26)) yht) (yX (ydA T.x_NoDeed T.m_NoDeed yg)) (ydc (yz yjt ysK (yW ybI ycU (yF (ykc T 45).yfV (T.G 5) (T.k 20) (T.b 20) (ya z_v yd)) yi) (ykU T.m_MOST_ROWS)) (yX (ydA T.x_NoDeed T.m_NoDeed yg)) yhd))))
theorem ydQ:‹(0+1,55,r55,2,ybo)›:=zfn (T.F 55 r55) (sc 55) fun cdv Ar outer sh H E hr=>(yc (ybg (yz ylK ywb z_v (yhX ydk ykM (T.Z 4) (ya z_v yd))) (yf (yo (yeS yds yhp z_v z_v))) yC) (yf (yo yi)))
theorem yhm:‹(0+1,56,r56,1,ydL)›:=zfn (T.F 56 r56) (sc 56) fun cdv Ar outer sh H E hr=>have nd:=(sc 56 (r:=r56)).nd;(yc (ybg (yz ybu ydy (yW ybh ycc z_v yi) yi) (yf (yo (yeS yds yhp (ych (ybW (ya yg (ya yg (ya yg (ya yg (ya yg (ya yg (ya yg (ya yg yd)))))))))) (yW ybh ycc (yW ybf ycS z_v yi) yi)))) yC) (yc (ym yg) (yc (ym (yW ybI ycU yi (yW ybh ycc (yW ybf ycS z_v yi) yi))) (yc (ym (yW ybh ycc (yW ybf ycS z_v yi) z_v)) (yc (ym yg) (yc (yhZ (ymq (T.Z 7) (ya z_v yd)) ydZ (yc (ym (yW ybI ycU (yW ybf ycS z_v yi) (yW ymR ysJ z_v z_v))) (yc (ybg (yz ybu ydy z_v z_v) (yf (ym (yW ybI ycU z_v (yW ybf ycS z_v yi)))) yC) (yf (ym (yW yM ycn z_v (yeS ypB ywd z_v (yW ybh ycc z_v yi)))))))) (yf (yo z_v))))))))
theorem ydq:‹(0+1,57,r57,1,ycv)›:=zfn (T.F 57 r57) (sc 57) fun cdv Ar outer sh H E hr=>(yf (yo (yeS ypB ywd yg (yW ybh ycc z_v yi))))
theorem yiF:‹(0+1,58,r58,1,ydC)›:=zfn (T.F 58 r58) (sc 58) fun cdv Ar outer sh H E hr=>(yc (ybg (yz ybu ydy (yW ybh ycc z_v yi) yi) (yf (yo (yW ybh ycc (yW ybf ycS z_v yi) yi))) yC) (yc (ybg (yz ybu ydy (yW ybh ycc z_v yi) yi) (yf (yo (yW ymQ ysI (yW ymQ ysI (yW yiI yoj yi yi) yi) (yW ybh ycc (yW ybf ycS z_v yi) yi)))) yC) (yf (yo (yW ybh ycc (yW ybf ycS z_v yi) (yW yiI yoj yi yi))))))
theorem ykd:‹(1+1,59,r59,1,ydV)›:=zfn (T.F 59 r59) (sc 59) fun cdv Ar outer sh H E hr=>have nd:=(sc 59 (r:=r59)).nd;(yc (ym (yW ybh ycc z_v yi)) (yc (ym (yW ybh ycc (yW ymR ysJ (yW ybf ycS z_v yi) yi) yi)) (yc (ym (yF (ydq T) (T.G 11) (T.k 57) (T.b 57) (ya z_v yd))) (yc (ym (yF (ydq T) (T.G 11) (T.k 57) (T.b 57) (ya (yW ybf ycS z_v yi) yd))) (yc (ybg (yz ylK ywb z_v yi) (yf (yo (yhu (ya yg (ya z_v (ya (yF (yiF T) (T.G 12) (T.k 58) (T.b 58) (ya (yW ybf ycS z_v yi) yd)) yd)))))) yC) (yc (ybg (yz ylK ywb z_v yi) (yf (yo (yhu (ya (yeS yds yhp (ych (ybW (ya yg (ya yg (ya yg (ya yg (ya yg yd))))))) (yW ybh ycc (yW ybf ycS z_v yi) yi)) (ya z_v (ya z_v (ya (yF (ydq T) (T.G 11) (T.k 57) (T.b 57) (ya (yW ybf ycS z_v yi) yd)) yd))))))) yC) (yc (ybg (yz ylK ywb z_v yi) (yf (yo (yhu (ya yg (ya z_v (ya z_v yd)))))) yC) (yc (ybg (yz ylK ywb z_v yi) (yf (yo (yhu (ya yg (ya z_v (ya z_v yd)))))) yC) (yc (ybg (yz ybu ydy z_v yi) (yf (yo (yhu (ya yg (ya (yF (yhm T) (T.G 10) (T.k 56) (T.b 56) (ya (yW ybf ycS z_v yi) yd)) (ya z_v yd)))))) yC) (yf (yo (yhu (ya yg yd)))))))))))))
theorem yke:‹(1+1,60,r60,3,ydW)›:=zfn (T.F 60 r60) (sc 60) fun cdv Ar outer sh H E hr=>have nd:=(sc 60 (r:=r60)).nd;(yc (ym (yW ybh ycc (yW ymR ysJ z_v yi) yi)) (yc (ybg (yz ybu ydy (yW ybh ycc z_v yi) yi) (yf (yAd (ya z_v (ya z_v yd)))) yC) (yc (ym (yW ybh ycc (yW ybf ycS z_v yi) yi)) (yc (ybg (yz ybu ydy z_v yi) (yf (yo (yhu (ya yg (ya (yF (ydq T) (T.G 11) (T.k 57) (T.b 57) (ya (yW ybf ycS z_v yi) yd)) (ya z_v (ya z_v yd))))))) yC) (yc (ybg (yz ybu ydy z_v yi) (yf (yo (yhu (ya yg (ya z_v (ya z_v yd)))))) yC) (yf (yo (yhu (ya yg (ya z_v (ya (yF (yhm T) (T.G 10) (T.k 56) (T.b 56) (ya z_v yd)) (ya (yF (ydq T) (T.G 11) (T.k 57) (T.b 57) (ya (yW ybf ycS z_v yi) yd)) (ya z_v yd)))))))))))))
theorem ygy:‹(0+1,61,r61,1,ycw)›:=zfn (T.F 61 r61) (sc 61) fun cdv Ar outer sh H E hr=>(yc (ybg (yz ybu ydy (yeS ycr ydI z_v yi) yg) (yf (yo (ych (ybW (ya (yeS ycr ydI z_v yi) (ya (yeS ycr ydI z_v yi) yd)))))) yC) (yc (ybg (yz ybu ydy (yeS ycr ydI z_v yi) yg) (yf (yo (ych (ybW (ya (yeS ycr ydI z_v yi) (ya (yeS ycr ydI z_v yi) yd)))))) yC) (yc (ybg (yz ybu ydy (yeS ycr ydI z_v yi) yg) (yf (yo (ych (ybW (ya (yeS ycr ydI z_v yi) (ya (yeS ycr ydI z_v yi) yd)))))) yC) (yf (yo (ych (ybW yd)))))))
theorem yrA:∀ n,yGy P w K mg base t n
 | 0=>⟨ycZ⟩
 | n+1=>by
  have I:=yrA n
  have ylB:=I.yhk
  exact ⟨zfn (T.F 62 r62) (sc 62) fun cdv Ar outer sh H E hr=>have nd:=(sc 62 (r:=r62)).nd;(yc (ym (yGc yyx yCB yi)) (yc (yhZ (yfh z_v) ydZ (yc (yhZ (yfh (yF (ygy T) (T.G 15) (T.k 61) (T.b 61) (ya z_v yd))) ydZ (yf (ym (yhX (ygb rfl) ynl (T.Z 6) (ya z_v (ya (yW ybI ycU yi (yF ylB (T.G 16) (T.k 62) (T.b 62) (ya z_v yd))) yd)))))) (yf (ym (yhX (ygb rfl) ynl (T.Z 6) (ya z_v (ya yi yd))))))) (yf (yo z_v))))⟩
theorem ykf:∀ n,yGz P w K mg base t n
 | 0=>⟨ycZ⟩
 | n+1=>by
  have I:=ykf n
  have ymK:=I.yeN
  exact ⟨zfn (T.F 63 r63) (sc 63) fun cdv Ar outer sh H E hr=>have nd:=(sc 63 (r:=r63)).nd;(yc (ym yi) (yc (yhZ (yfh z_v) ydZ (yc (ym (yW ybI ycU (yW ybI ycU z_v yi) (yhX (yjx rfl) ywe (T.Z 9) (ya (ych (ykV [] (yfh (yF (ygy T) (T.G 15) (T.k 61) (T.b 61) (ya z_v yd))) (fun _ _ _ _ _ _=>(yF ymK (T.G 17) (T.k 63) (T.b 63) (ya z_v yd))))) yd)))) (yf (ym (yW ybI ycU (yW ybI ycU z_v (yow yhF yqf (T.Z 2) (ya (yjI yhK ywl (yeS ycr ydI z_v yi) (yhu (ya yg (ya yg (ya yg yd))))) yd))) (yow yhF yqf (T.Z 2) (ya (yjI yhK ywl (yeS ycr ydI z_v yi) (yhu (ya yg (ya yg yd)))) yd))))))) (yf (yo z_v))))⟩
theorem ylC:‹(135+1,64,r64,2,yeH)›:=zfn (T.F 64 r64) (sc 64) fun cdv Ar outer sh H E hr=>have nd:=(sc 64 (r:=r64)).nd;(yc (ym (yW ybh ycc z_v (yW yiI yoj yi yi))) (yc (ybg (yz yjt ysK (yW ybh ycc z_v yi) yi) (yf (ym (ych (ygi yeg ygF z_v (ych (ybW (ya (yF (ykd T) (T.G 13) (T.k 59) (T.b 59) (ya (yW ybf ycS z_v yi) yd)) yd))))))) (yc (ym (yhX (ygb rfl) ynl (T.Z 6) (ya yi (ya (yW ymQ ysI (yhX ydk ykM (T.Z 4) (ya z_v yd)) (yW ybh ycc (yW ybf ycS z_v yi) yi)) yd)))) (yc (ym (yhX (ygb rfl) ynl (T.Z 6) (ya yi (ya (yW ymQ ysI z_v (yW ybh ycc (yW ybf ycS z_v yi) yi)) yd)))) (yf (ym (ych (ygi yeg ygF (ych (yov ygC yon z_v yqC (yeE z_v))) (ych (ybW (ya (yF (yke T) (T.G 14) (T.k 60) (T.b 60) (ya (yW ybf ycS z_v yi) (ya (ych (yov ygC yon z_v (yeE z_v) yqC)) (ya (ych (yov ygC yon z_v (yeE z_v) (yeE z_v))) yd)))) yd)))))))))) (yc (ybg (yup (you (yz yjt ysK (yF (yrA T 15).yhk (T.G 16) (T.k 62) (T.b 62) (ya z_v yd)) yi) (yiU (yz yjt ysK (yF (ykf T 15).yeN (T.G 17) (T.k 63) (T.b 63) (ya z_v yd)) yi)))) (yf (yo z_v)) yC) (yf (yo z_v)))))
theorem yrB:∀ n,yGA P w K mg base t n
 | 0=>⟨ycZ,ycZ⟩
 | n+1=>by
  have I:=yrB n
  have yey:=I.yrx
  have ymL:=I.yis
  exact ⟨zfn (T.F 65 r65) (sc 65) fun cdv Ar outer sh H E hr=>(yc (ybg (yz (yus (yut hr)) yzP z_v (ych (ybW yd))) (yf (yo yg)) yC) (yf (yo (yW yM ycn (yW yM ycn yg (yF ymL (T.G 20) (T.k 66) (T.b 66) (ya z_v yd))) yg)))),
   zfn (T.F 66 r66) (sc 66) fun cdv Ar outer sh H E hr=>have nd:=(sc 66 (r:=r66)).nd;(yc (ymr (ybW yd)) (yc (yhZ (yfh z_v) ydZ (yf (ybg (yz ybu ydy (yeS ycr ydI z_v yi) yg) (yf (yiV (yW yM ycn (yW yM ycn (yW yM ycn (yW yM ycn (yW yM ycn yg (yeS ycr ydI z_v yi)) yg) (yF yey (T.G 19) (T.k 65) (T.b 65) (ya (yeS ycr ydI z_v yi) yd))) yg) (yF yey (T.G 19) (T.k 65) (T.b 65) (ya (yeS ycr ydI z_v yi) yd))))) (yf (ybg (yz ybu ydy (yeS ycr ydI z_v yi) yg) (yf (yiV (yW yM ycn (yW yM ycn (yW yM ycn yg (yF yey (T.G 19) (T.k 65) (T.b 65) (ya (yeS ycr ydI z_v yi) yd))) yg) (yF yey (T.G 19) (T.k 65) (T.b 65) (ya (yeS ycr ydI z_v yi) yd))))) (yf (ybg (yz ybu ydy (yeS ycr ydI z_v yi) yg) (yc (ym (ych (ybW (ya yg (ya (yF yey (T.G 19) (T.k 65) (T.b 65) (ya (yeS ycr ydI z_v yi) yd)) (ya yg (ya (yeS ycr ydI z_v yi) (ya (yeS ycr ydI z_v yi) (ya (yF yey (T.G 19) (T.k 65) (T.b 65) (ya (yeS ycr ydI z_v yi) yd)) yd))))))))) (yf (yiV (yoX PySem.F.plainAttrs_str PySem.F.slot_str_join PySem.F.type_str_join yfc yhb yg (ya z_v yd))))) (yf (yiV (yoX PySem.F.plainAttrs_str PySem.F.slot_str_join PySem.F.type_str_join yfc yhb yg (ya (ych (ykV [] (yzY z_v) (fun _ _ _ _ _ _=>(yow yqF yzS (T.Z 8) (ya z_v yd))))) yd))))))))))) (yqE (yf (yo (yoX PySem.F.plainAttrs_str PySem.F.slot_str_join PySem.F.type_str_join yfc yhb yg (ya z_v yd)))))))⟩
theorem ycB:‹(98+1,67,r67,1,ybA)›:=zfn (T.F 67 r67) (sc 67) fun cdv Ar outer sh H E hr=>have nd:=(sc 67 (r:=r67)).nd;(yc (ym (ych (ybW yd))) (yc (yAf (ywB (yrz T) (T.G 8) (T.k 54) (T.b 54) (fun _=>(ya z_v yd))) (fun _ _=>(yc (ym (ych (ybW (ya (yhX ycO (yiW (K:=ckX _ _) T.isa T.isx T.isy) (T.Z 3) (ya z_v (ya (yzX (T.Z 0)) yd))) (ya (yhX ycO (yiW (K:=ckX _ _) T.isa T.isx T.isy) (T.Z 3) (ya z_v (ya (ykX T.m_NoDeed) yd))) (ya (yhX ycO (yiW (K:=ckX _ _) T.isa T.isx T.isy) (T.Z 3) (ya z_v (ya (ykX T.m_NoBoxes) yd))) (ya (yhX ycO (yiW (K:=ckX _ _) T.isa T.isx T.isy) (T.Z 3) (ya z_v (ya (ykX T.m_NoHands) yd))) yd))))))) (yf (ym (ych (ygi yeg ygF z_v (ych (ybW (ya (yhX ycO (yiW (K:=ckX _ _) T.isa T.isx T.isy) (T.Z 3) (ya z_v (ya (ykX T.m_NoHand) yd))) (ya (yhX ycO (yiW (K:=ckX _ _) T.isa T.isx T.isy) (T.Z 3) (ya z_v (ya (ykX T.m_NoRow) yd))) yd)))))))))) T.xs__law_refused T.m_HallError) (yf (yo (yjI (yus (yut hr)) yzP z_v (ych (ybW (ya yoW (ya yoW (ya yoW (ya yoW (ya yoW (ya yoW yd)))))))))))))
theorem ycJ:‹(52+1,68,r68,2,ybk)›:=zfn (T.F 68 r68) (sc 68) fun cdv Ar outer sh H E hr=>have nd:=(sc 68 (r:=r68)).nd;(yc (ym (yF (yxD T) (T.G 7) (T.k 40) (T.b 40) (ya z_v yd))) (yf (yo (ywt (yhX yhN (yzs (K:=ckX _ _) T.isa) (T.Z 3) (ya z_v (ya (yzX (T.Z 5)) yd))) (yws (yjI ybu ydy (yhX (yjx rfl) ywe (T.Z 9) (ya (ych (ykV [] (yfh z_v) (fun _ _ _ _ _ _=>(yqD z_v (ykc T 45).m_long)))) yd)) z_v))))))
theorem yhx:‹(0+1,69,r69,1,ycy)›:=zfn (T.F 69 r69) (sc 69) fun cdv Ar outer sh H E hr=>have nd:=(sc 69 (r:=r69)).nd;(yc (ym (ych (ybW (ya yg (ya yg (ya yg (ya yg (ya yg (ya yg (ya yg (ya yg (ya yg (ya yg (ya yg (ya yg (ya yg (ya yg yd))))))))))))))))) (yc (ym (ych (ygi yeg ygF z_v (ych (ybW (ya yg (ya yg (ya yg (ya yg (ya yg (ya yg (ya yg (ya yg (ya yg (ya yg (ya yg yd)))))))))))))))) (yf (yo (yeS yds yhp z_v (yW ybh ycc z_v yi))))))
theorem yhy:‹(0+1,70,r70,1,ycX)›:=zfn (T.F 70 r70) (sc 70) fun cdv Ar outer sh H E hr=>have nd:=(sc 70 (r:=r70)).nd;(yc (ym (ych (ybW (ya yg (ya yg (ya yg (ya yg (ya yg (ya yg (ya yg (ya yg (ya yg (ya yg (ya yg yd)))))))))))))) (yc (ym (ych (ygi yeg ygF z_v (ych (ybW (ya yg (ya yg (ya yg (ya yg (ya yg (ya yg (ya yg (ya yg yd))))))))))))) (yc (ym (ych (ygi yeg ygF z_v (ych (ybW (ya yg (ya yg (ya yg (ya yg (ya yg yd)))))))))) (yc (ym (ych (ygi yeg ygF z_v (ych (ybW (ya yg (ya yg (ya yg (ya yg (ya yg yd)))))))))) (yc (ym (ych (ygi yeg ygF z_v (ych (ybW (ya yg (ya yg (ya yg (ya yg (ya yg yd)))))))))) (yc (ym (ych (ygi yeg ygF z_v (ych (ybW (ya yg (ya yg (ya yg (ya yg (ya yg (ya yg yd))))))))))) (yf (yo (yeS yds yhp z_v (yW ybh ycc z_v yi))))))))))
theorem yiG:‹(1+1,71,r71,3,ycY)›:=zfn (T.F 71 r71) (sc 71) fun cdv Ar outer sh H E hr=>have nd:=(sc 71 (r:=r71)).nd;(yc (ym (yth (yAi z_v (ya yg yd)))) (yc (ym (yW ybh ycc z_v (yhX ydk ykM (T.Z 4) (ya z_v yd)))) (yc (ym (yF (yhx T) (T.G 23) (T.k 69) (T.b 69) (ya (yW ybf ycS z_v yi) yd))) (yc (ybg (yup (you (yup (yuq (yz ybu ydy z_v yi) (yqB (yz ybu ydy (yeS yds yhp z_v z_v) yg)))) (yiU (yz ybu ydy (yhX ydk ykM (T.Z 4) (ya z_v yd)) yi)))) (yf (ym yi)) yC) (yc (ybg (yup (you (yz ybu ydy z_v yi) (yiU (yz ybu ydy z_v yg)))) (yc (ycK (yoX plainAttrs_list PySem.F.slot_list_insert PySem.F.type_list_insert yuu yuo z_v (ya z_v (ya z_v yd)))) (yf (ybg (yz ybu ydy z_v yg) (yf (ym (yth (ybW (ya yg (ya z_v yd)))))) yC))) (yf (ybg (yz ybu ydy z_v yi) (yf (yww z_v z_v z_v)) (yf (ybg (yz ybu ydy z_v yi) (yf (ycK (yoX plainAttrs_list PySem.F.slot_list_insert PySem.F.type_list_insert yuu yuo z_v (ya z_v (ya (yeS yds yhp z_v z_v) yd))))) (yf (ycK (yoX plainAttrs_list PySem.F.slot_list_pop PySem.F.type_list_pop ywC yzV z_v (ya z_v yd))))))))) (yf (yo (yoX PySem.F.plainAttrs_str PySem.F.slot_str_join PySem.F.type_str_join yfc yhb yg (ya z_v yd)))))))))
theorem ykg:‹(0+1,72,r72,2,ycQ)›:=zfn (T.F 72 r72) (sc 72) fun cdv Ar outer sh H E hr=>(yc (ybg (yz ybu ydy z_v yi) (yf (yo (yW yM ycn yg z_v))) yC) (yc (ybg (yz ybu ydy z_v yi) (yf (yo (yW yM ycn z_v yg))) yC) (yf (yo (yW yM ycn yg z_v)))))
theorem yiH:‹(0+1,73,r73,1,ydD)›:=zfn (T.F 73 r73) (sc 73) fun cdv Ar outer sh H E hr=>have nd:=(sc 73 (r:=r73)).nd;(yc (ym (ych (ybW (ya (ych (ybW (ya yg (ya yg yd)))) (ya (ych (ybW (ya yg (ya yg yd)))) (ya (ych (ybW (ya yg (ya yg yd)))) (ya (ych (ybW (ya yg (ya yg yd)))) yd))))))) (yc (ym (ych (ygi yeg ygF z_v (ych (ybW (ya (ych (ybW (ya yg (ya yg yd)))) (ya (ych (ybW (ya yg (ya yg yd)))) yd))))))) (yc (ym (ych (ygi yyI yCD (ych (ybW (ya yg yd))) (yW ybh ycc z_v yi)))) (yc (ym (yW ybh ycc z_v yi)) (yc (yhZ (ymq (T.Z 7) (ya (yW ybh ycc (yW ybf ycS z_v yi) yi) yd)) ydZ (yc (ym (yeS yds yhp z_v (yW ybh ycc (yW ybI ycU (yW ybf ycS z_v yi) (yW ymR ysJ z_v (yW ybh ycc (yW ybf ycS z_v yi) yi))) yi))) (yc (ym (ych (ygi yeg ygF (ych (ygi yeg ygF (ych (ybW (ya (yeS yds yhp z_v yi) yd))) z_v)) (ych (ybW (ya (yeS yds yhp z_v yi) yd)))))) (yf (ym (yW ybI ycU (yW ybI ycU z_v yi) (yow yhF yqf (T.Z 2) (ya (yjI yrR yBN (yGd yyO yCC (yeS yds yhp z_v yi) yqC (yeE yi)) yg) yd)))))))) (yf (yo (yhu (ya (yoX PySem.F.plainAttrs_str PySem.F.slot_str_join PySem.F.type_str_join yfc yhb yg (ya z_v yd)) (ya (yW ybI ycU (yW ybh ycc (yW ybf ycS z_v yi) yi) (yW ybh ycc z_v yi)) (ya z_v yd)))))))))))
theorem ygz:‹(99+1,74,r74,1,ybX)›:=zfn (T.F 74 r74) (sc 74) fun cdv Ar outer sh H E hr=>have nd:=(sc 74 (r:=r74)).nd;(yc (yAb (yF (yiH T) (T.G 27) (T.k 73) (T.b 73) (ya z_v yd)) (yAa (yjJ ydZ (yjJ ydZ (yjJ ydZ ywv))))) (yc (ybg (yz yjt ysK z_v yi) (yf (yo (yF (ycB T) (T.G 21) (T.k 67) (T.b 67) (ya z_v yd)))) yC) (yf (yo (yF (ycJ T) (T.G 22) (T.k 68) (T.b 68) (ya z_v (ya z_v yd)))))))
theorem ygA:‹(99+1,75,r75,1,ybY)›:=zfn (T.F 75 r75) (sc 75) fun cdv Ar outer sh H E hr=>have nd:=(sc 75 (r:=r75)).nd;(yc (ym (yW ybI ycU yi (yW ybh ycc z_v yi))) (yc (ytk [] (ymq (T.Z 7) (ya z_v yd)) (fun _ _ _ _ _ _=>(yW yM ycn yg (yow call_str_int yzn (T.Z 8) (ya z_v yd))))) (yc (ym (yoX PySem.F.plainAttrs_str PySem.F.slot_str_join PySem.F.type_str_join yfc yhb yg (ya z_v yd))) (yc (ybg (yz ybu ydy (yW ybh ycc (yW ybf ycS z_v yi) yi) yi) (yc (ym (yW ybh ycc (yW ybf ycS z_v yi) z_v)) (yc (ym (yoX PySem.F.plainAttrs_str PySem.F.slot_str_join PySem.F.type_str_join yfc yhb yg (ya (ych (yov ygC yon z_v (yeE z_v) yqC)) yd))) (yc (ym (yoX PySem.F.plainAttrs_str PySem.F.slot_str_join PySem.F.type_str_join yfc yhb yg (ya (ych (ygi yeg ygF (ych (yov ygC yon z_v yqC (yeE z_v))) (ych (ybW (ya (yW yM ycn (yW yM ycn yg z_v) yg) yd))))) yd))) (yf (ym (yW ybI ycU z_v yi)))))) yC) (yc (ybg (yz yjt ysK z_v yi) (yf (yo (yF (ycB T) (T.G 21) (T.k 67) (T.b 67) (ya z_v yd)))) yC) (yf (yo (yF (ycJ T) (T.G 22) (T.k 68) (T.b 68) (ya z_v (ya z_v yd))))))))))
theorem yBI:‹(170+1,76,r76,1,yto)›:=zfn (T.F 76 r76) (sc 76) fun cdv Ar outer sh H E hr=>have nd:=(sc 76 (r:=r76)).nd;(yc (ym (ych (ybW yd))) (yc (yhZ (yfh (ych (yov ygC yon z_v (yeE yi) (yeE yi)))) ydZ (yf (ym (yF (ylC T) (T.G 18) (T.k 64) (T.b 64) (ya z_v (ya z_v yd)))))) (yc (ym (yF (yrB T 30).yis (T.G 20) (T.k 66) (T.b 66) (ya z_v yd))) (yc (ym (yW ybh ycc (yF (ydQ T) (T.G 9) (T.k 55) (T.b 55) (ya z_v (ya yi yd))) (yW yiI yoj yi yi))) (yc (ybg (yeR (yel (yF (ycJ T) (T.G 22) (T.k 68) (T.b 68) (ya z_v (ya (yF (ykf T 15).yeN (T.G 17) (T.k 63) (T.b 63) (ya z_v yd)) yd))))) (yf (yo yoW)) yC) (yc (ym (yF (yiG T) (T.G 25) (T.k 71) (T.b 71) (ya z_v (ya (yW ybh ycc z_v yi) (ya (yW ybf ycS z_v yi) yd))))) (yc (ybg (yeR (yel (yF (ycB T) (T.G 21) (T.k 67) (T.b 67) (ya z_v yd)))) (yf (yo yoW)) yC) (yc (ybg (yeR (yel (yF (ycB T) (T.G 21) (T.k 67) (T.b 67) (ya (yF (yhy T) (T.G 24) (T.k 70) (T.b 70) (ya (yW ybf ycS z_v yi) yd)) yd)))) (yf (yo yoW)) yC) (yc (ybg (yeR (yel (yF (ycB T) (T.G 21) (T.k 67) (T.b 67) (ya (yF (ykg T) (T.G 26) (T.k 72) (T.b 72) (ya z_v (ya (yW ybh ycc z_v yi) yd))) yd)))) (yf (yo yoW)) yC) (yc (ybg (yeR (yel (yF (ygz T) (T.G 28) (T.k 74) (T.b 74) (ya (yW ybh ycc (yF (ydQ T) (T.G 9) (T.k 55) (T.b 55) (ya z_v (ya yi yd))) (yW yiI yoj yi yi)) yd)))) (yf (yo yoW)) yC) (yc (ybg (yeR (yel (yF (ygA T) (T.G 29) (T.k 75) (T.b 75) (ya (yW ybh ycc (yF (ydQ T) (T.G 9) (T.k 55) (T.b 55) (ya z_v (ya yi yd))) (yW yiI yoj yi yi)) yd)))) (yf (yo yoW)) yC) (yf (yo (yF (ycJ T) (T.G 22) (T.k 68) (T.b 68) (ya z_v (ya (yF (ykf T 15).yeN (T.G 17) (T.k 63) (T.b 63) (ya z_v yd)) yd))))))))))))))))
def ytP (K:PySem.W.Frag):Sp:=fun vs H Q _=>∃ (a:Addr) (ns:List Int),vs=[.ref a]/\SqL K H a (ns.map V.int)/\ns.length<=63/\∀ H',Q (.bl true) H'
theorem yBJ {A:Nat->Addr}:∀ vs H Q E,ytP K vs H Q E->spE ⟨K,A⟩ 1 yto vs H Q E:=by
 rintro _ H Q E ⟨a,ns,rfl,hS,hl,q⟩
 obtain ⟨h',e⟩:=yBG (h:=[]) ns hl
 exact ⟨⟨H,H,[],[]⟩,[.scr ns],.bl true,h',rfl,⟨Same.refl _,rfl,List.nodup_nil,fun n d a e=>by simp at e⟩,⟨.ref a,[],rfl,⟨a,rfl,hS⟩,rfl⟩,rfl,e,fun v W' _ _ rv=>by rw [show v=_ from rv];exact q _⟩
end
structure FB (K:PySem.W.Frag) (r:FR) (p:Addr×FuncData):Prop where
 F:Fun K r.1 r.2.1 r.2.2.1 p.1 p.2
 b:Binds K p.2 r.ps []
theorem FB.of {K:PySem.W.Frag}{x q:Str}{s:Stmt}{k:Nat}{n:List Str}{f:Addr}{d:FuncData}(F:Fun K x q s f d) (b:Binds K d (n.take k) []):FB K (fRw x q s k n) (f,d):=⟨F,b⟩
def All2 {α β:Type}(R:α->β->Prop):List α->List β->Prop
 | r::rs,p::ps=>R r p/\All2 R rs ps
 | [],[]=>True
 | _,_=>False
theorem All2.get {α β:Type}{R:α->β->Prop}{d:α}{e:β}(h:R d e):∀ {rs:List α}{ps:List β},All2 R rs ps->∀ n:Nat,R (rs.getD n d) (ps.getD n e)
 | [],[],_,_=>h
 | _::_,_::_,a,0=>a.1
 | _::_,_::_,a,n+1=>All2.get h a.2 n
abbrev Ns1 (K:PySem.W.Frag) (x:Str) (f:Addr):Prop:=nsIn K mainGlobals x=some (some (.ref f))
structure TyR (K:PySem.W.Frag) (C:Addr):Prop where
 ha:findIn K (.ref C) "__class__" = some (some (.builtin "object.__class__"))
 hm:mroIn K C (.type "object")=some true
 ty:typeIn K (.ref C)=some (.type "type")
structure NS2 (K:PySem.W.Frag) (c d:Addr):Prop where
 sb:subIn K (.ref c) (.ref d)=some false
 ne:(c == d)=false
noncomputable def NSx (K:PySem.W.Frag) (pre:List Addr):List Addr->Prop
 | []=>True
 | c::cs=>AllP (NS2 K c) pre/\AllP (NS2 K c) cs/\NSx K (c::pre) cs
theorem NSx.get {K:PySem.W.Frag}{A:Nat->Addr}:∀ {cs pre:List Nat},NSx K (pre.map A) (cs.map A)->∀ i∈cs,∀ j,j∈pre\/j∈cs->i≠j->NS2 K (A i) (A j)
 | c::cs,pre,a,i,hi,j,hj,ne=>by
  rcases mem_cons.mp hi with rfl|hi
  .rcases hj with hj|hj
   .exact a.1.mem _ (List.mem_map_of_mem hj)
   .rcases mem_cons.mp hj with rfl|hj
    .exact absurd rfl ne
    .exact a.2.1.mem _ (List.mem_map_of_mem hj)
  .refine NSx.get (pre:=c::pre) a.2.2 i hi j ?_ ne
   rcases hj with hj|hj
   .exact .inl (mem_cons_of_mem _ hj)
   .rcases mem_cons.mp hj with rfl|hj
    .exact .inl mem_cons_self
    .exact .inr hj
theorem yxE {K:PySem.W.Frag}{A:Nat->Addr}(CL:∀ k,Cls K (A k)) (hn:PySem.W.specialIn K (.builtin "object.__class__") "__get__" = some (some (.builtin "getset_descriptor.__get__"))) (htk:PySem.W.takesIn K (.builtin "object.__class__")=some true) (cs:List Nat) (ty:AllP (TyR K) (cs.map A)) (sb:NSx K [] (cs.map A)) :
  ∀ r∈tbO cs,∀ (H:Hp) (a dx:Addr) (fs:List (Str×V)),H a=some (.ins (A r.1) dx fs)->IsI K H (.ref a) (.ref (A r.2.1)) r.2.2:=by
 intro r hr H a dx fs e
 unfold tbO at hr
 obtain ⟨i,hi,hr⟩:=List.mem_flatMap.mp hr
 obtain ⟨j,hj,rfl⟩:=List.mem_map.mp hr
 have t:=ty.mem _ (List.mem_map_of_mem hi)
 have t':=ty.mem _ (List.mem_map_of_mem hj)
 refine ⟨_,_,.ins e (CL i) t.ha hn htk t.hm,rfl,?_⟩
 by_cases q:i=j
 .subst q
  show _=some (i == i)
  rw [beq_self_eq_true]
  exact yna
 .have n:=NSx.get (pre:=[]) sb i hi j (.inr hj) q
  show _=some (i == j)
  rw [beq_eq_false_iff_ne.mpr q]
  exact yge n.ne t'.hm t'.ty n.sb
theorem zip_get {K:PySem.W.Frag}{c0:Str}{C0:Addr}:∀ {cs:List Str}{as:List Addr},AllP (fun p:Str×Addr=>Ns1 K p.1 p.2) ((c0::cs).zip (C0::as))->cs.length=as.length->∀ n:Nat,Ns1 K ((c0::cs).getD n c0) ((C0::as).getD n C0):=fun {cs as} h hl n=>by
 have h0:=h.1
 have:∀ (cs:List Str) (as:List Addr),AllP (fun p:Str×Addr=>Ns1 K p.1 p.2) (cs.zip as)->cs.length=as.length->∀ n:Nat,Ns1 K (cs.getD n c0) (as.getD n C0):=by
  intro cs
  induction cs with
  | nil=>intro as _ e n;cases as with|nil=>exact h0|cons _ _=>cases e
  | cons c cs ih=>intro as h e n;cases as with|nil=>cases e|cons a as=>cases n with|zero=>exact h.1|succ n=>exact ih as h.2 (by simpa using e) n
 exact this _ _ h (by simpa using hl) n
theorem all_mk {l:PySem.W.OpenLaw}{w:World}{K:PySem.W.Frag}{h:Heap}{mg:Str->Option Value}{fa C0 C1 C2 C3 C4 C5 C6 C7 C8 C9 C10 f0 f1 f2 f3 f4 f5 f6 f7 f8 f9 f10 f11 f12 f13 f14 f15 f16 f17 f18 f19 f20 f21 f22 f23 f24 f25 f26 f27 f28 f29 f30 f31 f32 f33 f34 f35 f36 f37 f38 f39 f40 f41 f42 f43 f44 f45 f46 f47 f48 f49 f50 f51 f52 f53 f54 f55 f56 f57 f58 f59 f60 f61 f62 f63 f64 f65 f66 f67 f68 f69 f70 f71 f72 f73 f74 f75 f76 u7 X0 X1 X2 X3 X4 X5:Addr}{d0 d1 d2 d3 d4 d5 d6 d7 d8 d9 d10 d11 d12 d13 d14 d15 d16 d17 d18 d19 d20 d21 d22 d23 d24 d25 d26 d27 d28 d29 d30 d31 d32 d33 d34 d35 d36 d37 d38 d39 d40 d41 d42 d43 d44 d45 d46 d47 d48 d49 d50 d51 d52 d53 d54 d55 d56 d57 d58 d59 d60 d61 d62 d63 d64 d65 d66 d67 d68 d69 d70 d71 d72 d73 d74 d75 d76:FuncData}{u1 u2 u3 u4 u5 u6:Tok}(X:K.In h) (G:h.Ns mainGlobals mg) (hfa:mg "law" = some (.ref fa))
  {qd7:Option Addr}{qn7:Nat}{qs7:Array (Option Value)}{qt7_0 qt7_1 qt7_2 qt7_3 qt7_4:Tok}
  (hC:Ns1 K "Part" C0/\Ns1 K "Let" C1/\Ns1 K "Reckon" C2/\Ns1 K "Take" C3/\Ns1 K "Put" C4/\Ns1 K "If" C5/\Ns1 K "Either" C6/\Ns1 K "Try" C7/\Ns1 K "Throw" C8/\Ns1 K "Wait" C9/\Ns1 K "Reader" C10/\True)
  (cl:AllP (Cls K) [C0,C1,C2,C3,C4,C5,C6,C7,C8,C9,C10])
  (hK:Mk K C1 f5/\Mk K C2 f6/\Mk K C3 f7/\Mk K C4 f8/\Mk K C5 f9/\Mk K C6 f10/\Mk K C7 f11/\Mk K C8 f12/\Mk K C10 f24/\True)
  (mk0:makesIn K C0=true)
  (io0:findIn K (.ref C0) "__init__" = some (some (.builtin "object.__init__")))
  (kp0:keepIn K (.ref C0)=true)
  (mk9:makesIn K C9=true)
  (io9:findIn K (.ref C9) "__init__" = some (some (.builtin "object.__init__")))
  (kp9:keepIn K (.ref C9)=true)
  (hM:Meth K C0 "long" f13/\Meth K C1 "long" f14/\Meth K C2 "long" f15/\Meth K C3 "long" f16/\Meth K C4 "long" f17/\Meth K C5 "long" f21/\Meth K C6 "long" f22/\Meth K C7 "long" f23/\Meth K C8 "long" f18/\Meth K C9 "long" f19/\Meth K C10 "ahead" f26/\Meth K C10 "taken" f27/\Meth K C10 "pass_over" f28/\Meth K C10 "slot_taken" f29/\Meth K C10 "name_taken" f30/\Meth K C10 "number_taken" f31/\Meth K C10 "reckon_taken" f32/\Meth K C10 "plain_taken" f33/\Meth K C10 "list_taken" f34/\Meth K C10 "side_taken" f35/\Meth K C10 "part_taken" f36/\Meth K C10 "if_taken" f37/\Meth K C10 "either_taken" f38/\Meth K C10 "try_taken" f39/\Meth K C10 "taken" f41/\Meth K C10 "pass_over" f42/\Meth K C10 "slot_taken" f43/\Meth K C10 "name_taken" f44/\Meth K C10 "number_taken" f45/\Meth K C10 "reckon_taken" f46/\Meth K C10 "plain_taken" f47/\Meth K C10 "list_taken" f48/\Meth K C10 "side_taken" f49/\Meth K C10 "part_taken" f50/\Meth K C10 "if_taken" f51/\Meth K C10 "either_taken" f52/\Meth K C10 "try_taken" f53/\True)
  (hG:Ns1 K "is_made_of" f0/\Ns1 K "number_of" f1/\Ns1 K "is_word" f2/\Ns1 K "is_slot" f3/\Ns1 K "is_name" f4/\Ns1 K "list_long" f20/\Ns1 K "words_of" f25/\Ns1 K "read" f40/\Ns1 K "read" f54/\Ns1 K "_law_cell_at" f55/\Ns1 K "_law_name" f56/\Ns1 K "_law_slot" f57/\Ns1 K "_law_number" f58/\Ns1 K "_law_plain" f59/\Ns1 K "_law_sided" f60/\Ns1 K "_law_sides" f61/\Ns1 K "_law_round" f62/\Ns1 K "_law_long" f63/\Ns1 K "_law_more" f64/\Ns1 K "_law_in" f65/\Ns1 K "_law_text" f66/\Ns1 K "_law_refused" f67/\Ns1 K "_law_has_rows" f68/\Ns1 K "_law_odd_word" f69/\Ns1 K "_law_odd_text" f70/\Ns1 K "_law_spoilt" f71/\Ns1 K "_law_blank" f72/\Ns1 K "_law_nested" f73/\Ns1 K "_law_deep_right" f74/\Ns1 K "_law_long_right" f75/\Ns1 K "law" f76/\True)
  (hF:All2 (FB K) fT [(f0,d0),(f1,d1),(f2,d2),(f3,d3),(f4,d4),(f5,d5),(f6,d6),(f7,d7),(f8,d8),(f9,d9),(f10,d10),(f11,d11),(f12,d12),(f13,d13),(f14,d14),(f15,d15),(f16,d16),(f17,d17),(f18,d18),(f19,d19),(f20,d20),(f21,d21),(f22,d22),(f23,d23),(f24,d24),(f25,d25),(f26,d26),(f27,d27),(f28,d28),(f29,d29),(f30,d30),(f31,d31),(f32,d32),(f33,d33),(f34,d34),(f35,d35),(f36,d36),(f37,d37),(f38,d38),(f39,d39),(f40,d40),(f41,d41),(f42,d42),(f43,d43),(f44,d44),(f45,d45),(f46,d46),(f47,d47),(f48,d48),(f49,d49),(f50,d50),(f51,d51),(f52,d52),(f53,d53),(f54,d54),(f55,d55),(f56,d56),(f57,d57),(f58,d58),(f59,d59),(f60,d60),(f61,d61),(f62,d62),(f63,d63),(f64,d64),(f65,d65),(f66,d66),(f67,d67),(f68,d68),(f69,d69),(f70,d70),(f71,d71),(f72,d72),(f73,d73),(f74,d74),(f75,d75),(f76,d76)])
  (hN:(NoAttr K C10 "at"/\True)/\(NoAttr K C10 "words"/\True)/\(NoAttr K C1 "slot"/\NoAttr K C2 "slot"/\NoAttr K C3 "slot"/\NoAttr K C4 "slot"/\NoAttr K C5 "slot"/\NoAttr K C7 "slot"/\NoAttr K C8 "slot"/\True)/\(NoAttr K C1 "number"/\True)/\(NoAttr K C3 "place"/\NoAttr K C4 "place"/\True)/\(NoAttr K C5 "parts"/\NoAttr K C6 "parts"/\NoAttr K C7 "parts"/\True)/\(NoAttr K C5 "others"/\NoAttr K C6 "others"/\NoAttr K C7 "others"/\True)/\(NoAttr K C7 "name"/\NoAttr K C8 "name"/\True)/\(NoAttr K C2 "word"/\True)/\(NoAttr K C2 "one"/\True)/\(NoAttr K C2 "other"/\True)/\True)
  (ty:AllP (TyR K) [C1,C2,C3,C4,C5,C6,C7,C8,C9])
  (sb:NSx K [] [C1,C2,C3,C4,C5,C6,C7,C8,C9])
  (hn:PySem.W.specialIn K (.builtin "object.__class__") "__get__" = some (some (.builtin "getset_descriptor.__get__")))
  (htk:PySem.W.takesIn K (.builtin "object.__class__")=some true)
  (hZ:AllP (fun b=>nsIn K mainGlobals b=some none) zT)
  (q1:nsIn K mainGlobals "FIGURES" = some (some (.str "0123456789" u1)))
  (q2:nsIn K mainGlobals "LETTERS" = some (some (.str "abcdefghijklmnopqrstuvwxyz" u2)))
  (q3:nsIn K mainGlobals "MOST_AROUND" = some (some (.int 8 u3)))
  (q4:nsIn K mainGlobals "MOST_ROWS" = some (some (.int 80 u4)))
  (q5:nsIn K mainGlobals "SLOTS" = some (some (.str "abcdefgh" u5)))
  (q6:nsIn K mainGlobals "WIDE" = some (some (.int 18446744073709551616 u6)))
  (q7:nsIn K mainGlobals "WORDS" = some (some (.ref u7)))
  (qk7:K.lookup u7=some ⟨.type "tuple",qd7,.seq #[.str "plus" qt7_0,.str "minus" qt7_1,.str "times" qt7_2,.str "less" qt7_3,.str "same" qt7_4] qn7,qs7⟩)
  (xn0:nsIn K mainGlobals "HallError" = some (some (.ref X0)))
  (xn1:nsIn K mainGlobals "NoDeed" = some (some (.ref X1)))
  (xn2:nsIn K mainGlobals "NoBoxes" = some (some (.ref X2)))
  (xn3:nsIn K mainGlobals "NoHands" = some (some (.ref X3)))
  (xn4:nsIn K mainGlobals "NoHand" = some (some (.ref X4)))
  (xn5:nsIn K mainGlobals "NoRow" = some (some (.ref X5)))
  (xk0:XKit K X0)
  (xk1:XKit K X1)
  (xk2:XKit K X2)
  (xk3:XKit K X3)
  (xk4:XKit K X4)
  (xk5:XKit K X5)
  (xm1_0:mroIn K X1 (.ref X0)=some true)
  (xv1:mroIn K X1 (.type "ValueError")=some true)
  (xb1_2:subIn K (.ref X1) (.ref X2)=some false)
  (xe1_2:(X1 == X2)=false)
  (xb1_3:subIn K (.ref X1) (.ref X3)=some false)
  (xe1_3:(X1 == X3)=false)
  (xb1_4:subIn K (.ref X1) (.ref X4)=some false)
  (xe1_4:(X1 == X4)=false)
  (xb1_5:subIn K (.ref X1) (.ref X5)=some false)
  (xe1_5:(X1 == X5)=false) :
  ∃ fd:FuncData,(∀ (s:Shared) (v:Value),BindsTo s fd ⟨[v],[]⟩ [("_law_script",v)])/\∀ base:Heap,K.In base->base.Ns mainGlobals mg->FnOk l.prog w K mg base CX0 171 fa fd ["_law_script"] (ytP K):=by
 let t:Ads:=⟨fun k=>[C0,C1,C2,C3,C4,C5,C6,C7,C8,C9,C10].getD k C0,fun n=>[(f0,d0),(f1,d1),(f2,d2),(f3,d3),(f4,d4),(f5,d5),(f6,d6),(f7,d7),(f8,d8),(f9,d9),(f10,d10),(f11,d11),(f12,d12),(f13,d13),(f14,d14),(f15,d15),(f16,d16),(f17,d17),(f18,d18),(f19,d19),(f20,d20),(f21,d21),(f22,d22),(f23,d23),(f24,d24),(f25,d25),(f26,d26),(f27,d27),(f28,d28),(f29,d29),(f30,d30),(f31,d31),(f32,d32),(f33,d33),(f34,d34),(f35,d35),(f36,d36),(f37,d37),(f38,d38),(f39,d39),(f40,d40),(f41,d41),(f42,d42),(f43,d43),(f44,d44),(f45,d45),(f46,d46),(f47,d47),(f48,d48),(f49,d49),(f50,d50),(f51,d51),(f52,d52),(f53,d53),(f54,d54),(f55,d55),(f56,d56),(f57,d57),(f58,d58),(f59,d59),(f60,d60),(f61,d61),(f62,d62),(f63,d63),(f64,d64),(f65,d65),(f66,d66),(f67,d67),(f68,d68),(f69,d69),(f70,d70),(f71,d71),(f72,d72),(f73,d73),(f74,d74),(f75,d75),(f76,d76)].getD n (f0,d0),u1,u2,u3,u4,u5,u6,u7⟩
 have CL:∀ k,Cls K (t.A k):=fun k=>AllP.get cl.1 cl k
 have FF:∀ n,FB K (fR n) (t.fl n):=fun n=>All2.get hF.1 hF n
 have hC:AllP (fun p:Str×Addr=>Ns1 K p.1 p.2) (cT.zip [C0,C1,C2,C3,C4,C5,C6,C7,C8,C9,C10]):=hC
 have hG:AllP (fun r:Str×Nat=>Ns1 K r.1 (t.a r.2)) gT:=hG
 have hK:AllP (fun r:Nat×Nat=>Mk K (t.A r.1) (t.a r.2)) kT:=hK
 have hM:AllP (fun r:Nat×Str×Nat=>Meth K (t.A r.1) r.2.1 (t.a r.2.2)) mT:=hM
 have hN:AllP (fun r:Str×List Nat=>AllP (fun k=>NoAttr K (t.A k) r.1) r.2) nT:=hN
 have T:Txt K mg t:=⟨fun n=>(FF n).F,fun n=>(FF n).b,fun n=>mg_of X G (AllP.get (p:=fun r:Str×Nat=>Ns1 K r.1 (t.a r.2)) hG.1 hG n),fun n=>mg_of X G (zip_get hC rfl n),fun n=>AllP.get (p:=fun r:Nat×Nat=>Mk K (t.A r.1) (t.a r.2)) hK.1 hK n,fun n=>AllP.get (p:=fun r:Nat×Str×Nat=>Meth K (t.A r.1) r.2.1 (t.a r.2.2)) hM.1 hM n,mk0,io0,kp0,mk9,io9,kp9,CL,fun n k hk=>⟨CL k,(AllP.get (p:=fun r:Str×List Nat=>AllP (fun k=>NoAttr K (t.A k) r.1) r.2) hN.1 hN n).mem k hk⟩,yxE CL hn htk [1,2,3,4,5,6,7,8,9] ty sb,fun n=>PySem.W.mg_none_of X G (AllP.get (p:=fun b=>nsIn K mainGlobals b=some none) hZ.1 hZ n),mg_of X G q1,mg_of X G q2,mg_of X G q3,mg_of X G q4,mg_of X G q5,mg_of X G q6,mg_of X G q7,⟨_,_,_,qk7,rfl,rfl,(by show 5<=sizeLine;decide),.cons ⟨_,rfl⟩ (.cons ⟨_,rfl⟩ (.cons ⟨_,rfl⟩ (.cons ⟨_,rfl⟩ (.cons ⟨_,rfl⟩ (.nil)))))⟩,(by rw [ycW xn0];exact mg_of X G xn0),(by rw [ycW xn1];exact mg_of X G xn1),(by rw [ycW xn2];exact mg_of X G xn2),(by rw [ycW xn3];exact mg_of X G xn3),(by rw [ycW xn4];exact mg_of X G xn4),(by rw [ycW xn5];exact mg_of X G xn5),(by rw [ycW xn1];exact xk1.cls),(all_cons (by rw [ycW xn1,ycW xn0];exact ⟨xk1.cls,xk0.cls,xm1_0⟩) (fun k hk=>absurd hk (by simp))),(all_cons (by simp only [ycW xn1];exact ⟨xk1.kit hn htk,yna⟩) (all_cons (by simp only [ycW xn1,ycW xn2];exact ⟨xk1.kit hn htk,yge xe1_2 xk2.mo xk2.ty xb1_2⟩) (all_cons (by simp only [ycW xn1,ycW xn3];exact ⟨xk1.kit hn htk,yge xe1_3 xk3.mo xk3.ty xb1_3⟩) (all_cons (by simp only [ycW xn1,ycW xn4];exact ⟨xk1.kit hn htk,yge xe1_4 xk4.mo xk4.ty xb1_4⟩) (all_cons (by simp only [ycW xn1,ycW xn5];exact ⟨xk1.kit hn htk,yge xe1_5 xk5.mo xk5.ty xb1_5⟩) (fun k hk=>absurd hk (by simp))))))),(all_cons (by simp only [ycW xn1];exact ⟨xk1.kit hn htk,yAg (by rfl') xv1⟩) (fun k hk=>absurd hk (by simp)))⟩
 have e:=hfa.symm.trans (T.G 30)
 have e:fa=f76:=by injection e with e;injection e
 subst e
 refine ⟨d76,?_,fun base _ _=>(yBI T).imp (yBJ T)⟩
 obtain ⟨_,_,_,_,_,_,_,_,_,e,_⟩:=(FF 76).F.ex
 have e:d76=_:=e
 subst e
 exact fun s v=>.of_eq rfl
theorem walk {l:PySem.W.OpenLaw}{q:Program}{loose:List Str}{XP:(Str->Option Value)->Heap->Prop}{YP:World->Heap->Prop}{d:DefRec}{K:Params->PySem.W.Frag}(hn:l.most=some 63) (hdf:d.params.defaults=[])
  (hY:∀ (w:World) (h:Heap),YP w h->(K w.params).In h)
  (F:∀ (w:World) (mg:Str->Option Value) (fa:Addr) (h:Heap),(K w.params).In h->h.Ns mainGlobals mg->mg d.name=some (.ref fa) ->
   ∃ fd:FuncData,(∀ (s:Shared) (u:Value),BindsTo s fd ⟨[u],[]⟩ [("_law_script",u)])/\∀ base:Heap,(K w.params).In base->base.Ns mainGlobals mg->FnOk l.prog w (K w.params) mg base CX0 171 fa fd ["_law_script"] (ytP (K w.params))) :
  PySem.W.WalkO q loose XP YP l.row.toRowW d [] (fun f vs=>PySem.call f vs) :=
 L2.walk_of (n:=63) (k:=171) (x:="_law_script") (CX:=fun _=>CX0) (sp:=fun w=>ytP (K w.params)) hn (by decide) hdf ⟨rfl,by decide,by decide⟩ hY F (fun _ _ a ns hl _ hS=>⟨a,ns,rfl,hS,hl,fun _=>rfl⟩) fun _ _ _ _ _ z=>z
end My
local macro_rules | `(tactic| walk_at "ka")=>`(tactic| first|exact True.intro|k_is|decide|((first|refine And.intro ?_ ?_|refine' L2.Cls.mk ?_ ?_ ?_ ?_|refine' My.TyR.mk ?_ ?_ ?_|refine' My.NS2.mk ?_ ?_)<;>walk_at "ka"))
local macro_rules | `(tactic| walk_at "kr")=>`(tactic| first|exact True.intro|(refine And.intro ?_ ?_<;>walk_at "kr")|walk_at "kx")
local macro_rules | `(tactic| walk_at "kx")=>`(tactic| first|(refine' L2.Meth.mk ?a ?b ?c;(case a=>k_is);(case b=>k_is);(case c=>k_is))|(refine' L2.Mk.mk ?a ?b ?c ?d;(case a=>k_is);(case b=>k_is);(case c=>k_is);(case d=>k_is))|(unfold L2.NoAttr;k_is)|(unfold My.Ns1;k_is)|k_is|(dsimp only;k_is))
local macro_rules | `(tactic| walk_at "kf")=>`(tactic| first|exact True.intro|(refine' And.intro (My.FB.of (L2.fun_mk ?a ?b ?c) ?d) ?e;(case a=>k_is);(case b=>k_is);(case c=>k_is);(case d=>first|exact L2.Binds.all (My.ml1 fun _=>rfl)|exact L2.Binds.all (My.ml2 fun _ _=>rfl)|exact L2.Binds.all (My.ml3 fun _ _ _=>rfl)|exact L2.Binds.all (My.ml4 fun _ _ _ _=>rfl)|exact L2.Binds.all (My.ml5 fun _ _ _ _ _=>rfl));(case e=>walk_at "kf")))
local macro_rules | `(tactic| walk_at "k4")=>`(tactic| (refine' ⟨?a,?b,?c,?d⟩;(case a=>k_is);(case b=>k_is);(case c=>k_is);(case d=>k_is)))
namespace PySem.W.Fast
local macro_rules|`(command|universe $xs*)=>do return Lean.mkNullNode (<-(xs.flatMap fun x=>#[`PySem.Challenge.cw_retryhall_k06_deeds_refused_holds++x.getId,`PySem.Challenge++x.getId]).append ((Array.range 907).map fun i=>`PySem.Challenge.cw_retryhall_k06_deeds_refused_holds++.mkSimple ("o_"++toString i)) |>.mapM fun n=>`(command|theorem $(Lean.mkIdent (.mkSimple ("tw"++toString n.hash))) : True:=True.intro))
universe heap_39 heap_46 heap_907 tree_47 tree_70 tree_85 tree_100 tree_115 tree_130 tree_150 tree_180 tree_216 tree_252 tree_288 tree_324 tree_360 tree_396 tree_432 tree_468 tree_512 tree_547 tree_668 tree_753 tree_838 tree_906 view_39 sts_49 sts_71 sts_86 sts_101 sts_116 sts_131 sts_151 sts_181 sts_217 sts_253 sts_289 sts_325 sts_361 sts_397 sts_433 sts_469 sts_513 sts_548 sts_757 sts_839 env_41 pw_retryhall_k06_deeds_refused rw_retryhall_k06_deeds_refused
end PySem.W.Fast
open PySem PySem.W PyProof.Rows
set_option maxRecDepth 100000 in
set_option maxHeartbeats 0 in
theorem PySem.Challenge.cw_retryhall_k06_deeds_refused_holds : PySem.Challenge.rw_retryhall_k06_deeds_refused.Holds := by
 w_on;o_law;k_head;(case hw=>w_witness2)
 k_fill
 refine My.walk (l:=PySem.Challenge.rw_retryhall_k06_deeds_refused) rfl rfl (fun w h Y=>PySem.W.kIn_of Y) ?F
 case F =>
  intro w mg fa h KX G hmg
  refine' My.all_mk KX G hmg ?hC ?cl ?hK ?mk0 ?io0 ?kp0 ?mk9 ?io9 ?kp9 ?hM ?hG ?hF ?hN ?ty ?sb ?hn ?htk ?hZ ?q1 ?q2 ?q3 ?q4 ?q5 ?q6 ?q7 ?qk7 ?xn0 ?xn1 ?xn2 ?xn3 ?xn4 ?xn5 ?xk0 ?xk1 ?xk2 ?xk3 ?xk4 ?xk5 ?xm1_0 ?xv1 ?xb1_2 ?xe1_2 ?xb1_3 ?xe1_3 ?xb1_4 ?xe1_4 ?xb1_5 ?xe1_5
  (case hC=>walk_at "kr")
  (case cl=>walk_at "ka")
  (case hK=>walk_at "kr")
  (case mk0=>k_is)
  (case io0=>k_is)
  (case kp0=>k_is)
  (case mk9=>k_is)
  (case io9=>k_is)
  (case kp9=>k_is)
  (case hM=>walk_at "kr")
  (case hG=>walk_at "kr")
  (case hF=>walk_at "kf")
  (case hN=>walk_at "kr")
  (case ty=>walk_at "ka")
  (case sb=>walk_at "ka")
  (case hn=>k_is)
  (case htk=>k_is)
  (case hZ=>walk_at "kr")
  (case q1=>k_is)
  (case q2=>k_is)
  (case q3=>k_is)
  (case q4=>k_is)
  (case q5=>k_is)
  (case q6=>k_is)
  (case q7=>k_is)
  (case qk7=>k_is)
  (case xn0=>k_is)
  (case xn1=>k_is)
  (case xn2=>k_is)
  (case xn3=>k_is)
  (case xn4=>k_is)
  (case xn5=>k_is)
  (case xk0=>(refine' L2.XKit.mk ?a ?b ?c ?d ?e ?f ?g;(case a=>k_exc);(case b=>k_is);(case c=>k_is);(case d=>k_is);(case e=>k_is);(case f=>k_is);(case g=>k_is)))
  (case xk1=>(refine' L2.XKit.mk ?a ?b ?c ?d ?e ?f ?g;(case a=>k_exc);(case b=>k_is);(case c=>k_is);(case d=>k_is);(case e=>k_is);(case f=>k_is);(case g=>k_is)))
  (case xk2=>(refine' L2.XKit.mk ?a ?b ?c ?d ?e ?f ?g;(case a=>k_exc);(case b=>k_is);(case c=>k_is);(case d=>k_is);(case e=>k_is);(case f=>k_is);(case g=>k_is)))
  (case xk3=>(refine' L2.XKit.mk ?a ?b ?c ?d ?e ?f ?g;(case a=>k_exc);(case b=>k_is);(case c=>k_is);(case d=>k_is);(case e=>k_is);(case f=>k_is);(case g=>k_is)))
  (case xk4=>(refine' L2.XKit.mk ?a ?b ?c ?d ?e ?f ?g;(case a=>k_exc);(case b=>k_is);(case c=>k_is);(case d=>k_is);(case e=>k_is);(case f=>k_is);(case g=>k_is)))
  (case xk5=>(refine' L2.XKit.mk ?a ?b ?c ?d ?e ?f ?g;(case a=>k_exc);(case b=>k_is);(case c=>k_is);(case d=>k_is);(case e=>k_is);(case f=>k_is);(case g=>k_is)))
  (case xm1_0=>k_is)
  (case xv1=>k_is)
  (case xb1_2=>k_is)
  (case xe1_2=>decide)
  (case xb1_3=>k_is)
  (case xe1_3=>decide)
  (case xb1_4=>k_is)
  (case xe1_4=>decide)
  (case xb1_5=>k_is)
  (case xe1_5=>decide)
