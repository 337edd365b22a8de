import PyProof.Rows.All
import Wide.All
import OpenK.AllK
import Wide.FinOn
import Lean
import PyProof.EqAt
import PyProof.EqKinds
import PyProof.TupleCall
import PySem.Challenge.RW_retryhall_k20_whole_alone_by_rows
set_option Elab.async false
set_option linter.all false
set_option maxRecDepth 100000
set_option maxHeartbeats 4000000
open PySem.W (fnOf findIn keepIn subIn codeIn nsIn isFn mg_of plainGet hasDictIn makesIn instObj typeIn emptyDict mroIn mg_none_of kia_one)
local macro_rules | `(tactic| rfl')=>`(tactic| decide +kernel)
open List (mem_cons_self mem_cons_of_mem mem_append_left getElem?_set_self getElem?_set_ne mem_append_right length_cons map_cons length_map append_nil of_mem_zip replicate length length_take getElem?_append_right getElem?_replicate getElem?_append_left getElem?_map mem_of_getElem? length_append map_nil length_drop size_toArray length_set any_cons getElem_of_mem idxOf map_append take_length lookup_cons prefix_refl getElem?_eq_none idxOf_cons length_zip find?_cons length_nil zip_cons_cons getD map_fst_zip map_map toArray getElem_mem mem_cons not_mem_nil getD_eq_getElem?_getD map_set append_assoc take_add_one)
open Nat (lt_of_lt_of_le lt_irrefl ne_of_lt le_of_lt le_of_eq zero_le sub_self le_add_right add_assoc)
open Option (map_some isSome_map bind_some)
open Bool (and_eq_true)
open Int (zero_add)
open PySem.F (slot_dict_get plainAttrs_dict plainAttrs_list slot_list_pop type_list_pop)
noncomputable section
namespace L2
open PySem PySem.Spec PyProof.Rows
abbrev Key:=Sum Int Str
def yvQ:Key->Value->Bool
 | .inl k,v=>Value.isInt k v
 | .inr x,v=>Value.isStrOf x v
def yOv (w:World):Key->Int
 | .inl k=>hashInt k
 | .inr x=>hashStr w x
theorem yby:∀ {k:Key}{v:Value},yvQ k v=true->(∃ i t,k=Sum.inl i/\v=Value.int i t)\/(∃ x t,k=Sum.inr x/\v=Value.str x t)
 | .inl i,v,h=>by
  obtain ⟨t,e⟩:=Value.isInt_shape (k:=i) (v:=v) h
  exact .inl ⟨i,t,rfl,e⟩
 | .inr x,v,h=>by
  obtain ⟨t,e⟩:=Value.isStrOf_shape (x:=x) (v:=v) h
  exact .inr ⟨x,t,rfl,e⟩
theorem yAb (i:Int) (t:Tok):yvQ (.inl i) (.int i t)=true:=by simp [yvQ,Value.isInt]
theorem yAc (x:Str) (t:Tok):yvQ (.inr x) (.str x t)=true:=by simp [yvQ,Value.isStrOf]
theorem yJw (a b:Int):decide ((Sum.inl a:Key)=Sum.inl b)=(a == b):=by
 by_cases e:a=b
 .subst e;simp
 .have h:¬ (Sum.inl a:Key)=Sum.inl b:=fun q=>e (Sum.inl.inj q)
  rw [decide_eq_false h]
  exact (beq_eq_false_iff_ne.mpr e).symm
theorem yJx (a b:Str):decide ((Sum.inr a:Key)=Sum.inr b)=decide (a=b):=by
 by_cases e:a=b
 .subst e;simp
 .have h:¬ (Sum.inr a:Key)=Sum.inr b:=fun q=>e (Sum.inr.inj q)
  rw [decide_eq_false h,decide_eq_false e]
theorem yJy (a:Int) (b:Str):decide ((Sum.inl a:Key)=Sum.inr b)=false:=decide_eq_false (fun q=>nomatch q)
theorem yJz (a:Str) (b:Int):decide ((Sum.inr a:Key)=Sum.inl b)=false:=decide_eq_false (fun q=>nomatch q)
noncomputable def yco (prog:Program) (w:World):PySem.KeyKind prog w Key where
 is:=yvQ
 hash:=yOv w
 inj:=fun v a b ha hb=>by
  rcases yby ha with ⟨i,t,rfl,rfl⟩|⟨x,t,rfl,rfl⟩
  .rcases yby hb with ⟨j,u,rfl,e⟩|⟨y,u,rfl,e⟩
   .injection e with e1 _;rw [e1]
   .exact nomatch e
  .rcases yby hb with ⟨j,u,rfl,e⟩|⟨y,u,rfl,e⟩
   .exact nomatch e
   .injection e with e1 _;rw [e1]
 byValue:=fun k v h=>by
  rcases yby h with ⟨i,t,rfl,rfl⟩|⟨x,t,rfl,rfl⟩<;>rfl
 pyHash:=fun hv h=>by
  rcases yby hv with ⟨i,t,rfl,rfl⟩|⟨x,t,rfl,rfl⟩
  .exact wpAny_pyHash_int h
  .exact wpAny_pyHash_str h
 eqBool:=fun hu hv h=>by
  rcases yby hu with ⟨i,t,rfl,rfl⟩|⟨x,t,rfl,rfl⟩
  .rcases yby hv with ⟨j,u,rfl,rfl⟩|⟨y,u,rfl,rfl⟩
   .rw [yJw] at h;exact wpAny_eqBool_int h
   .rw [yJy] at h;exact SeqAt.EqAt.int_str i t y u _ _ _ _ h
  .rcases yby hv with ⟨j,u,rfl,rfl⟩|⟨y,u,rfl,rfl⟩
   .rw [yJz] at h;exact SeqAt.EqAt.str_int x t j u _ _ _ _ h
   .rw [yJx] at h;exact wpAny_eqBool_str h
 «strs»:=fun k x t v h=>by
  rcases yby h with ⟨i,u,rfl,e⟩|⟨y,u,rfl,e⟩
  .exact nomatch e
  .injection e with e1 _
   subst e1
   cases v<;>rfl
theorem yvR (prog:Program) (w:World) (i:Int) (t:Tok):(yco prog w).is (.inl i) (.int i t)=true:=yAb i t
theorem yvS (prog:Program) (w:World) (x:Str) (t:Tok):(yco prog w).is (.inr x) (.str x t)=true:=yAc x t
end L2
namespace L2
open PySem PySem.Spec PyProof.Rows
inductive V where
 | non|bl (b:Bool)|int (i:Int)|str (x:Str)|byt (b:Array UInt8)|flt (b:UInt64)|ref (a:Addr)|ty (n:String)
 deriving DecidableEq
noncomputable def RelV:V->Value->Prop
 | .non,u=>u=Value.none
 | .bl b,u=>u=Value.bool b
 | .int i,u=>∃ t,u=Value.int i t
 | .str x,u=>∃ t,u=Value.str x t
 | .byt b,u=>∃ t,u=Value.bytes b t
 | .flt b,u=>∃ t,u=Value.float b t
 | .ref a,u=>u=Value.ref a
 | .ty n,u=>u=Value.type n
abbrev Vals:List V->List Value->Prop:=Paired RelV
theorem Vals.length {xs:List V}{us:List Value}(r:Vals xs us):xs.length=us.length:=Paired.length r
theorem Vals.get:∀ {xs:List V}{us:List Value}{i:Nat}{x:V},Vals xs us->xs[i]?=some x->∃ u,us[i]?=some u/\RelV x u
 | _,_,_,_,.nil,e=>by simp at e
 | _,_,0,_,.cons r _,e=>by simp at e;subst e;exact ⟨_,rfl,r⟩
 | _,_,i+1,x,.cons _ t,e=>by
  obtain ⟨u,h1,h2⟩:=Vals.get (i:=i) (x:=x) t (by simpa using e)
  exact ⟨u,by simpa using h1,h2⟩
theorem Vals.set {x:V}{u:Value}(r:RelV x u):∀ {xs:List V}{us:List Value}(i:Nat),Vals xs us->Vals (xs.set i x) (us.set i u)
 | _,_,_,.nil=>.nil
 | _,_,0,.cons _ t=>.cons r t
 | _,_,i+1,.cons q t=>.cons q (Vals.set r i t)
theorem Vals.append:∀ {xs ys:List V}{us ws:List Value},Vals xs us->Vals ys ws->Vals (xs++ys) (us++ws)
 | _,_,_,_,.nil,s=>s
 | _,_,_,_,.cons r t,s=>.cons r (Vals.append t s)
theorem Vals.take:∀ {xs:List V}{us:List Value}(n:Nat),Vals xs us->Vals (xs.take n) (us.take n)
 | _,_,0,_=>.nil
 | _,_,_+1,.nil=>.nil
 | _,_,n+1,.cons r t=>.cons r (Vals.take n t)
theorem Vals.drop:∀ {xs:List V}{us:List Value}(n:Nat),Vals xs us->Vals (xs.drop n) (us.drop n)
 | _,_,0,r=>r
 | _,_,_+1,.nil=>.nil
 | _,_,n+1,.cons _ t=>Vals.drop n t
def RelO:Option V->Option Value->Prop
 | some v,some u=>RelV v u
 | none,none=>True
 | _,_=>False
def KV {κ:Type}:List (κ×V)->List (κ×Value)->Prop:=Paired fun (p:κ×V) (q:κ×Value)=>p.1=q.1/\RelV p.2 q.2
def kV:Key->V
 | .inl i=>.int i
 | .inr x=>.str x
inductive HO where
 | lst (xs:List V)
 | tup (xs:List V)
 | dK (kvs:List (Key×V))|dT (kvs:List (List Key×V))
 | set (S:Int->Bool) (n:Nat)
 | ins (C dx:Addr) (fs:List (Str×V))
 | own (x:Addr)
 | xd (fs:List (Str×V))
 | met (f x:Addr)
 | rng (lo hi:Int)
 | frz (o:Obj) (u:HO)
 | tbl (ps:Array Value)
 | ext (φ:Heap->Prop)
abbrev Hp:=Addr->Option HO
def upd (H:Hp) (a:Addr) (o:HO):Hp:=fun b=>if b=a then some o else H b
theorem yP {H:Hp}{a:Addr}{o:HO}:upd H a o a=some o:=by unfold upd;rw [if_pos rfl]
theorem yX {H:Hp}{a b:Addr}{o:HO}(h:b≠a):upd H a o b=H b:=by unfold upd;rw [if_neg h]
theorem yLY {H:Hp}{a b:Addr}{o u:HO}(h:H a=some o) (h':H b=some u) (d:o≠u):a≠b:=by
 intro e;subst e;rw [h] at h';exact d (Option.some.inj h')
theorem ybN {H:Hp}{a b:Addr}{o:HO}(h:H a=some o) (h':H b=none):a≠b:=by
 intro e;subst e;rw [h] at h';cases h'
section
variable (P:Program) (w:World)
def ObjOk (H:Hp) (h:Heap) (a:Addr):HO->Prop
 | .lst xs=>xs.length<=sizeLine/\∃ (its:List Value) (n:Nat),Vals xs its/\h.get? a=some { cls:=.type "list",data:=.seq its.toArray n }
 | .tup xs=>xs.length<=sizeLine/\∃ its:List Value,Vals xs its/\IsTup h a its.toArray
 | .dK kvs=>kvs.length<=sizeLine/\(a == sysModules)=false/\∃ vs,KV kvs vs/\h.DictOf (yco P w) a vs
 | .dT kvs=>kvs.length<=sizeLine/\(a == sysModules)=false/\∃ xs:List (List Key×Addr×Value),
   Paired (fun (p:List Key×V) (q:List Key×Addr×Value)=>p.1=q.1/\H q.2.1=some (.tup (p.1.map kV))/\RelV p.2 q.2.2) kvs xs /\
   ∃ o es ep,h.get? a=some o/\o.ExactDict/\o.data=.dict es ep/\es.toList=xs.map (entryOfKey (tupleKind (yco P w)))/\(xs.map (·.1)).Nodup
 | .set S n=>h.SetOf (intKind P w) a S n
 | .ins C dx fs=>H dx=some (.own a)/\fs.length<=1000/\dx≠a/\h.get? a=some (instObj C dx) /\
   ∃ mA,h.Ns1 dx mA/\(∀ f,RelO (fs.lookup f) (mA f))/\PySem.Within mA (fs.map (·.1))
 | .own _=>∃ o,h.get? a=some o
 | .xd fs=>∃ mA,h.Ns1 a mA/\∀ f,RelO (fs.lookup f) (mA f)
 | .rng lo hi=>∃ t u v,h.get? a=some { cls:=.type "range",data:=.fields #[.int lo t,.int hi u,.int 1 v] }
 | .frz o u=>h.get? a=some o/\ObjOk H h a u
 | .tbl ps=>h.get? a=some { cls:=.none,data:=.fields ps }
 | .met f x=>h.get? a=some (PySem.W.methodObj (.ref f) (.ref x))
 | .ext φ=>φ h/\(∃ o,h.get? a=some o)/\∀ h1 h2:Heap,φ h1->(∀ o,h1.get? a=some o->h2.get? a=some o)->φ h2
def HOk (H:Hp) (h:Heap):Prop:=∀ a o,H a=some o->ObjOk P w H h a o
end
section
variable {P:Program}{w:World}{H H':Hp}{h h':Heap}{a:Addr}{o:HO}
theorem ObjOk.lt (x:ObjOk P w H h a o):a<h.objs.size:=by
 cases o with
 | lst xs=>obtain ⟨_,_,_,_,e⟩:=x;exact Heap.lt_size e
 | tup xs=>obtain ⟨_,_,_,p⟩:=x;exact p.lt
 | dK kvs=>obtain ⟨_,_,_,_,o,_,_,e,_⟩:=x;exact Heap.lt_size e
 | dT kvs=>obtain ⟨_,_,_,_,o,_,_,e,_⟩:=x;exact Heap.lt_size e
 | set S n=>obtain ⟨o,_,_,_,e,_⟩:=x;exact Heap.lt_size e
 | ins C dx fs=>obtain ⟨_,_,_,e,_⟩:=x;exact Heap.lt_size e
 | own y=>obtain ⟨_,e⟩:=x;exact Heap.lt_size e
 | xd fs=>obtain ⟨_,⟨_,_,_,e,_⟩,_⟩:=x;exact Heap.lt_size e
 | rng lo hi=>obtain ⟨_,_,_,e⟩:=x;exact Heap.lt_size e
 | frz ob u=>obtain ⟨e,_⟩:=x;exact Heap.lt_size e
 | tbl ps=>exact Heap.lt_size (show h.get? a=some _ from x)
 | met f y=>exact Heap.lt_size (show h.get? a=some _ from x)
 | ext φ=>obtain ⟨_,⟨_,e⟩,_⟩:=x;exact Heap.lt_size e
theorem Paired.mapP {α β:Type}{F G:α->β->Prop}:∀ {l₁:List α}{l₂:List β},Paired F l₁ l₂->(∀ a b,F a b->G a b)->Paired G l₁ l₂
 | _,_,.nil,_=>.nil
 | _,_,.cons r t,f=>.cons (f _ _ r) (Paired.mapP t f)
theorem ObjOk.stay (x:ObjOk P w H h a o) (k:∀ b u,(b=a\/H b=some (.own a))->h.get? b=some u->h'.get? b=some u)
  (ho:∀ b,H b=some (.own a)->H' b=some (.own a)) (ht:∀ b xs,H b=some (.tup xs)->H' b=some (.tup xs)):ObjOk P w H' h' a o:=by
 induction o with
 | lst xs=>obtain ⟨z,its,n,r,e⟩:=x;exact ⟨z,its,n,r,k _ _ (.inl rfl) e⟩
 | tup xs=>obtain ⟨z,its,r,ob,e,c⟩:=x;exact ⟨z,its,r,ob,k _ _ (.inl rfl) e,c⟩
 | dK kvs=>obtain ⟨z,y,vs,r,ob,es,ep,e,c⟩:=x;exact ⟨z,y,vs,r,ob,es,ep,k _ _ (.inl rfl) e,c⟩
 | dT kvs =>
  obtain ⟨z,y,xs,r,ob,es,ep,e,c⟩:=x
  exact ⟨z,y,xs,Paired.mapP r fun p q z=>⟨z.1,ht _ _ z.2.1,z.2.2⟩,ob,es,ep,k _ _ (.inl rfl) e,c⟩
 | set S n=>obtain ⟨ob,es,ep,t,e,c⟩:=x;exact ⟨ob,es,ep,t,k _ _ (.inl rfl) e,c⟩
 | ins C dx fs =>
  obtain ⟨d,z,ne,e,mA,⟨od,es,ep,e2,c⟩,r⟩:=x
  exact ⟨ho _ d,z,ne,k _ _ (.inl rfl) e,mA,⟨od,es,ep,k _ _ (.inr d) e2,c⟩,r⟩
 | own y=>obtain ⟨ob,e⟩:=x;exact ⟨ob,k _ _ (.inl rfl) e⟩
 | xd fs=>obtain ⟨mA,⟨od,es,ep,e,c⟩,r⟩:=x;exact ⟨mA,⟨od,es,ep,k _ _ (.inl rfl) e,c⟩,r⟩
 | rng lo hi=>obtain ⟨t,u,v,e⟩:=x;exact ⟨t,u,v,k _ _ (.inl rfl) e⟩
 | frz ob u ih=>obtain ⟨e,q⟩:=x;exact ⟨k _ _ (.inl rfl) e,ih q⟩
 | tbl ps =>
  have e:h.get? a=some { cls:=.none,data:=.fields ps }:=x
  show h'.get? a=some { cls:=.none,data:=.fields ps }
  exact k a _ (.inl rfl) e
 | met f y =>
  have e:h.get? a=some (PySem.W.methodObj (.ref f) (.ref y)):=x
  show h'.get? a=some (PySem.W.methodObj (.ref f) (.ref y))
  exact k a _ (.inl rfl) e
 | ext φ=>obtain ⟨p,⟨o,e⟩,st⟩:=x;exact ⟨st _ _ p fun o q=>k _ _ (.inl rfl) q,⟨o,k _ _ (.inl rfl) e⟩,st⟩
theorem HOk.lt (x:HOk P w H h) (e:H a=some o):a<h.objs.size:=(x a o e).lt
theorem HOk.fresh (x:HOk P w H h) (e:h.objs.size<=a):H a=none:=by
 cases q:H a with
 | none=>rfl
 | some u=>exact absurd (lt_of_lt_of_le (x.lt q) e) (lt_irrefl _)
theorem HOk.kept (x:HOk P w H h) (k:∀ b u,h.get? b=some u->h'.get? b=some u):HOk P w H h':=fun a o e =>
 (x a o e).stay (fun b u _ q=>k b u q) (fun _ q=>q) fun _ _ q=>q
theorem HOk.laid (x:HOk P w H h) (k:∀ b u,h.get? b=some u->h'.get? b=some u) (hp:h.objs.size<=a) (new:ObjOk P w (upd H a o) h' a o):HOk P w (upd H a o) h':=fun b u e=>by
 have hn:=x.fresh hp
 by_cases hb:b=a
 .subst hb;rw [yP] at e;cases e;exact new
 .rw [yX hb] at e
  exact (x b u e).stay (fun c v _ q=>k c v q) (fun c q=>by rw [yX (ybN q hn)];exact q) fun c xs q=>by rw [yX (ybN q hn)];exact q
end
def Rd (H:Hp) (a:Addr) (u:HO):Prop:=H a=some u\/∃ o,H a=some (.frz o u)
theorem Rd.ok {P:Program}{w:World}{H:Hp}{h:Heap}{a:Addr}{u:HO}(r:Rd H a u) (x:HOk P w H h):ObjOk P w H h a u:=by
 rcases r with r|⟨o,r⟩
 .exact x a u r
 .obtain ⟨_,q⟩:=x a _ r
  exact q
noncomputable def Mut:Option HO->Prop
 | some (.lst _)=>True
 | some (.dK _)=>True
 | some (.dT _)=>True
 | some (.set _ _)=>True
 | some (.ins _ _ _)=>True
 | some (.ext _)=>True
 | _=>False
section
variable {P:Program}{w:World}{H:Hp}{h h':Heap}{x e:Addr}{o':HO}
theorem HOk.write (ok:HOk P w H h) (mu:Mut (H x)) (he:e=x\/H e=some (.own x)) (k:∀ b u,b≠e->h.get? b=some u->h'.get? b=some u) (heo:∃ u,h'.get? e=some u)
  (new:ObjOk P w (upd H x o') h' x o'):HOk P w (upd H x o') h':=fun b u q=>by
 have nown:∀ c y,H c=some (.own y)->c≠x:=fun c y r z=>by subst z;rw [r] at mu;exact mu
 have ntup:∀ c xs,H c=some (.tup xs)->c≠x:=fun c xs r z=>by subst z;rw [r] at mu;exact mu
 by_cases hb:b=x
 .subst hb;rw [yP] at q;cases q;exact new
 .rw [yX hb] at q
  by_cases hbe:b=e
  .have q':H b=some (.own x):=by
    rcases he with z|z
    .exact absurd (hbe.trans z) hb
    .rw [hbe];exact z
   rw [q] at q';cases q'
   obtain ⟨v,hv⟩:=heo
   exact ⟨v,by rw [hbe];exact hv⟩
  .refine (ok b u q).stay (fun c v hc r=>k c v ?_ r) (fun c r=>by rw [yX (nown c b r)];exact r) fun c xs r=>by rw [yX (ntup c xs r)];exact r
   rcases hc with rfl|hc
   .exact hbe
   .rintro rfl
    rcases he with z|z
    .exact nown c b hc z
    .rw [hc] at z;cases z;exact hb rfl
end
structure Un (fs ex:List Addr) (H H':Hp) (h h':Heap):Prop where
 keep:∀ b o,h.get? b=some o->H b=none->b∉fs->b∉ex->h'.get? b=some o
 slot:∀ b o,h.get? b=some o->H b=none->b∈fs->b∉ex->∃ sl,h'.get? b=some { o with slots:=sl }
 free:∀ b o,h.get? b=some o->H b=none->b∉ex->H' b=none
 there:∀ b o,h.get? b=some o->b∉ex->∃ o',h'.get? b=some o'
 tups:∀ b xs,H b=some (.tup xs)->H' b=some (.tup xs)
 frzs:∀ b o u,H b=some (.frz o u)->H' b=some (.frz o u)
 tbls:∀ b ps,H b=some (.tbl ps)->∃ more,H' b=some (.tbl (ps++more))
section
variable {fs fs' ex ex':List Addr}{H H1 H2:Hp}{h h1 h2 h':Heap}{a x e:Addr}{o:HO}
theorem Un.any (u:Un fs ex H H1 h h1) {b:Addr}{ob:Obj}(q:h.get? b=some ob) (n:H b=none) (hx:b∉ex):∃ sl,h1.get? b=some { ob with slots:=sl }:=by
 by_cases hb:b∈fs
 .exact u.slot b ob q n hb hx
 .exact ⟨ob.slots,u.keep b ob q n hb hx⟩
theorem Un.kept (k:∀ b u,h.get? b=some u->h'.get? b=some u):Un fs ex H H h h' :=
 ⟨fun b ob q _ _ _=>k b ob q,fun b ob q _ _ _=>⟨ob.slots,k b ob q⟩,fun _ _ _ n _=>n,fun b ob q _=>⟨ob,k b ob q⟩,fun _ _ q=>q,fun _ _ _ q=>q,fun _ ps q=>⟨#[],by rw [q];simp⟩⟩
theorem Un.refl:Un fs ex H H h h:=Un.kept fun _ _ q=>q
theorem Un.laid (k:∀ b u,h.get? b=some u->h'.get? b=some u) (hp:h.objs.size<=a) (hn:H a=none):Un fs ex H (upd H a o) h h' where
 keep:=fun b u q _ _ _=>k b u q
 slot:=fun b u q _ _ _=>⟨u.slots,k b u q⟩
 free:=fun b u q n _=>by rw [yX (ne_of_lt (lt_of_lt_of_le (Heap.lt_size q) hp))];exact n
 there:=fun b u q _=>⟨u,k b u q⟩
 tups:=fun b xs q=>by rw [yX (ybN q hn)];exact q
 frzs:=fun b u xs q=>by rw [yX (ybN q hn)];exact q
 tbls:=fun b ps q=>⟨#[],by rw [yX (ybN q hn),q];simp⟩
theorem Un.write (mu:Mut (H x)) (he:e=x\/H e=some (.own x)) (k:∀ b u,b≠e->h.get? b=some u->h'.get? b=some u) (heo:∃ u,h'.get? e=some u):Un fs ex H (upd H x o) h h':=by
 have hx:∀ b,H b=none->b≠x:=fun b n z=>by subst z;rw [n] at mu;exact mu
 have hb:∀ b,H b=none->b≠e:=fun b n z=>by
  subst z
  rcases he with r|r
  .exact hx b n r
  .rw [n] at r;cases r
 have hm:∀ b u,H b=some u->¬ Mut (some u)->b≠x:=fun b u q nm z=>by subst z;rw [q] at mu;exact nm mu
 refine ⟨fun b u q n _ _=>k b u (hb b n) q,fun b u q n _ _=>⟨u.slots,k b u (hb b n) q⟩,fun b u q n _=>by rw [yX (hx b n)];exact n,fun b u q _=>?_,
  fun b xs q=>by rw [yX (hm b _ q fun z=>z)];exact q,fun b u xs q=>by rw [yX (hm b _ q fun z=>z)];exact q,fun b ps q=>⟨#[],by rw [yX (hm b _ q fun z=>z),q];simp⟩⟩
 by_cases hbe:b=e
 .subst hbe;exact heo
 .exact ⟨u,k b u hbe q⟩
end
def trk (h:Heap) (H:Hp):List Addr:=(List.range h.objs.size).filter fun a=>(H a).isSome
def yDx (h:Heap) (H:Hp):Heap:=PySem.W.hideAll h (trk h H)
theorem yAd (h:Heap) (H:Hp):(yDx h H).objs.size=h.objs.size:=PySem.W.hideAll_size _ _
theorem yDy {h:Heap}{H:Hp}{b:Addr}{o:Obj}(e:h.get? b=some o) (n:H b=none):(yDx h H).get? b=some o :=
 PySem.W.hideAll_get _ e fun hm=>by
  have q:(H b).isSome=true:=(List.mem_filter.mp hm).2
  rw [n] at q;simp at q
theorem yGT {h:Heap}{H:Hp}{b:Addr}{o:Obj}(e:(yDx h H).get? b=some o):h.get? b=some o/\H b=none:=by
 have e':h.get? b=some o:=PySem.W.of_hideAll (trk h H) e
 refine ⟨e',?_⟩
 cases q:H b with
 | none=>rfl
 | some x =>
  have hm:b∈trk h H:=List.mem_filter.mpr ⟨List.mem_range.mpr (Heap.lt_size e'),by simp [q]⟩
  have z:(yDx h H).get? b=none:=PySem.W.hideAll_none (trk h H) hm
  rw [z] at e;cases e
noncomputable def yGU (g h:Heap) (L:Addr):List (Addr×Obj):=(List.range h.objs.size).filterMap fun a=>if a=L\/(g.get? a).isSome=true then none else (h.get? a).map fun o=>(a,o)
def rest (g h:Heap) (L d:Addr):List (Addr×Obj):=(yGU g h L).filter fun p=>decide (p.1≠d)
end L2
namespace L2
open PySem PySem.Spec PyProof.Rows
structure Mod (K:PySem.W.Frag) (mg:Str->Option Value) (base:Heap):Prop where
 kin:K.In base
 glob:base.Ns mainGlobals mg
 blt:∃ mb,base.Ns builtinsNs mb/\∀ x:Str,x≠"__name__"->mb x=bootBuiltins x
 nolimit:base.NoLimit
structure Cx where
 prog:Program
 w:World
 K:PySem.W.Frag
 mg:Str->Option Value
 base:Heap
 A:Around
 N:List Str
 s₀:Shared
 H₀:Hp
 env:Env
 outer:List Env
 stack:List Env
 ex:List Addr
 fn:Str->Bool
 calm:Bool
 pn:List (Addr×Obj)
 xe:Value->Shared->Prop
def frs (l:List Env):List Addr:=l.filterMap (·.frame)
abbrev Cx.fs (X:Cx):List Addr:=frs X.outer
noncomputable def Vis (sc:Scope) (x:Str):Prop:=sc.names.lookup x=some .local \/ sc.names.lookup x=some .cell\/sc.names.lookup x=some .free
def Loc (sc:Scope) (x:Str):Prop:=sc.names.lookup x=some .local \/ sc.names.lookup x=some .cell
noncomputable def Look (env:Env) (h:Heap) (m:Str->Option Value) (x:Str) (u:Value):Prop :=
 (env.kindOf x=some .local/\m x=some u)\/((env.kindOf x=some .cell\/env.kindOf x=some .free)/\∃ c,env.cells.lookup x=some c/\h.IsCell c (some u))
structure Cx.Ok (X:Cx):Prop where
 mod:Mod X.K X.mg X.base
 kind:X.env.scope.kind=.function
 glob:X.env.globals=mainGlobals
 blt:X.env.builtins=builtinsNs
 above:X.s₀.heap.objs.size<=X.env.locals
 inj:∀ x y c,X.env.cells.lookup x=some c->X.env.cells.lookup y=some c->x=y
 has:∀ x,(X.env.kindOf x=some .cell\/X.env.kindOf x=some .free)->∃ c,X.env.cells.lookup x=some c
 cab:∀ x c,X.fn x=true->X.env.cells.lookup x=some c->X.s₀.heap.objs.size<=c
 hd:X.calm=true->X.A.handled=none
 frames:X.A.frames=some X.stack
 stk:X.stack=X.outer\/(X.stack=X.env::X.outer/\X.env.frame=some X.env.locals)
 exf:∀ b∈X.ex,b≠X.env.locals/\∀ x c,X.env.cells.lookup x=some c->c≠b
 bs:∀ b o,X.base.get? b=some o->X.s₀.heap.get? b=some o/\X.H₀ b=none
 bsz:X.base.objs.size<=X.s₀.heap.objs.size
 noex:∀ b o,X.base.get? b=some o->b∉X.ex
 exfs:∀ b∈X.ex,b∉X.fs
 funs:X.s₀.heap.FunFrames X.base X.outer
 frf:∀ b∈X.fs,X.H₀ b=none
structure Inv (X:Cx) (pins:List (Addr×Obj)) (σ:List (Option V)) (H:Hp) (s:Shared):Prop where
 ok:X.Ok
 os:s.os=X.s₀.os
 bare:AllBare s.gens
 base:Un X.fs X.ex X.H₀ H X.s₀.heap s.heap
 loc:∃ m,s.heap.Ns X.env.locals m/\∀ (i:Nat) (x:Str) (v:V),X.N[i]?=some x->σ[i]?=some (some v)->Vis X.env.scope x->∃ u,RelV v u/\Look X.env s.heap m x u
 cell:∀ x c,X.env.cells.lookup x=some c->∃ v,s.heap.IsCell c v
 free:H X.env.locals=none
 freeC:∀ x c,X.env.cells.lookup x=some c->H c=none
 pin:∀ p∈X.pn++pins,s.heap.get? p.1=some p.2/\H p.1=none/\p.1≠X.env.locals/\p.1∉X.fs/\∀ v,p.2.data≠.cell v
 hok:HOk X.prog X.w H s.heap
 len:σ.length=X.N.length
section
variable {X:Cx}{pins:List (Addr×Obj)}{σ:List (Option V)}{H H':Hp}{s:Shared}{h':Heap}
theorem Cx.Ok.nofr (ok:X.Ok) {b:Addr}{o:Obj}(e:X.base.get? b=some o):b∉X.fs:=fun hb=>by
 have:=(ok.funs.mem hb).1
 rw [e] at this;cases this
theorem Inv.bs (I:Inv X pins σ H s):∀ b o,X.base.get? b=some o->s.heap.get? b=some o/\H b=none:=fun b o e =>
 ⟨I.base.keep b o (I.ok.bs b o e).1 (I.ok.bs b o e).2 (I.ok.nofr e) (I.ok.noex b o e),I.base.free b o (I.ok.bs b o e).1 (I.ok.bs b o e).2 (I.ok.noex b o e)⟩
theorem Inv.bk (I:Inv X pins σ H s):∀ b o,X.base.get? b=some o->s.heap.get? b=some o:=fun b o e=>(I.bs b o e).1
theorem Inv.mod (I:Inv X pins σ H s):Mod X.K X.mg X.base:=I.ok.mod
theorem Inv.kIn (I:Inv X pins σ H s):X.K.In s.heap:=I.ok.mod.kin.keeps I.bk
theorem Inv.lt (I:Inv X pins σ H s):X.env.locals<s.heap.objs.size:=let ⟨_,hn,_⟩:=I.loc;hn.lt
theorem Inv.sz (I:Inv X pins σ H s):X.s₀.heap.objs.size<=s.heap.objs.size:=Nat.le_trans I.ok.above (le_of_lt I.lt)
theorem Inv.nofs (I:Inv X pins σ H s) {a:Addr}(h:s.heap.objs.size<=a):a∉X.fs:=fun hb=>by
 obtain ⟨_,o,ho,_⟩:=I.ok.funs.mem hb
 exact absurd (lt_of_lt_of_le (Heap.lt_size ho) (Nat.le_trans I.sz h)) (lt_irrefl _)
theorem Inv.cne (I:Inv X pins σ H s):∀ x c,X.env.cells.lookup x=some c->c≠X.env.locals:=fun x c e z=>by
 obtain ⟨v,o,ho,hd⟩:=I.cell x c e
 obtain ⟨m,⟨o',es,ep,ho',hd',_⟩,_⟩:=I.loc
 rw [z,ho'] at ho;cases ho;rw [hd'] at hd;cases hd
theorem Inv.funs (I:Inv X pins σ H s):s.heap.FunFrames X.base X.outer:=by
 have all:∀ (l:List Env),(∀ b∈frs l,b∈X.fs)->X.s₀.heap.FunFrames X.base l->s.heap.FunFrames X.base l:=by
  intro l
  induction l with
  | nil=>intro _ _;trivial
  | cons env r ih =>
   intro hs hl
   obtain ⟨hk,⟨L,o,hf,hn,ho,hd⟩,hr⟩:=hl
   have hL:L∈X.fs:=hs L (by unfold frs;rw [List.filterMap_cons,hf];exact mem_cons_self)
   obtain ⟨sl,e⟩:=I.base.slot L o ho (I.ok.frf L hL) hL fun z=>I.ok.exfs L z hL
   exact ⟨hk,⟨L,_,hf,hn,e,hd⟩,ih (fun b hb=>hs b (by unfold frs;rw [List.filterMap_cons,hf];exact mem_cons_of_mem _ hb)) hr⟩
 exact all X.outer (fun _ hb=>hb) I.ok.funs
theorem Inv.stack (I:Inv X pins σ H s):s.heap.FunFrames X.base X.stack:=by
 rcases I.ok.stk with e|⟨e,hf⟩
 .rw [e];exact I.funs
 .rw [e]
  obtain ⟨m,hn,_⟩:=I.loc
  refine .cons (by rw [I.ok.kind];decide) hf hn ?_ I.funs
  exact Heap.get?_none_of_le (Nat.le_trans I.ok.bsz I.ok.above)
theorem Inv.stkSub (I:Inv X pins σ H s):∀ b∈frs X.stack,b∈X.env.locals::X.fs:=fun b hb=>by
 rcases I.ok.stk with e|⟨e,hf⟩
 .rw [e] at hb;exact mem_cons_of_mem _ hb
 .rw [e] at hb
  unfold frs at hb
  rw [List.filterMap_cons,hf] at hb
  exact hb
theorem Inv.stkFree (I:Inv X pins σ H s):∀ b∈frs X.stack,H b=none:=fun b hb=>by
 rcases mem_cons.mp (I.stkSub b hb) with e|hb
 .rw [e];exact I.free
 .obtain ⟨_,o,ho,_⟩:=I.ok.funs.mem hb
  exact I.base.free b o ho (I.ok.frf b hb) fun z=>I.ok.exfs b z hb
theorem Inv.step {g':Array GenState}{t':Nat}{d':Drawn}{ch:List Addr}(I:Inv X pins σ H s)
  (hch:∀ b∈ch,(b∈X.ex\/X.s₀.heap.objs.size<=b)/\b≠X.env.locals/\(∀ x c,X.env.cells.lookup x=some c->c≠b)/\∀ p∈X.pn++pins,p.1≠b)
  (keep:∀ b o,b≠X.env.locals->b∉X.fs->b∉ch->s.heap.get? b=some o->H b=none->h'.get? b=some o)
  (slot:∀ b o,b≠X.env.locals->b∈X.fs->b∉ch->s.heap.get? b=some o->H b=none->∃ sl,h'.get? b=some { o with slots:=sl }) (free:∀ b o,b∉ch->s.heap.get? b=some o->H b=none->H' b=none)
  (there:∀ b o,b∉ch->s.heap.get? b=some o->∃ o',h'.get? b=some o')
  (tups:∀ b xs,H b=some (.tup xs)->H' b=some (.tup xs)) (frzs:∀ b o u,H b=some (.frz o u)->H' b=some (.frz o u)) (tbls:∀ b ps,H b=some (.tbl ps)->∃ more,H' b=some (.tbl (ps++more)))
  (ns:∀ m,s.heap.Ns X.env.locals m->h'.Ns X.env.locals m) (hok:HOk X.prog X.w H' h') (hg:AllBare g') :
  Inv X pins σ H' { s with heap:=h',gens:=g',drawn:=d',toks:=t' }:=by
 have neL:∀ b o,X.s₀.heap.get? b=some o->b≠X.env.locals:=fun b o e=>ne_of_lt (lt_of_lt_of_le (Heap.lt_size e) I.ok.above)
 have neC:∀ b o,X.s₀.heap.get? b=some o->b∉X.ex->b∉ch:=fun b o e hx hb=>by
  rcases (hch b hb).1 with z|z
  .exact hx z
  .exact absurd (lt_of_lt_of_le (Heap.lt_size e) z) (lt_irrefl _)
 have cellK:∀ x c,X.env.cells.lookup x=some c->∀ v,s.heap.IsCell c v->h'.IsCell c v:=fun x c e v ⟨o,ho,hd⟩=>by
  have nch:c∉ch:=fun z=>(hch c z).2.2.1 x c e rfl
  by_cases hc:c∈X.fs
  .obtain ⟨sl,q⟩:=slot c o (I.cne x c e) hc nch ho (I.freeC x c e)
   exact ⟨_,q,hd⟩
  .exact ⟨o,keep c o (I.cne x c e) hc nch ho (I.freeC x c e),hd⟩
 refine ⟨I.ok,I.os,hg,⟨fun b o e n hb hx=>?_,fun b o e n hb hx=>?_,fun b o e n hx=>?_,fun b o e hx=>?_,fun b xs e=>tups b xs (I.base.tups b xs e),fun b o xs e=>frzs b o xs (I.base.frzs b o xs e),fun b ps e=>?_⟩,?_,fun x c e=>?_,?_,fun x c e=>?_,fun p hp=>?_,hok,I.len⟩
 .exact keep b o (neL b o e) hb (neC b o e hx) (I.base.keep b o e n hb hx) (I.base.free b o e n hx)
 .obtain ⟨sl,e1⟩:=I.base.slot b o e n hb hx
  obtain ⟨sl',e2⟩:=slot b _ (neL b o e) hb (neC b o e hx) e1 (I.base.free b o e n hx)
  exact ⟨sl',e2⟩
 .obtain ⟨o',e1⟩:=I.base.there b o e hx
  exact free b o' (neC b o e hx) e1 (I.base.free b o e n hx)
 .obtain ⟨o',e1⟩:=I.base.there b o e hx
  exact there b o' (neC b o e hx) e1
 .obtain ⟨m1,e1⟩:=I.base.tbls b ps e
  obtain ⟨m2,e2⟩:=tbls b _ e1
  exact ⟨m1++m2,by rw [e2,Array.append_assoc]⟩
 .obtain ⟨m,hn,hl⟩:=I.loc
  refine ⟨m,ns m hn,fun i x v e1 e2 e3=>?_⟩
  obtain ⟨u,r,l⟩:=hl i x v e1 e2 e3
  refine ⟨u,r,?_⟩
  rcases l with l|⟨k,c,e,z⟩
  .exact .inl l
  .exact .inr ⟨k,c,e,cellK x c e _ z⟩
 .obtain ⟨v,z⟩:=I.cell x c e
  exact ⟨v,cellK x c e v z⟩
 .obtain ⟨m,⟨o,_,_,ho,_⟩,_⟩:=I.loc
  exact free _ o (fun z=>(hch _ z).2.1 rfl) ho I.free
 .obtain ⟨v,o,ho,hd⟩:=I.cell x c e
  exact free c o (fun z=>(hch c z).2.2.1 x c e rfl) ho (I.freeC x c e)
 .obtain ⟨e,n,ne,nf,d⟩:=I.pin p hp
  have nch:p.1∉ch:=fun z=>(hch p.1 z).2.2.2 p hp rfl
  exact ⟨keep p.1 p.2 ne nf nch e n,free p.1 p.2 nch e n,ne,nf,d⟩
theorem Inv.un {t':Nat}(I:Inv X pins σ H s) (u:Un X.fs [] H H' s.heap h') (hok:HOk X.prog X.w H' h'):Inv X pins σ H' { s with heap:=h',toks:=t' }:=by
 obtain ⟨m,⟨o,es,ep,ho,r⟩,_⟩:=id I.loc
 obtain ⟨sl,hL⟩:=u.any ho I.free (by simp)
 exact I.step (g':=s.gens) (d':=s.drawn) (ch:=[]) (fun _ z=>nomatch z) (fun b o _ hb _ e n=>u.keep b o e n hb (by simp)) (fun b o _ hb _ e n=>u.slot b o e n hb (by simp)) (fun b o _ e n=>u.free b o e n (by simp)) (fun b o _ e=>u.there b o e (by simp)) u.tups u.frzs u.tbls (fun m' hm=>by
  obtain ⟨o',es',ep',ho',r'⟩:=hm
  rw [ho] at ho';cases ho'
  exact ⟨_,es',ep',hL,r'⟩) hok I.bare
theorem Inv.call {g':Array GenState}{t':Nat}{d':Drawn}{ch:List Addr}(I:Inv X pins σ H s) (u:Un (frs X.stack) ch H H' s.heap h') (hok:HOk X.prog X.w H' h') (hg:AllBare g')
  (hch:∀ b∈ch,(b∈X.ex\/X.s₀.heap.objs.size<=b)/\b≠X.env.locals/\(∀ x c,X.env.cells.lookup x=some c->c≠b)/\∀ p∈X.pn++pins,p.1≠b) :
  Inv X pins σ H' { s with heap:=h',gens:=g',drawn:=d',toks:=t' }:=by
 obtain ⟨m,⟨o,es,ep,ho,r⟩,_⟩:=id I.loc
 obtain ⟨sl,hL⟩:=u.any ho I.free fun z=>(hch _ z).2.1 rfl
 exact I.step (ch:=ch) hch (fun b o hL hb hc e n=>u.keep b o e n (fun z=>(mem_cons.mp (I.stkSub b z)).elim hL hb) hc) (fun b o _ _ hc e n=>u.any e n hc) (fun b o hc e n=>u.free b o e n hc) (fun b o hc e=>u.there b o e hc) u.tups u.frzs u.tbls (fun m' hm=>by
  obtain ⟨o',es',ep',ho',r'⟩:=hm
  rw [ho] at ho';cases ho'
  exact ⟨_,es',ep',hL,r'⟩) hok hg
theorem Inv.turned {t':Nat}{it:Addr}(I:Inv X pins σ H s) (k:∀ b o,b≠it->s.heap.get? b=some o->h'.get? b=some o) (hn:H it=none) (hL:it≠X.env.locals)
  (h1:it∈X.ex\/X.s₀.heap.objs.size<=it) (h2:∀ x c,X.env.cells.lookup x=some c->c≠it) (h3:∀ p∈X.pn++pins,p.1≠it):Inv X pins σ H { s with heap:=h',toks:=t' }:=by
 have nit:∀ b u,H b=some u->b≠it:=fun b u e z=>by rw [z,hn] at e;cases e
 refine I.step (g':=s.gens) (d':=s.drawn) (ch:=[it]) (fun b hb=>?_) (fun b o _ _ hc e _=>k b o (fun z=>hc (by simp [z])) e) (fun b o _ _ hc e _=>⟨o.slots,k b o (fun z=>hc (by simp [z])) e⟩) (fun _ _ _ _ n=>n)
  (fun b o hc e=>⟨o,k b o (fun z=>hc (by simp [z])) e⟩) (fun _ _ e=>e) (fun _ _ _ e=>e) (fun b ps e=>⟨#[],by rw [e];simp⟩) (fun m hm=>?_) (fun b u e=>?_) I.bare
 .have e:b=it:=by simpa using hb
  subst e
  exact ⟨h1,hL,h2,h3⟩
 .obtain ⟨o,es,ep,ho,r⟩:=hm
  exact ⟨o,es,ep,k _ o (Ne.symm hL) ho,r⟩
 .refine (I.hok b u e).stay (fun c v hc q=>k c v ?_ q) (fun _ q=>q) fun _ _ q=>q
  rcases hc with z|z
  .rw [z];exact nit b u e
  .exact nit c _ z
theorem Inv.tok (I:Inv X pins σ H s) (t:Nat):Inv X pins σ H { s with toks:=t }:=I.un (h':=s.heap) (t':=t) Un.refl I.hok
theorem Inv.kept {t':Nat}(I:Inv X pins σ H s) (k:∀ b u,s.heap.get? b=some u->h'.get? b=some u):Inv X pins σ H { s with heap:=h',toks:=t' }:=I.un (Un.kept k) (I.hok.kept k)
theorem Inv.laid {a:Addr}{o:HO}{t':Nat}(I:Inv X pins σ H s) (k:∀ b u,s.heap.get? b=some u->h'.get? b=some u) (hp:s.heap.objs.size<=a) (new:ObjOk X.prog X.w (upd H a o) h' a o) :
  Inv X pins σ (upd H a o) { s with heap:=h',toks:=t' }:=I.un (Un.laid k hp (I.hok.fresh hp)) (I.hok.laid k hp new)
theorem Inv.write {x e:Addr}{o:HO}{t':Nat}(I:Inv X pins σ H s) (mu:Mut (H x)) (he:e=x\/H e=some (.own x)) (k:∀ b u,b≠e->s.heap.get? b=some u->h'.get? b=some u) (heo:∃ u,h'.get? e=some u)
  (new:ObjOk X.prog X.w (upd H x o) h' x o):Inv X pins σ (upd H x o) { s with heap:=h',toks:=t' }:=I.un (Un.write mu he k heo) (I.hok.write mu he k heo new)
theorem Inv.pins_of {pins':List (Addr×Obj)}(I:Inv X pins σ H s) (h:∀ p∈pins',s.heap.get? p.1=some p.2/\H p.1=none/\p.1≠X.env.locals/\p.1∉X.fs/\∀ v,p.2.data≠.cell v):Inv X pins' σ H s :=
 ⟨I.ok,I.os,I.bare,I.base,I.loc,I.cell,I.free,I.freeC,fun p hp=>(List.mem_append.mp hp).elim (fun z=>I.pin p (mem_append_left _ z)) (h p),I.hok,I.len⟩
theorem yxJ {N:List Str}(hN:N.Nodup) {i j:Nat}{x:Str}(a:N[i]?=some x) (b:N[j]?=some x):i=j:=by
 obtain ⟨h1,e1⟩:=List.getElem?_eq_some_iff.mp a
 obtain ⟨h2,e2⟩:=List.getElem?_eq_some_iff.mp b
 exact (List.getElem_inj hN).mp (e1.trans e2.symm)
theorem yAe {M:Model}{A:Around}{E:Value->Shared->Prop}{i:Nat}{x:Str}{v:V}{u:Value}{Q:Unit->Shared->Prop}(I:Inv X pins σ H s) (hN:X.N.Nodup) (hi:X.N[i]?=some x) (hx:Loc X.env.scope x) (r:RelV v u)
  (h:∀ s',Inv X pins (σ.set i (some v)) H s'->(∃ a,Heap.SameBut a s.heap s'.heap/\(a=X.env.locals\/X.env.cells.lookup x=some a))->Q () s') (hf:X.fn x=true\/X.env.scope.names.lookup x=some .local:=by first|exact .inl rfl|exact .inr rfl|assumption):wpAny M A (storeName X.env x u) Q E s:=by
 obtain ⟨m,hn,hl⟩:=id I.loc
 have hcls:(X.env.scope.kind == .class || (X.env.scope.kind == .module && X.env.locals != X.env.globals))=false:=by rw [I.ok.kind];rfl
 have hiσ:i<σ.length:=by rw [I.len];exact (List.getElem?_eq_some_iff.mp hi).1
 have cne:=I.cne
 have tracked:∀ {a:Addr}{h':Heap},(∃ o,s.heap.get? a=some o/\H a=none)->Heap.SameBut a s.heap h'->HOk X.prog X.w H h':=fun {a h'} ha hs b ob e=>by
  obtain ⟨_,_,hfree⟩:=ha
  refine (I.hok b ob e).stay (fun c w' hc q=>(hs.2 c ?_).trans q) (fun _ q=>q) fun _ _ q=>q
  rintro rfl
  rcases hc with rfl|hc
  .rw [hfree] at e;cases e
  .rw [hfree] at hc;cases hc
 rcases hx with hk|hk
 .refine wpAny_storeName_local hk hn (fun h' hn' hs=>?_) hcls
  obtain ⟨oL,_,_,hoL,_⟩:=id hn
  refine h _ ⟨I.ok,I.os,I.bare,⟨fun b o e n hb hx=>?_,fun b o e n hb hx=>?_,I.base.free,fun b o e hx=>?_,I.base.tups,I.base.frzs,I.base.tbls⟩,⟨_,hn',fun j y v' e1 e2 e3=>?_⟩,fun y c e=>?_,I.free,I.freeC,fun p hp=>?_,tracked ⟨oL,hoL,I.free⟩ hs,by simpa using I.len⟩ ⟨_,hs,.inl rfl⟩
  .exact (hs.2 b (ne_of_lt (lt_of_lt_of_le (Heap.lt_size e) I.ok.above))).trans (I.base.keep b o e n hb hx)
  .obtain ⟨sl,e1⟩:=I.base.slot b o e n hb hx
   exact ⟨sl,(hs.2 b (ne_of_lt (lt_of_lt_of_le (Heap.lt_size e) I.ok.above))).trans e1⟩
  .obtain ⟨o',e1⟩:=I.base.there b o e hx
   exact ⟨o',(hs.2 b (ne_of_lt (lt_of_lt_of_le (Heap.lt_size e) I.ok.above))).trans e1⟩
  .by_cases hj:j=i
   .subst hj
    rw [hi] at e1;cases e1
    rw [getElem?_set_self hiσ] at e2
    cases e2
    exact ⟨u,r,.inl ⟨hk,by simp⟩⟩
   .rw [getElem?_set_ne (Ne.symm hj)] at e2
    obtain ⟨u',r',q⟩:=hl j y v' e1 e2 e3
    refine ⟨u',r',?_⟩
    rcases q with ⟨k,e⟩|⟨k,c,e,z⟩
    .refine .inl ⟨k,?_⟩
     have:y≠x:=fun e=>hj (yxJ hN e1 (e ▸ hi))
     simp [this,e]
    .exact .inr ⟨k,c,e,z.sameBut hs (cne y c e)⟩
  .obtain ⟨w',z⟩:=I.cell y c e
   exact ⟨w',z.sameBut hs (cne y c e)⟩
  .obtain ⟨e,n,ne,nf,d⟩:=I.pin p hp
   exact ⟨(hs.2 p.1 ne).trans e,n,ne,nf,d⟩
 .have hfn:X.fn x=true:=by
   rcases hf with z|z
   .exact z
   .rw [z] at hk;cases hk
  obtain ⟨c,hc⟩:=I.ok.has x (.inl hk)
  obtain ⟨w',z⟩:=I.cell x c hc
  refine wpAny_storeName_cell I.ok.kind hk hc z (fun h' hc' hs=>?_)
  obtain ⟨oc,hoc,hocd⟩:=id z
  refine h { s with heap:=h' } ⟨I.ok,I.os,I.bare,⟨fun b o e n hb hx=>?_,fun b o e n hb hx=>?_,I.base.free,fun b o e hx=>?_,I.base.tups,I.base.frzs,I.base.tbls⟩,⟨m,hn.sameBut hs (Ne.symm (cne x c hc)),fun j y v' e1 e2 e3=>?_⟩,fun y c' e=>?_,I.free,I.freeC,fun p hp=>?_,tracked ⟨oc,hoc,I.freeC x c hc⟩ hs,by simpa using I.len⟩ ⟨c,hs,.inr hc⟩
  .exact (hs.2 b (ne_of_lt (lt_of_lt_of_le (Heap.lt_size e) (I.ok.cab x c hfn hc)))).trans (I.base.keep b o e n hb hx)
  .obtain ⟨sl,e1⟩:=I.base.slot b o e n hb hx
   exact ⟨sl,(hs.2 b (ne_of_lt (lt_of_lt_of_le (Heap.lt_size e) (I.ok.cab x c hfn hc)))).trans e1⟩
  .obtain ⟨o',e1⟩:=I.base.there b o e hx
   exact ⟨o',(hs.2 b (ne_of_lt (lt_of_lt_of_le (Heap.lt_size e) (I.ok.cab x c hfn hc)))).trans e1⟩
  .by_cases hj:j=i
   .subst hj
    rw [hi] at e1;cases e1
    rw [getElem?_set_self hiσ] at e2
    cases e2
    exact ⟨u,r,.inr ⟨.inl hk,c,hc,hc'⟩⟩
   .rw [getElem?_set_ne (Ne.symm hj)] at e2
    obtain ⟨u',r',q⟩:=hl j y v' e1 e2 e3
    refine ⟨u',r',?_⟩
    rcases q with q|⟨k,c',e,z'⟩
    .exact .inl q
    .refine .inr ⟨k,c',e,z'.sameBut hs ?_⟩
     rintro rfl
     exact hj (yxJ hN e1 (I.ok.inj _ _ _ e hc ▸ hi))
  .by_cases hcc:c'=c
   .subst hcc;exact ⟨_,hc'⟩
   .obtain ⟨w2,z2⟩:=I.cell y c' e
    exact ⟨w2,z2.sameBut hs hcc⟩
  .obtain ⟨e,n,ne,nf,d⟩:=I.pin p hp
   refine ⟨(hs.2 p.1 ?_).trans e,n,ne,nf,d⟩
   intro q
   rw [q,hoc] at e
   have q':oc=p.2:=Option.some.inj e
   exact d w' (by rw [<- q'];exact hocd)
theorem yxK {M:Model}{A:Around}{E:Value->Shared->Prop}{i:Nat}{x:Str}{v:V}{u:Value}{Q:Unit->Shared->Prop}(I:Inv X pins σ H s) (hN:X.N.Nodup) (hi:X.N[i]?=some x) (hx:Loc X.env.scope x) (r:RelV v u)
  (h:∀ s',Inv X pins (σ.set i (some v)) H s'->Q () s') (hf:X.fn x=true\/X.env.scope.names.lookup x=some .local:=by first|exact .inl rfl|exact .inr rfl|assumption):wpAny M A (storeName X.env x u) Q E s :=
 yAe I hN hi hx r (fun s' I' _=>h s' I') hf
theorem Inv.call' {s':Shared}{ch:List Addr}(I:Inv X pins σ H s) (ho:s'.os=s.os) (u:Un (frs X.stack) ch H H' s.heap s'.heap) (hok:HOk X.prog X.w H' s'.heap) (hg:AllBare s'.gens)
  (hch:∀ b∈ch,(b∈X.ex\/X.s₀.heap.objs.size<=b)/\b≠X.env.locals/\(∀ x c,X.env.cells.lookup x=some c->c≠b)/\∀ p∈X.pn++pins,p.1≠b):Inv X pins σ H' s':=by
 obtain ⟨h',g',d',t',o'⟩:=s'
 have e:o'=s.os:=ho
 subst e
 exact I.call (g':=g') (t':=t') (d':=d') u hok hg hch
end
abbrev XK:=Value->Option Addr->Hp->Prop
abbrev St:=List (Option V)
abbrev VK:=V->Hp->Prop
abbrev TE:=St->Hp->VK->Prop
abbrev TT:=St->Hp->(Bool->Hp->Prop)->Prop
abbrev TA:=St->Hp->(List V->Hp->Prop)->Prop
structure Ends where
 nx:St->Hp->Prop
 rt:VK
 bk:St->Hp->Prop:=fun _ _=>False
 ct:St->Hp->Prop:=fun _ _=>False
abbrev TS:=Ends->St->Hp->Prop
def EP (X:Cx) (pins:List (Addr×Obj)) (σ:St) (Q:VK) (u:Value) (s':Shared):Prop:=∃ v H',Inv X pins σ H' s'/\RelV v u/\Q v H'
noncomputable def TP (X:Cx) (pins:List (Addr×Obj)) (σ:St) (Q:Bool->Hp->Prop) (b:Bool) (s':Shared):Prop:=∃ H',Inv X pins σ H' s'/\Q b H'
def AP (X:Cx) (pins:List (Addr×Obj)) (σ:St) (Q:List V->Hp->Prop) (us:List Value) (s':Shared):Prop:=∃ vs H',Inv X pins σ H' s'/\Vals vs us/\Q vs H'
def SP (X:Cx) (pins:List (Addr×Obj)) (D:Ends) (f:Flow) (s':Shared):Prop :=
 match f with
 | .next=>∃ σ' H',Inv X pins σ' H' s'/\D.nx σ' H'
 | .brk=>∃ σ' H',Inv X pins σ' H' s'/\D.bk σ' H'
 | .cont=>∃ σ' H',Inv X pins σ' H' s'/\D.ct σ' H'
 | .ret u=>∃ v σ' H',Inv X pins σ' H' s'/\RelV v u/\D.rt v H'
def PE (X:Cx) (e:Expr) (t:TE):Prop :=
 ∀ (pins:List (Addr×Obj)) (s:Shared) (σ:St) (H:Hp) (Q:VK),Inv X pins σ H s->t σ H Q->wpAny (model X.prog X.w) X.A (eval e X.env) (EP X pins σ Q) X.xe s
def PT (X:Cx) (e:Expr) (t:TT):Prop :=
 ∀ (pins:List (Addr×Obj)) (s:Shared) (σ:St) (H:Hp) (Q:Bool->Hp->Prop),Inv X pins σ H s->t σ H Q->wpAny (model X.prog X.w) X.A (isTrue e X.env (eval e X.env)) (TP X pins σ Q) X.xe s
def PW (X:Cx) (e:Expr) (t:TT):Prop :=
 ∀ (whole:Sem Value) (pins:List (Addr×Obj)) (s:Shared) (σ:St) (H:Hp) (Q:Bool->Hp->Prop),Inv X pins σ H s->t σ H Q->wpAny (model X.prog X.w) X.A (isTrue e X.env whole) (TP X pins σ Q) X.xe s
theorem PW.pt {X:Cx}{e:Expr}{t:TT}(h:PW X e t):PT X e t:=h _
def PA (X:Cx) (es:List Expr) (t:TA):Prop :=
 ∀ (pos:Pos) (pins:List (Addr×Obj)) (s:Shared) (σ:St) (H:Hp) (Q:List V->Hp->Prop),Inv X pins σ H s->t σ H Q->wpAny (model X.prog X.w) X.A (spliced (backTo pos (starEach es X.env))) (AP X pins σ Q) X.xe s
def PS (X:Cx) (st:Stmt) (t:TS):Prop :=
 ∀ (pins:List (Addr×Obj)) (s:Shared) (σ:St) (H:Hp) (D:Ends),Inv X pins σ H s->t D σ H->wpAny (model X.prog X.w) X.A (exec st X.env) (SP X pins D) X.xe s
def PSs (X:Cx) (st:List Stmt) (t:TS):Prop :=
 ∀ (pins:List (Addr×Obj)) (s:Shared) (σ:St) (H:Hp) (D:Ends),Inv X pins σ H s->t D σ H->wpAny (model X.prog X.w) X.A (execs st X.env) (SP X pins D) X.xe s
theorem thn {α:Type}{t:Sem α}{Q Q':α->Shared->Prop}{M:Model}{A:Around}{E:Value->Shared->Prop}{s:Shared}(h:wpAny M A t Q E s) (hQ:∀ a s,Q a s->Q' a s):wpAny M A t Q' E s:=wpAny_mono h hQ fun _ _ x=>x
end L2
namespace L2
open PySem PySem.Spec PyProof.Rows
section
variable {X:Cx}
def yzX (i:Nat):TE:=fun σ H Q=>∃ v,σ[i]?=some (some v)/\Q v H
def tC (v:V):TE:=fun _ H Q=>Q v H
theorem yY {i:Nat}{x:Str}{pos:Pos}(hN:X.N[i]?=some x) (hv:Vis X.env.scope x) (hd:(x == ("__debug__":Str))=false:=by decide) (hcd:(x == ("__classdict__":Str))=false:=by decide):PE X (.Name x pos) (yzX i):=by
 intro pins s σ H Q I h
 obtain ⟨v,e,h⟩:=h
 obtain ⟨m,hn,hl⟩:=I.loc
 obtain ⟨u,r,l⟩:=hl i x v hN e hv
 have fin:EP X pins σ Q u s:=⟨v,H,I,r,h⟩
 rcases l with ⟨hk,hm⟩|⟨hk,c,hc,hcell⟩
 .exact wpAny_Name (wpAny_loadName_local I.ok.kind hk hn hm fin) hd
 .rcases hk with hk|hk
  .exact wpAny_Name (wpAny_loadName_cell I.ok.kind hk hc hcell fin) hd
  .exact wpAny_Name (wpAny_loadName_free I.ok.kind hk hc hcell fin hcd) hd
theorem yJA {i j pos}:PE X (.Constant (.int i) j pos) (tC (.int i)):=fun _ _ _ H _ I h=>wpAny_Constant_int ⟨.int i,H,I.tok _,⟨_,rfl⟩,h⟩
theorem yLZ {b j pos}:PE X (.Constant (.bool b) j pos) (tC (.bl b)):=fun _ _ _ H _ I h=>Constant_bool ⟨.bl b,H,I,rfl,h⟩
theorem yJB {j pos}:PE X (.Constant .none j pos) (tC .non):=fun _ _ _ H _ I h=>Constant_none ⟨.non,H,I,rfl,h⟩
theorem yJC {x j pos}:PE X (.Constant (.str x) j pos) (tC (.str x)):=fun _ _ _ H _ I h=>Calls.Constant_str ⟨.str x,H,I.tok _,⟨_,rfl⟩,h⟩
def Gl (X:Cx) (x:Str):Prop:=X.env.kindOf x=some .globalImplicit
theorem ynL {E:Value->Shared->Prop}{pins:List (Addr×Obj)}{s:Shared}{σ:St}{H:Hp}{x:Str}{u:Value}{pos:Pos}{Q:Value->Shared->Prop}(I:Inv X pins σ H s) (hg:Gl X x) (hm:X.mg x=some u) (h:Q u s)
  (hd:(x == ("__debug__":Str))=false:=by decide):wpAny (model X.prog X.w) X.A (eval (.Name x pos) X.env) Q E s :=
 Calls.Name_function_global I.ok.kind hg (Calls.loadGlobal_global (by rw [I.ok.glob];exact I.mod.glob.keeps I.bk) hm h) hd
theorem ynM {E:Value->Shared->Prop}{pins:List (Addr×Obj)}{s:Shared}{σ:St}{H:Hp}{x:Str}{u:Value}{pos:Pos}{Q:Value->Shared->Prop}(I:Inv X pins σ H s) (hg:Gl X x) (hm:X.mg x=none) (hv:bootBuiltins x=some u) (h:Q u s)
  (hn:x≠"__name__":=by decide) (hd:(x == ("__debug__":Str))=false:=by decide):wpAny (model X.prog X.w) X.A (eval (.Name x pos) X.env) Q E s:=by
 obtain ⟨mb,h1,h2⟩:=I.mod.blt
 exact Calls.Name_function_global I.ok.kind hg (Calls.loadGlobal_builtin (by rw [I.ok.glob];exact I.mod.glob.keeps I.bk) hm (by rw [I.ok.blt];exact h1.keeps I.bk) ((h2 x hn).trans hv) h) hd
theorem yvT {x:Str}{v:V}{u:Value}{pos:Pos}(hg:Gl X x) (hm:X.mg x=some u) (r:RelV v u) (hd:(x == ("__debug__":Str))=false:=by decide):PE X (.Name x pos) (tC v) :=
 fun _ _ _ H _ I h=>ynL I hg hm ⟨v,H,I,r,h⟩ hd
theorem yGV {x:Str}{v:V}{u:Value}{pos:Pos}(hg:Gl X x) (hm:X.mg x=none) (hv:bootBuiltins x=some u) (r:RelV v u) (hn:x≠"__name__":=by decide) (hd:(x == ("__debug__":Str))=false:=by decide):PE X (.Name x pos) (tC v) :=
 fun _ _ _ H _ I h=>ynM I hg hm hv ⟨v,H,I,r,h⟩ hn hd
variable {a b:Expr}{ta tb:TE}{pos:Pos}
def PC (X:Cx) (op:CmpOp) (a b:Expr) (t:TE):Prop :=
 ∀ (pins:List (Addr×Obj)) (s:Shared) (σ:St) (H:Hp) (Q:VK),Inv X pins σ H s->t σ H Q ->
  wpAny (model X.prog X.w) X.A (eval a X.env) (fun v s₁=>wpAny (model X.prog X.w) X.A (eval b X.env) (fun u s₂=>wpAny (model X.prog X.w) X.A (compareOp op v u) (EP X pins σ Q) X.xe s₂) X.xe s₁) X.xe s
theorem yDz (b:Expr) {op:CmpOp}(h:op≠.In) (h2:op≠.NotIn):behindInMarks op b=false:=by
 have e1:(op == CmpOp.In)=false:=by cases op<;>first|rfl|exact absurd rfl h
 have e2:(op == CmpOp.NotIn)=false:=by cases op<;>first|rfl|exact absurd rfl h2
 cases b<;>simp [behindInMarks,e1,e2]
def tB (t:TE):TT:=fun σ H Q=>t σ H fun x H1=>∃ c,x=.bl c/\Q c H1
theorem yFJ {op:CmpOp}{t:TE}(h:PC X op a b t) (h1:behindInMarks op b=false:=by first|exact yDz _ (by decide) (by decide)|rfl):PT X (.Compare a [op] [b] pos) (tB t):=by
 intro pins s σ H Q I hw
 refine wpAny_isTrue_Compare1 (thn (h pins s σ H _ I hw) fun v s1 h1=>thn h1 fun u s2 h2=>thn h2 fun c s3 ⟨x,H1,I1,r1,q1⟩=>?_) h1
 obtain ⟨d,rfl,q⟩:=q1
 cases r1
 exact wpAny_truthy_bool ⟨H1,I1,q⟩
theorem yJD {e:Expr}{t:TE}(h:PE X e t) (he:∀ whole,isTrue e X.env whole=(do let v <- whole;standAt e.pos;holding [v] (truthy v)):=by intro _;rfl):PT X e (tB t):=by
 intro pins s σ H Q I hw
 refine isTrue_plain (thn (h pins s σ H _ I hw) fun v s1 ⟨x,H1,I1,r1,q1⟩=>?_) (he _)
 obtain ⟨d,rfl,q⟩:=q1
 cases r1
 exact wpAny_truthy_bool ⟨H1,I1,q⟩
variable {tA tB':TT}{rest:List Expr}
def yNN (t u:TT):TT:=fun σ H Q=>t σ H fun c H1=>if c=true then u σ H1 Q else Q false H1
def tOr (t u:TT):TT:=fun σ H Q=>t σ H fun c H1=>if c=true then Q true H1 else u σ H1 Q
def yMa (t:TT):TT:=fun σ H Q=>t σ H fun c H1=>Q (!c) H1
theorem yGW (ha:PT X a tA):PW X (.BoolOp .And [a] pos) tA:=by
 intro wh pins s σ H Q I h
 refine isTrue_and (thn (ha pins s σ H Q I h) fun c s1 e=>?_)
 cases c with
 | true=>exact isTrue_and_nil e
 | false=>exact e
theorem yJE (ha:PT X a tA):PW X (.BoolOp .Or [a] pos) tA:=by
 intro wh pins s σ H Q I h
 refine isTrue_or (thn (ha pins s σ H Q I h) fun c s1 e=>?_)
 cases c with
 | false=>exact isTrue_or_nil e
 | true=>exact e
theorem yJF (ha:PT X a tA) (hb:PW X (.BoolOp .And (b::rest) pos) tB'):PW X (.BoolOp .And (a::b::rest) pos) (yNN tA tB'):=by
 intro wh pins s σ H Q I h
 refine isTrue_and (thn (ha pins s σ H _ I h) fun c s1 ⟨H1,I1,q1⟩=>?_)
 cases c with
 | true=>exact hb wh pins s1 σ H1 Q I1 q1
 | false=>exact ⟨H1,I1,q1⟩
theorem yMb (ha:PT X a tA) (hb:PW X (.BoolOp .Or (b::rest) pos) tB'):PW X (.BoolOp .Or (a::b::rest) pos) (tOr tA tB'):=by
 intro wh pins s σ H Q I h
 refine isTrue_or (thn (ha pins s σ H _ I h) fun c s1 ⟨H1,I1,q1⟩=>?_)
 cases c with
 | true=>exact ⟨H1,I1,q1⟩
 | false=>exact hb wh pins s1 σ H1 Q I1 q1
theorem yJG (ha:PT X a tA):PT X (.UnaryOp .Not a pos) (yMa tA):=by
 intro pins s σ H Q I h
 exact isTrue_not (ha pins s σ H (fun c H1=>Q (!c) H1) I h)
def yJH (ta tb:TE):TE:=fun σ H Q=>ta σ H fun x H1=>∃ c,x=.bl c/\if c=true then tb σ H1 Q else Q (.bl false) H1
def yJI (ta:TE):TE:=fun σ H Q=>ta σ H fun x H1=>∃ c,x=.bl c/\Q (.bl (!c)) H1
theorem yJJ {op} {t:TE}(h:PE X a t):PE X (.BoolOp op [a] pos) t:=fun pins s σ H Q I hw=>BoolOp_one (h pins s σ H Q I hw)
theorem yJK (ha:PE X a ta) (hb:PE X (.BoolOp .And (b::rest) pos) tb):PE X (.BoolOp .And (a::b::rest) pos) (yJH ta tb):=by
 intro pins s σ H Q I h
 refine BoolOp_and (thn (ha pins s σ H _ I h) fun v s1 ⟨x,H1,I1,r1,q1⟩=>?_)
 obtain ⟨c,rfl,q1⟩:=q1
 cases r1
 refine wpAny_truthy_bool ?_
 cases c with
 | true=>exact hb pins s1 σ H1 Q I1 q1
 | false=>exact ⟨.bl false,H1,I1,rfl,q1⟩
theorem yJL (ha:PE X a ta):PE X (.UnaryOp .Not a pos) (yJI ta):=by
 intro pins s σ H Q I h
 refine UnaryOp_ (thn (ha pins s σ H _ I h) fun v s1 ⟨x,H1,I1,r1,q1⟩=>?_)
 obtain ⟨c,rfl,q1⟩:=q1
 cases r1
 exact not_of (wpAny_truthy_bool ⟨.bl (!c),H1,I1,rfl,q1⟩)
def tIf (t:TT) (ta tb:TE):TE:=fun σ H Q=>t σ H fun c H1=>if c=true then ta σ H1 Q else tb σ H1 Q
theorem yDA {c:Expr}(hc:PT X c tA) (ha:PE X a ta) (hb:PE X b tb):PE X (.IfExp c a b pos) (tIf tA ta tb):=by
 intro pins s σ H Q I h
 refine wpAny_IfExp (thn (hc pins s σ H _ I h) fun d s1 ⟨H1,I1,q1⟩=>?_)
 cases d with
 | true=>exact ha pins s1 σ H1 Q I1 q1
 | false=>exact hb pins s1 σ H1 Q I1 q1
end
end L2
namespace L2
open PySem PySem.Spec PyProof.Rows
def SqL (K:PySem.W.Frag) (H:Hp) (a:Addr) (xs:List V):Prop :=
 Rd H a (.lst xs) \/
  ∃ (o:Obj) (its:Array Value) (n:Nat),K.lookup a=some o/\o.cls=.type "list"/\o.dict=none/\o.data=.seq its n/\its.size<=sizeLine/\Vals xs its.toList
def SqT (K:PySem.W.Frag) (H:Hp) (a:Addr) (xs:List V):Prop :=
 Rd H a (.tup xs) \/
  ∃ (o:Obj) (its:Array Value) (n:Nat),K.lookup a=some o/\o.cls=.type "tuple"/\o.data=.seq its n/\its.size<=sizeLine/\Vals xs its.toList
noncomputable def yOw:Value->Option V
 | .none=>some .non
 | .bool b=>some (.bl b)
 | .int i _=>some (.int i)
 | .str x _=>some (.str x)
 | .bytes b _=>some (.byt b)
 | .float b _=>some (.flt b)
 | .ref a=>some (.ref a)
 | .type n=>some (.ty n)
 | _=>none
theorem RelV.abs {x:V}{u:Value}(r:RelV x u):yOw u=some x:=by
 cases x with
 | non=>cases r;rfl
 | bl _=>cases r;rfl
 | int _=>obtain ⟨t,rfl⟩:=r;rfl
 | str _=>obtain ⟨t,rfl⟩:=r;rfl
 | byt _=>obtain ⟨t,rfl⟩:=r;rfl
 | flt _=>obtain ⟨t,rfl⟩:=r;rfl
 | ref _=>cases r;rfl
 | ty _=>cases r;rfl
theorem RelV.inj {x y:V}{u:Value}(r:RelV x u) (q:RelV y u):x=y:=Option.some.inj (r.abs.symm.trans q.abs)
theorem Vals.inj:∀ {xs ys:List V}{us:List Value},Vals xs us->Vals ys us->xs=ys
 | _,_,_,.nil,.nil=>rfl
 | _,_,_,.cons r t,.cons r' t'=>by rw [r.inj r',Vals.inj t t']
section
variable {X:Cx}{pins:List (Addr×Obj)}{σ:St}{H:Hp}{s:Shared}{a:Addr}{xs ys:List V}
theorem SqL.of {K:PySem.W.Frag}(h:H a=some (.lst xs)):SqL K H a xs:=.inl (.inl h)
theorem SqT.of {K:PySem.W.Frag}(h:H a=some (.tup xs)):SqT K H a xs:=.inl (.inl h)
theorem Inv.list (I:Inv X pins σ H s) (h:SqL X.K H a xs):∃ its:List Value,Vals xs its/\PlainL s.heap a its.toArray/\xs.length<=sizeLine:=by
 rcases h with h|⟨o,its,n,hk,hc,hd,hs,hz,r⟩
 .obtain ⟨z,its,n,r,e⟩:=h.ok I.hok
  exact ⟨its,r,⟨_,n,e,rfl,rfl,rfl⟩,z⟩
 .refine ⟨its.toList,r,⟨o,n,I.kIn a o hk,hc,hd,by simpa using hs⟩,?_⟩
  have e:=r.length
  simp only [Array.length_toList] at e
  omega
theorem Inv.tuple (I:Inv X pins σ H s) (h:SqT X.K H a xs):∃ its:List Value,Vals xs its/\IsTup s.heap a its.toArray/\xs.length<=sizeLine:=by
 rcases h with h|⟨o,its,n,hk,hc,hs,hz,r⟩
 .obtain ⟨z,its,r,p⟩:=h.ok I.hok
  exact ⟨its,r,p,z⟩
 .refine ⟨its.toList,r,⟨o,I.kIn a o hk,hc,n,by simpa using hs⟩,?_⟩
  have e:=r.length
  simp only [Array.length_toList] at e
  omega
theorem Inv.list_inj (I:Inv X pins σ H s) (h:SqL X.K H a xs) (h':SqL X.K H a ys):xs=ys:=by
 obtain ⟨its,r,⟨o,n,e,_,_,d⟩,_⟩:=I.list h
 obtain ⟨its',r',⟨o',n',e',_,_,d'⟩,_⟩:=I.list h'
 rw [e] at e';cases e'
 rw [d] at d'
 injection d' with d1 _
 have:its=its':=by simpa using congrArg Array.toList d1
 subst this
 exact r.inj r'
end
abbrev Cx.wish (X:Cx) (E:Value->Shared->Prop):Cx:={ X with xe:=E }
abbrev Cx.nox (X:Cx):Cx:=X.wish fun _ _=>False
theorem Cx.Ok.wish {X:Cx}(ok:X.Ok) (E:Value->Shared->Prop):(X.wish E).Ok :=
 ⟨ok.mod,ok.kind,ok.glob,ok.blt,ok.above,ok.inj,ok.has,ok.cab,ok.hd,ok.frames,ok.stk,ok.exf,ok.bs,ok.bsz,ok.noex,ok.exfs,ok.funs,ok.frf⟩
theorem Cx.Ok.unwish {X:Cx}{E:Value->Shared->Prop}(ok:(X.wish E).Ok):X.Ok :=
 ⟨ok.mod,ok.kind,ok.glob,ok.blt,ok.above,ok.inj,ok.has,ok.cab,ok.hd,ok.frames,ok.stk,ok.exf,ok.bs,ok.bsz,ok.noex,ok.exfs,ok.funs,ok.frf⟩
section
variable {X:Cx}{pins:List (Addr×Obj)}{σ:St}{H:Hp}{s:Shared}{E:Value->Shared->Prop}
theorem Inv.wish (I:Inv X pins σ H s) (E:Value->Shared->Prop):Inv (X.wish E) pins σ H s:=⟨I.ok.wish E,I.os,I.bare,I.base,I.loc,I.cell,I.free,I.freeC,I.pin,I.hok,I.len⟩
theorem Inv.unwish (I:Inv (X.wish E) pins σ H s):Inv X pins σ H s:=⟨I.ok.unwish,I.os,I.bare,I.base,I.loc,I.cell,I.free,I.freeC,I.pin,I.hok,I.len⟩
theorem SP.unwish {D:Ends}{f:Flow}{s':Shared}(h:SP (X.wish E) pins D f s'):SP X pins D f s':=by
 cases f with
 | next=>obtain ⟨σ',H',I,q⟩:=h;exact ⟨σ',H',I.unwish,q⟩
 | brk=>obtain ⟨σ',H',I,q⟩:=h;exact ⟨σ',H',I.unwish,q⟩
 | cont=>obtain ⟨σ',H',I,q⟩:=h;exact ⟨σ',H',I.unwish,q⟩
 | ret u=>obtain ⟨v,σ',H',I,r,q⟩:=h;exact ⟨v,σ',H',I.unwish,r,q⟩
theorem PSs.nox {st:List Stmt}{t:TS}(h:PSs X.nox st t):PSs X st t:=fun pins s σ H D I hw =>
 wpAny_mono (h pins s σ H D (I.wish _) hw) (fun _ _ q=>q.unwish) fun _ _ z=>False.elim z
end
section
variable {X:Cx}{st:Stmt}{rest:List Stmt}{t u:TS}{e:Expr}{te:TE}{pos:Pos}
def yJM:TS:=fun D σ H=>D.nx σ H
def yMc (t u:TS):TS:=fun D σ H=>t { D with nx:=u D } σ H
theorem yGX:PSs X [] yJM:=fun _ _ σ H _ I h=>wpAny_execs_nil ⟨σ,H,I,h⟩
theorem yxL (h1:PS X st t) (h2:PSs X rest u):PSs X (st::rest) (yMc t u):=by
 intro pins s σ H D I h
 refine wpAny_execs_cons (thn (h1 pins s σ H { D with nx:=u D } I h) fun f s1 q=>?_)
 cases f with
 | next =>
  obtain ⟨σ',H',I',q⟩:=q
  exact h2 pins s1 σ' H' D I' q
 | ret v=>exact q
 | brk=>exact q
 | cont=>exact q
theorem yAf (h1:PS X st t):PSs X [st] t:=by
 intro pins s σ H D I h
 refine wpAny_execs_cons (thn (h1 pins s σ H D I h) fun f s1 q=>?_)
 cases f with
 | next=>exact wpAny_execs_nil q
 | ret v=>exact q
 | brk=>exact q
 | cont=>exact q
theorem Inv.quiet {pins:List (Addr×Obj)}{σ:St}{H:Hp}{s:Shared}(I:Inv X pins σ H s):interactive X.env=false:=by simp [interactive,I.ok.kind]
def yAg (te:TE):TS:=fun D σ H=>te σ H fun _ H1=>D.nx σ H1
theorem yrn (he:PE X e te) (hs:swapsWith e none pos.line X.env=pure false:=by rfl):PS X (.Expr e pos) (yAg te):=by
 intro pins s σ H D I h
 exact wpAny_Expr_any (thn (he pins s σ H _ I h) fun v s1 ⟨x,H1,I1,r1,q1⟩=>⟨σ,H1,I1,q1⟩) I.quiet hs
def yNO (te:TE):TS:=fun D σ H=>te σ H D.rt
theorem yJN (he:PE X e te):PS X (.Return (some e) pos) (yNO te):=by
 intro pins s σ H D I h
 exact wpAny_Return_some (thn (he pins s σ H _ I h) fun v s1 ⟨x,H1,I1,r1,q1⟩=>⟨x,σ,H1,I1,r1,q1⟩)
def yNP (c:TT) (t u:TS):TS:=fun D σ H=>c σ H fun b H1=>if b=true then t D σ H1 else u D σ H1
theorem yMd {c:Expr}{a b:List Stmt}{tc:TT}(hc:PT X c tc) (ha:PSs X a t) (hb:PSs X b u):PS X (.If c a b pos) (yNP tc t u):=by
 intro pins s σ H D I h
 refine wpAny_If (thn (hc pins s σ H _ I h) fun d s1 ⟨H1,I1,q1⟩=>?_)
 cases d with
 | true=>exact ha pins s1 σ H1 D I1 q1
 | false=>exact hb pins s1 σ H1 D I1 q1
end
abbrev TG:=V->St->Hp->(St->Hp->Prop)->Prop
def PG (X:Cx) (target:Expr) (t:TG):Prop :=
 ∀ (pins:List (Addr×Obj)) (s:Shared) (σ:St) (H:Hp) (v:V) (u:Value) (Q:St->Hp->Prop),Inv X pins σ H s->RelV v u->t v σ H Q ->
  wpAny (model X.prog X.w) X.A (assign target X.env u) (fun _ s'=>∃ σ' H',Inv X pins σ' H' s'/\Q σ' H') X.xe s
abbrev yMe:=V->V->V->Hp->(Hp->Prop)->Prop
def yNQ (X:Cx) (t:yMe):Prop :=
 ∀ (pins:List (Addr×Obj)) (s:Shared) (σ:St) (H:Hp) (o i v:V) (ov iv u:Value) (Q:Hp->Prop),Inv X pins σ H s->RelV o ov->RelV i iv->RelV v u->t o i v H Q ->
  wpAny (model X.prog X.w) X.A (setItem ov iv u) (fun _ s'=>∃ H',Inv X pins σ H' s'/\Q H') X.xe s
section
variable {X:Cx}{pos:Pos}
def yyP (i:Nat):TG:=fun v σ H Q=>Q (σ.set i (some v)) H
theorem yro {i:Nat}{x:Str}(hN:X.N.Nodup) (hi:X.N[i]?=some x) (hx:Loc X.env.scope x) (hf:X.fn x=true\/X.env.scope.names.lookup x=some .local:=by first|exact .inl rfl|exact .inr rfl|assumption):PG X (.Name x pos) (yyP i):=by
 intro pins s σ H v u Q I r h
 exact wpAny_assign_Name (yxK I hN hi hx r (fun s' I'=>⟨_,H,I',h⟩) hf)
def yNR (to ti:TE) (t:yMe):TG:=fun v σ H Q=>to σ H fun o H1=>ti σ H1 fun i H2=>t o i v H2 fun H3=>Q σ H3
theorem yJO {o i:Expr}{to ti:TE}{t:yMe}(ho:PE X o to) (hi:PE X i ti) (hs:yNQ X t)
  (ha:∀ v,assign (.Subscript o i pos) X.env v=(do
   let ov <- holding [v] (eval o X.env)
   let iv <- holding [v,ov] (eval i X.env)
   standAt pos
   holding [v,ov,iv] (setItem ov iv v)
   release [v,ov,iv] []):=by intro _;rfl):PG X (.Subscript o i pos) (yNR to ti t):=by
 intro pins s σ H v u Q I r h
 rw [ha]
 refine wpAny_bind (wpAny_holding (thn (ho pins s σ H _ I h) fun ov s1 ⟨x,H1,I1,r1,q1⟩=>?_))
 refine wpAny_bind (wpAny_holding (thn (hi pins s1 σ H1 _ I1 q1) fun iv s2 ⟨y,H2,I2,r2,q2⟩=>?_))
 refine wpAny_bind (wpAny_standAt (wpAny_bind (wpAny_holding (thn (hs pins s2 σ H2 x y v ov iv u _ I2 r1 r2 r q2) fun _ s3 ⟨H3,I3,q3⟩=>?_))))
 exact wpAny_release ⟨σ,H3,I3,q3⟩
def yJk (te:TE) (g:TG):TS:=fun D σ H=>te σ H fun x H1=>g x σ H1 D.nx
theorem yJP {tg e:Expr}{te:TE}{g:TG}(he:PE X e te) (hg:PG X tg g) (hs:swapsWithSole [tg] e pos.line X.env=pure false:=by rfl) (hw:swappedStores [tg] e X.env=pure none:=by rfl)
  (h1:(assignEach [tg] X.env).map (·.2)=[assign tg X.env]:=by rfl):PS X (.Assign [tg] e pos) (yJk te g):=by
 intro pins s σ H D I h
 refine wpAny_Assign_stores (thn (he pins s σ H _ I h) fun v s1 ⟨x,H1,I1,r1,q1⟩=>?_) hs hw
 rw [h1]
 exact thn (hg pins s1 σ H1 x v _ I1 r1 q1) fun _ s2 q=>q
theorem yFK {i:Nat}{x:Str}{e:Expr}{te:TE}{pos':Pos}(hN:X.N.Nodup) (hi:X.N[i]?=some x) (hx:Loc X.env.scope x) (he:PE X e te) (hs:swapsWith e (some (.Name x pos')) pos.line X.env=pure false:=by rfl) (hf:X.fn x=true\/X.env.scope.names.lookup x=some .local:=by first|exact .inl rfl|exact .inr rfl|assumption) :
  PS X (.Assign [.Name x pos'] e pos) (yJk te (yyP i)):=by
 intro pins s σ H D I h
 refine wpAny_Assign_Name (thn (he pins s σ H _ I h) fun v s1 ⟨y,H1,I1,r1,q1⟩=>?_) hs
 exact yxK I1 hN hi hx r1 (fun s2 I2=>⟨_,H1,I2,q1⟩) hf
end
section
variable {X:Cx}{pos:Pos}
noncomputable def yFL (c:TT) (tb:TS):TS:=fun D σ H=>∃ W:Nat->St->Hp->Prop,(∃ m,W m σ H)/\∀ m σ H,W m σ H ->
 c σ H fun b H1=>if b=true then ∃ N:St->Hp->Prop,(∀ σ' H',N σ' H'->∃ m',m'<m/\W m' σ' H')/\tb { D with nx:=N,ct:=N,bk:=D.nx } σ H1 else D.nx σ H1
theorem yDB {c:Expr}{body:List Stmt}{tc:TT}{tb:TS}(hp:PassesOwn (model X.prog X.w) X.A X.env X.xe) (hc:PT X c tc) (hb:PSs X body tb):PS X (.While c body [] pos) (yFL tc tb):=by
 intro pins s σ H D I h
 obtain ⟨W,⟨m0,w0⟩,turn⟩:=h
 refine wpAny_While (codeAny_whileLoop (fun n s'=>∃ σ' H',Inv X pins σ' H' s'/\W n σ' H') ?_ m0 ⟨σ,H,I,w0⟩)
 rintro n s1 ⟨σ1,H1,I1,w1⟩
 refine wpAny_passesOwn hp (thn (hc pins s1 σ1 H1 _ I1 (turn n σ1 H1 w1)) fun b s2 ⟨H2,I2,q2⟩=>?_)
 cases b with
 | true =>
  obtain ⟨N,hN,q2⟩:=q2
  rw [if_pos rfl]
  refine wpAny_passesOwn hp (thn (hb pins s2 σ1 H2 _ I2 q2) fun f s3 q3=>?_)
  cases f with
  | next =>
   obtain ⟨σ3,H3,I3,n3⟩:=q3
   obtain ⟨m',hm,w3⟩:=hN σ3 H3 n3
   exact ⟨m',hm,σ3,H3,I3,w3⟩
  | cont =>
   obtain ⟨σ3,H3,I3,n3⟩:=q3
   obtain ⟨m',hm,w3⟩:=hN σ3 H3 n3
   exact ⟨m',hm,σ3,H3,I3,w3⟩
  | brk=>exact q3
  | ret v=>exact q3
 | false =>
  rw [if_neg Bool.false_ne_true]
  exact wpAny_execs_nil ⟨σ1,H2,I2,q2⟩
end
structure It where
 go:Nat->Hp->Prop
 yld:Nat->Hp->V->Hp->Prop
 stop:Nat->Hp->Prop
noncomputable def yAh (X:Cx) (pins:List (Addr×Obj)) (H:Hp) (b:Addr):Prop :=
 H b=none/\b≠X.env.locals/\b∉X.fs/\(b∈X.ex\/X.s₀.heap.objs.size<=b)/\(∀ x c,X.env.cells.lookup x=some c->c≠b)/\∀ p∈X.pn++pins,p.1≠b
theorem Inv.fpOk {X:Cx}{pins:List (Addr×Obj)}{σ:St}{H H':Hp}{s:Shared}{b:Addr}(I:Inv X pins σ H s) (hb:s.heap.objs.size<=b) (hn:H' b=none):yAh X pins H' b:=by
 refine ⟨hn,Nat.ne_of_gt (lt_of_lt_of_le I.lt hb),I.nofs hb,.inr (Nat.le_trans I.sz hb),fun x c e z=>?_,fun p hp z=>?_⟩
 .obtain ⟨v,q⟩:=I.cell x c e
  exact absurd (lt_of_lt_of_le q.lt (by rw [z];exact hb)) (lt_irrefl _)
 .exact absurd (lt_of_lt_of_le (Heap.lt_size (I.pin p hp).1) (by rw [z];exact hb)) (lt_irrefl _)
structure Turn (P:Program) (w:World) (K:PySem.W.Frag) (tg:Expr) (J:It) (fp:List Addr) (it:Addr) (tn:Nat->Heap->Prop):Prop where
 mem:it∈fp
 obj:∀ i h,tn i h->∀ b∈fp,∃ o,h.get? b=some o/\∀ v,o.data≠.cell v
 keep:∀ i h h',tn i h->(∀ b∈fp,∀ o,h.get? b=some o->h'.get? b=some o)->tn i h'
 item:∀ (X:Cx),X.prog=P->X.w=w->X.K=K->X.calm=true->∀ (i:Nat) (pins:List (Addr×Obj)) (s:Shared) (σ:St) (H:Hp) (E:Value->Shared->Prop),Inv X pins σ H s->(∀ b∈fp,yAh X pins H b)->tn i s.heap->J.go i H ->
  wpAny (model P w) X.A (pyNext (.ref it)) (fun r s1=>∃ u,r=some u /\
   wpAny (model P w) X.A (letOwnedTupleGo tg (.ref it) u) (fun _ s2=>∃ x H',Inv X pins σ H' s2/\RelV x u/\J.yld i H x H'/\tn (i+1) s2.heap/\∀ b∈fp,H' b=none) E s1) E s
 done:∀ (X:Cx),X.prog=P->X.w=w->X.K=K->X.calm=true->∀ (i:Nat) (pins:List (Addr×Obj)) (s:Shared) (σ:St) (H:Hp) (E:Value->Shared->Prop),Inv X pins σ H s->(∀ b∈fp,yAh X pins H b)->tn i s.heap->J.stop i H ->
  wpAny (model P w) X.A (pyNext (.ref it)) (fun r s1=>r=none/\Inv X pins σ H s1) E s
 self:∀ (A:Around) (i:Nat) (s:Shared) (Q:Value->Shared->Prop) (E:Value->Shared->Prop),tn i s.heap->Q (.ref it) s->wpAny (model P w) A (pyIter (.ref it)) Q E s
abbrev TI:=St->Hp->(It->Hp->Prop)->Prop
def PIE (X:Cx) (pins:List (Addr×Obj)) (σ:St) (tg:Expr) (R:It->Hp->Prop) (itv:Value) (s2:Shared):Prop :=
 ∃ (it:Addr) (fp:List Addr) (tn:Nat->Heap->Prop) (J:It) (H':Hp),itv=.ref it/\Inv X pins σ H' s2/\Turn X.prog X.w X.K tg J fp it tn/\tn 0 s2.heap/\(∀ b∈fp,yAh X pins H' b)/\R J H'
def PI (X:Cx) (tg iter:Expr) (wi:TI):Prop :=
 ∀ (pins:List (Addr×Obj)) (s:Shared) (σ:St) (H:Hp) (R:It->Hp->Prop),Inv X pins σ H s->wi σ H R ->
  wpAny (model X.prog X.w) X.A (eval iter X.env) (fun v s1=>wpAny (model X.prog X.w) X.A (pyIter v) (PIE X pins σ tg R) X.xe s1) X.xe s
theorem yAi {M:Model}{A:Around}{E:Value->Shared->Prop}{s:Shared}{tg:Expr}{it:Addr}{u:Value}{o:Obj}{n:String}{vs:Array Value}{Q:Unit->Shared->Prop}(ho:s.heap.get? it=some o) (hc:o.cls=.type n) (hd:o.data=.fields vs)
    (hn:["enumerate","zip","dict_itemiterator","dict_reverseitemiterator","odict_iterator","itertools.zip_longest","itertools.pairwise"].contains n=false) (hQ:Q () s):wpAny M A (letOwnedTupleGo tg (.ref it) u) Q E s:=by
  unfold letOwnedTupleGo
  cases tg<;>first
    | exact wpAny_pure hQ
    | (cases u<;>first
        | exact wpAny_pure hQ
        | (refine wpAny_bind (wpAny_load ho ?_)
           rw [hc,hd]
           show wpAny M A (if (["enumerate","zip","dict_itemiterator","dict_reverseitemiterator","odict_iterator","itertools.zip_longest","itertools.pairwise"].contains n && vs[0]? == some (rawInt _))=true then _ else _) Q E s
           rw [if_neg (by intro h;rw [hn,Bool.false_and] at h;cases h)]
           exact wpAny_pure hQ))
def Itl (K:PySem.W.Frag) (a:Addr):It :=
 ⟨fun i H=>∃ xs x,SqL K H a xs/\xs[i]?=some x,fun i H x H'=>H'=H/\∀ xs,SqL K H a xs->xs[i]?=some x,fun i H=>∃ xs,SqL K H a xs/\xs.length<=i⟩
def Itr (lo:Int) (n:Nat):It:=⟨fun i _=>i<n,fun i H x H'=>H'=H/\x=.int (lo+i),fun i _=>n<=i⟩
theorem yAj {P:Program}{w:World}{K:PySem.W.Frag}{tg:Expr}(a it:Addr):Turn P w K tg (Itl K a) [it] it (fun i h=>h.IsListIter it a i) where
 mem:=by simp
 obj:=fun i h st b hb=>by
  have e:b=it:=by simpa using hb
  subst e
  obtain ⟨o,e,c,d⟩:=st
  exact ⟨o,e,fun v z=>by rw [d] at z;cases z⟩
 keep:=fun i h h' st k=>st.at fun o e=>k it (by simp) o e
 item:=by
  intro X hP hw hK hc i pins s σ H E I hf st hg
  subst hP hw hK
  obtain ⟨xs,x,hq,hx⟩:=hg
  obtain ⟨its,rv,p,hz⟩:=I.list hq
  obtain ⟨u,hu,ru⟩:=rv.get hx
  obtain ⟨f0,f1,f2,f3,f4,f5⟩:=hf it (by simp)
  refine wpAny_pyNext_list_item st p.isList (x:=u) (by simpa using hu) fun h' st' sb=>?_
  have I1:Inv X pins σ H { s with heap:=h' }:=I.turned (t':=s.toks) (fun b o hb e=>(sb.2 b hb).trans e) f0 f1 f3 f4 f5
  obtain ⟨o,e,c,d⟩:=id st'
  exact ⟨u,rfl,yAi (s:={ s with heap:=h' }) e c d (by decide) ⟨x,H,I1,ru,⟨rfl,fun ys hy=>by rw [I.list_inj hy hq];exact hx⟩,st',fun b hb=>(hf b hb).1⟩⟩
 done:=by
  intro X hP hw hK hc i pins s σ H E I hf st hg
  subst hP hw hK
  obtain ⟨xs,hq,hx⟩:=hg
  obtain ⟨its,rv,p,hz⟩:=I.list hq
  obtain ⟨f0,f1,f2,f3,f4,f5⟩:=hf it (by simp)
  have hl:=rv.length
  exact wpAny_pyNext_list_end (I.ok.hd hc) st p.isList (by simp;omega) fun h' eb=>⟨rfl,I.turned (t':=s.toks) (fun b o hb e=>eb b o hb e) f0 f1 f3 f4 f5⟩
 self:=fun _ _ _ _ _ st h=>wpAny_pyIter_listiter st h
theorem yyQ {P:Program}{w:World}{K:PySem.W.Frag}{tg:Expr}(it:Addr) (lo:Int) (n:Nat):Turn P w K tg (Itr lo n) [it] it (fun i h=>IsRangeIter h it (lo+(i:Nat)*1) ((n:Int)-(i:Nat)) 1) where
 mem:=by simp
 obj:=fun i h st b hb=>by
  have e:b=it:=by simpa using hb
  subst e
  exact ⟨_,st,fun v z=>by
   have z':Data.fields _=Data.cell v:=z
   cases z'⟩
 keep:=fun i h h' st k=>k it (by simp) _ st
 item:=by
  intro X hP hw hK hc i pins s σ H E I hf st hg
  subst hP hw hK
  obtain ⟨f0,f1,f2,f3,f4,f5⟩:=hf it (by simp)
  have W:=Walks.range (prog:=X.prog) (w:=X.w) (I.ok.hd hc) it lo 1 n
  refine W.item i s _ _ hg st fun v h' tk hv st' kk=>?_
  obtain ⟨t,rfl⟩:=hv
  have I1:Inv X pins σ H { s with heap:=h',toks:=tk }:=I.turned (fun b o hb e=>kk b o (by simpa using hb) e) f0 f1 f3 f4 f5
  refine ⟨_,rfl,yAi (s:={ s with heap:=h',toks:=tk }) (n:="range_iterator") st' rfl rfl (by decide) ⟨.int (lo+i),H,I1,⟨t,?_⟩,⟨rfl,rfl⟩,st',fun b hb=>(hf b hb).1⟩⟩
  rw [Int.mul_one]
 done:=by
  intro X hP hw hK hc i pins s σ H E I hf st hg
  subst hP hw hK
  obtain ⟨f0,f1,f2,f3,f4,f5⟩:=hf it (by simp)
  exact wpAny_pyNext_range_end (I.ok.hd hc) st (by have:n<=i:=hg;omega) fun h' eb=>⟨rfl,I.turned (t':=s.toks) (fun b o hb e=>eb b o hb e) f0 f1 f3 f4 f5⟩
 self:=fun _ _ _ _ _ st h=>wpAny_pyIter_rangeiter st h
end L2
namespace L2
open PySem PySem.Spec PyProof.Rows
section
variable {X:Cx}{tg:Expr}
def yJQ (K:PySem.W.Frag) (tl:TE):TI:=fun σ H R=>tl σ H fun x H1=>∃ a,x=.ref a/\(∃ xs,SqL K H1 a xs)/\R (Itl K a) H1
theorem yGY {l:Expr}{tl:TE}(hl:PE X l tl):PI X tg l (yJQ X.K tl):=by
 intro pins s σ H R I h
 refine thn (hl pins s σ H _ I h) fun v s1 ⟨x,H1,I1,r1,q1⟩=>?_
 obtain ⟨a,e,⟨xs,hq⟩,q⟩:=q1
 subst e
 cases r1
 obtain ⟨its,rv,p,hz⟩:=I1.list hq
 refine wpAny_pyIter_list p.isList ?_
 refine ⟨s1.heap.objs.size,[s1.heap.objs.size],_,_,H1,rfl,I1.kept (t':=s1.toks) fun b o e=>Heap.get?_push_of_some _ e,yAj a _,⟨_,Heap.get?_push_size _ rfl,rfl,rfl⟩,fun b hb=>?_,q⟩
 have e:b=s1.heap.objs.size:=by simpa using hb
 subst e
 exact I1.fpOk (Nat.le_refl _) (I1.hok.fresh (Nat.le_refl _))
theorem yDC {pins:List (Addr×Obj)}{σ:St}{H:Hp}{s:Shared}{R:It->Hp->Prop}{E:Value->Shared->Prop}{lo hi:Int}{t u v:Tok}{tk:Nat}(I:Inv X pins σ H s) (h1:-(2 ^ 62)<=lo) (h2:lo<2 ^ 62) (h3:-(2 ^ 62)<=hi) (h4:hi<2 ^ 62)
  (q:R (Itr lo (hi-lo).toNat) H):wpAny (model X.prog X.w) X.A (pyIter (.ref s.heap.objs.size)) (PIE X pins σ tg R) E { s with heap:=s.heap.push { cls:=.type "range",data:=.fields #[.int lo t,.int hi u,.int 1 v] },toks:=tk }:=by
 refine wpAny_pyIter_range (IsRange.new ..) (small_one h1 h2 h3 h4) ?_
 have I1:Inv X pins σ H { s with heap:=s.heap.push { cls:=.type "range",data:=.fields #[.int lo t,.int hi u,.int 1 v] },toks:=tk }:=I.kept fun b o e=>Heap.get?_push_of_some _ e
 refine ⟨(s.heap.push { cls:=.type "range",data:=.fields #[.int lo t,.int hi u,.int 1 v] }).objs.size,[(s.heap.push { cls:=.type "range",data:=.fields #[.int lo t,.int hi u,.int 1 v] }).objs.size],_,_,H,rfl,
  I1.kept (t':=tk) fun b o e=>Heap.get?_push_of_some _ e,yyQ _ lo (hi-lo).toNat,?_,fun b hb=>?_,q⟩
 .have e1:lo+((0:Nat):Int)*1=lo:=by simp
  have e2:(((hi-lo).toNat:Nat):Int)-((0:Nat):Int)=Builtin.Range.rangeSize lo hi 1:=by rw [rangeSize_one];split<;>omega
  show IsRangeIter _ _ (lo+((0:Nat):Int)*1) ((((hi-lo).toNat:Nat):Int)-((0:Nat):Int)) 1
  rw [e1,e2]
  exact Heap.get?_push_size _ rfl
 .have e:b=(s.heap.push { cls:=.type "range",data:=.fields #[.int lo t,.int hi u,.int 1 v] }).objs.size:=by simpa using hb
  subst e
  exact I1.fpOk (Nat.le_refl _) (I1.hok.fresh (Nat.le_refl _))
def yJR (ta:TA):TI:=fun σ H R=>ta σ H fun vs H1=>∃ j:Int,vs=[.int j]/\-(2 ^ 62)<=j/\j<2 ^ 62/\R (Itr 0 j.toNat) H1
theorem yAk {a:Expr}{ta:TA}{p pos:Pos}(hg:Gl X "range") (hm:X.mg "range" = none) (ha:PA X [a] ta) (hs:starEach [a] X.env=[(false,eval a X.env)]:=by rfl):PI X tg (.Call (.Name "range" p) [a] [] pos) (yJR ta):=by
 intro pins s σ H R I h
 refine Call_ (ynM I hg hm boot_range (PyProof.Rows.callWith_type1 (thn (ha pos pins s σ H _ I h) fun us s1 ⟨vs,H1,I1,r1,q1⟩=>?_) hs rfl))
 obtain ⟨j,e,q1,q2,q⟩:=q1
 subst e
 cases r1 with
 | cons r rr =>
  cases rr
  obtain ⟨t,rfl⟩:=r
  exact call_range_1 (yDC I1 (by omega) (by omega) q1 q2 (by simpa using q))
noncomputable def yMf (wi:TI) (g:TG) (tb:TS):TS:=fun D σ H=>wi σ H fun J H1=>∃ W:Nat->Nat->St->Hp->Prop,(∃ m,W 0 m σ H1)/\∀ i m σ H,W i m σ H ->
 (J.stop i H/\D.nx σ H)\/(J.go i H/\∃ N:St->Hp->Prop,(∀ σ' H',N σ' H'->∃ m',m'<m/\W (i+1) m' σ' H')/\∀ x H',J.yld i H x H'->g x σ H' fun σ2 H2=>tb { D with nx:=N,ct:=N,bk:=D.nx } σ2 H2)
def yxM (fp:List Addr) (h:Heap):List (Addr×Obj):=fp.filterMap fun b=>(h.get? b).map fun o=>(b,o)
theorem ydE {fp:List Addr}{h:Heap}{b:Addr}{o:Obj}(hb:b∈fp) (e:h.get? b=some o):(b,o)∈yxM fp h:=List.mem_filterMap.mpr ⟨b,hb,by rw [e];rfl⟩
theorem yAl {fp:List Addr}{h:Heap}{p:Addr×Obj}(hp:p∈yxM fp h):p.1∈fp/\h.get? p.1=some p.2:=by
 obtain ⟨b,hb,e⟩:=List.mem_filterMap.mp hp
 cases q:h.get? b with
 | none=>rw [q] at e;cases e
 | some o =>
  rw [q] at e
  have e':(b,o)=p:=Option.some.inj e
  subst e'
  exact ⟨hb,q⟩
theorem Inv.pinned {pins:List (Addr×Obj)}{σ:St}{H:Hp}{s:Shared}{fp:List Addr}(I:Inv X pins σ H s) (hf:∀ b∈fp,yAh X pins H b) (ho:∀ b∈fp,∃ o,s.heap.get? b=some o/\∀ v,o.data≠.cell v):Inv X (pins++yxM fp s.heap) σ H s :=
 I.pins_of fun p hp=>(List.mem_append.mp hp).elim (fun z=>I.pin p (mem_append_right _ z)) fun z=>by
  obtain ⟨hb,e⟩:=yAl z
  obtain ⟨f0,f1,f2,_⟩:=hf p.1 hb
  obtain ⟨o,e',d⟩:=ho p.1 hb
  rw [e] at e';cases e'
  exact ⟨e,f0,f1,f2,d⟩
theorem Inv.unpinned {pins pl:List (Addr×Obj)}{σ:St}{H:Hp}{s:Shared}(I:Inv X (pins++pl) σ H s):Inv X pins σ H s:=I.pins_of fun p hp=>I.pin p (mem_append_right _ (mem_append_left _ hp))
theorem yFM {iter:Expr}{body:List Stmt}{wi:TI}{g:TG}{tb:TS}{pos:Pos}(hp:PassesOwn (model X.prog X.w) X.A X.env X.xe) (hc:X.calm=true) (hi:PI X tg iter wi) (hg:PG X tg g) (hb:PSs X body tb)
  (hs:∀ x,foldedSetIterable iter X.env x=pure x:=by intro _;rfl):PS X (.For tg iter body [] pos) (yMf wi g tb):=by
 intro pins s σ H D I h
 refine wpAny_For (thn (hi pins s σ H _ I h) fun v s1 h1=>thn h1 fun itv s2 h2=>?_) hs
 obtain ⟨it,fp,tn,J,H2,e,I2,T,st2,f2,W,⟨m0,w0⟩,turn⟩:=h2
 subst e
 have stat:∀ {H':Hp},(∀ b∈fp,H' b=none)->∀ b∈fp,yAh X pins H' b:=fun hn b hb=>⟨hn b hb,(f2 b hb).2⟩
 refine codeAny_forLoop_any (fun n s'=>∃ i σ' H',Inv X pins σ' H' s'/\tn i s'.heap/\(∀ b∈fp,H' b=none)/\W i n σ' H') ?_ m0 ⟨0,σ,H2,I2,st2,fun b hb=>(f2 b hb).1,w0⟩
 rintro n s3 ⟨i,σ3,H3,I3,st3,fr3,w3⟩
 rcases turn i n σ3 H3 w3 with ⟨stop,qn⟩|⟨go,N,hN,step⟩
 .refine wpAny_passesOwn hp (thn (T.done X rfl rfl rfl hc i pins s3 σ3 H3 X.xe I3 (stat fr3) st3 stop) fun r s4 ⟨hr,I4⟩=>?_)
  subst hr
  exact wpAny_execs_nil ⟨σ3,H3,I4,qn⟩
 .refine wpAny_passesOwn hp (thn (T.item X rfl rfl rfl hc i pins s3 σ3 H3 X.xe I3 (stat fr3) st3 go) fun r s4 ⟨u,hr,h4⟩=>?_)
  subst hr
  refine wpAny_passesOwn hp (thn h4 fun _ s5 ⟨x,H5,I5,r5,y5,st5,fr5⟩=>?_)
  have I5':=I5.pinned (stat fr5) (T.obj _ _ st5)
  refine wpAny_passesOwn hp (thn (hg _ s5 σ3 H5 x u _ I5' r5 (step x H5 y5)) fun _ s6 ⟨σ6,H6,I6,q6⟩=>?_)
  refine wpAny_passesOwn hp (thn (hb _ s6 σ6 H6 _ I6 q6) fun f s7 q7=>?_)
  have again:∀ {σ7:St}{H7:Hp},Inv X (pins++yxM fp s5.heap) σ7 H7 s7->N σ7 H7->∃ m,m<n/\∃ i σ' H',Inv X pins σ' H' s7/\tn i s7.heap/\(∀ b∈fp,H' b=none)/\W i m σ' H':=fun {σ7 H7} I7 n7=>by
   obtain ⟨m',hm,w7⟩:=hN σ7 H7 n7
   refine ⟨m',hm,i+1,σ7,H7,I7.unpinned,T.keep _ _ _ st5 fun b hb o e=>(I7.pin (b,o) (mem_append_right _ (mem_append_right _ (ydE hb e)))).1,fun b hb=>?_,w7⟩
   obtain ⟨o,e,d⟩:=T.obj _ _ st5 b hb
   exact (I7.pin (b,o) (mem_append_right _ (mem_append_right _ (ydE hb e)))).2.1
  cases f with
  | next=>obtain ⟨σ7,H7,I7,n7⟩:=q7;exact again I7 n7
  | cont=>obtain ⟨σ7,H7,I7,n7⟩:=q7;exact again I7 n7
  | brk=>obtain ⟨σ7,H7,I7,q7⟩:=q7;exact ⟨σ7,H7,I7.unpinned,q7⟩
  | ret v=>obtain ⟨x7,σ7,H7,I7,r7,q7⟩:=q7;exact ⟨x7,σ7,H7,I7.unpinned,r7,q7⟩
end
end L2
namespace L2
open PySem PySem.Spec PyProof.Rows
abbrev R2:=V->V->Hp->VK->Prop
def OpR (X:Cx) (f:Value->Value->Sem Value) (r:R2):Prop :=
 ∀ (pins:List (Addr×Obj)) (s:Shared) (σ:St) (H:Hp) (x y:V) (v u:Value) (Q:VK),Inv X pins σ H s->RelV x v->RelV y u->r x y H Q ->
  wpAny (model X.prog X.w) X.A (f v u) (EP X pins σ Q) X.xe s
def UnR (X:Cx) (f:Value->Sem Value) (r:V->Hp->VK->Prop):Prop :=
 ∀ (pins:List (Addr×Obj)) (s:Shared) (σ:St) (H:Hp) (x:V) (v:Value) (Q:VK),Inv X pins σ H s->RelV x v->r x H Q ->
  wpAny (model X.prog X.w) X.A (f v) (EP X pins σ Q) X.xe s
def yjs (X:Cx) (f:Value) (r:List V->Hp->VK->Prop):Prop :=
 ∀ (pins:List (Addr×Obj)) (s:Shared) (σ:St) (H:Hp) (xs:List V) (us:List Value) (Q:VK),Inv X pins σ H s->Vals xs us->r xs H Q ->
  wpAny (model X.prog X.w) X.A (call f us) (EP X pins σ Q) X.xe s
def tOp (r:R2) (ta tb:TE):TE:=fun σ H Q=>ta σ H fun x H1=>tb σ H1 fun y H2=>r x y H2 Q
def tUn (r:V->Hp->VK->Prop) (ta:TE):TE:=fun σ H Q=>ta σ H fun x H1=>r x H1 Q
def rI (C:Int->Int->Prop) (g:Int->Int->V):R2:=fun x y H Q=>∃ i j,x=.int i/\y=.int j/\C i j/\Q (g i j) H
def rI0 (g:Int->Int->V):R2:=fun x y H Q=>∃ i j,x=.int i/\y=.int j/\Q (g i j) H
def rU (g:Int->V):V->Hp->VK->Prop:=fun x H Q=>∃ i,x=.int i/\Q (g i) H
section
variable {X:Cx}{a b c:Expr}{ta tb tc:TE}{pos:Pos}
theorem yMg (ha:PE X a ta) (hb:PE X b tb) {pins:List (Addr×Obj)}{s:Shared}{σ:St}{H:Hp}{R:V->V->Hp->Prop}(I:Inv X pins σ H s)
  (h:ta σ H fun x H1=>tb σ H1 fun y H2=>R x y H2) {Q:Value->Shared->Prop}{f:Value->Value->Sem Value}
  (hf:∀ v u s2 x y H2,Inv X pins σ H2 s2->RelV x v->RelV y u->R x y H2->wpAny (model X.prog X.w) X.A (f v u) Q X.xe s2) :
  wpAny (model X.prog X.w) X.A (eval a X.env) (fun v s₁=>wpAny (model X.prog X.w) X.A (eval b X.env) (fun u s₂=>wpAny (model X.prog X.w) X.A (f v u) Q X.xe s₂) X.xe s₁) X.xe s:=by
 refine thn (ha pins s σ H _ I h) fun v s1 ⟨x,H1,I1,r1,q1⟩=>?_
 refine thn (hb pins s1 σ H1 _ I1 q1) fun u s2 ⟨y,H2,I2,r2,q2⟩=>?_
 exact hf v u s2 x y H2 I2 r1 r2 q2
theorem yJS {op:Operator}{r:R2}(ho:OpR X (binaryOp op) r) (ha:PE X a ta) (hb:PE X b tb):PE X (.BinOp a op b pos) (tOp r ta tb):=by
 intro pins s σ H Q I h
 exact wpAny_BinOp (yMg ha hb I h fun v u s2 x y H2 I2 rx ry q=>ho pins s2 σ H2 x y v u Q I2 rx ry q)
theorem yMh {op:UnaryOp}{r:V->Hp->VK->Prop}(ho:UnR X (unaryOp op) r) (ha:PE X a ta):PE X (.UnaryOp op a pos) (tUn r ta):=by
 intro pins s σ H Q I h
 exact UnaryOp_ (thn (ha pins s σ H _ I h) fun v s1 ⟨x,H1,I1,r1,q1⟩=>ho pins s1 σ H1 x v Q I1 r1 q1)
theorem opI {f:Value->Value->Sem Value}{C:Int->Int->Prop}{g:Int->Int->Int}
  (rule:∀ (i j:Int) (t u:Tok) (s:Shared) (Q:Value->Shared->Prop) (E:Value->Shared->Prop),C i j->Q (.int (g i j) s.toks) { s with toks:=s.toks+1 }->wpAny (model X.prog X.w) X.A (f (.int i t) (.int j u)) Q E s) :
  OpR X f (rI C fun i j=>.int (g i j)):=by
 intro pins s σ H x y v u Q I rx ry h
 obtain ⟨i,j,rfl,rfl,hc,q⟩:=h
 obtain ⟨t,rfl⟩:=rx
 obtain ⟨t',rfl⟩:=ry
 exact rule i j t t' s _ _ hc ⟨.int (g i j),H,I.tok _,⟨_,rfl⟩,q⟩
theorem yNS {f:Value->Value->Sem Value}{g:Int->Int->Int}
  (rule:∀ (i j:Int) (t u:Tok) (s:Shared) (Q:Value->Shared->Prop) (E:Value->Shared->Prop),Q (.int (g i j) s.toks) { s with toks:=s.toks+1 }->wpAny (model X.prog X.w) X.A (f (.int i t) (.int j u)) Q E s) :
  OpR X f (rI0 fun i j=>.int (g i j)):=by
 intro pins s σ H x y v u Q I rx ry h
 obtain ⟨i,j,rfl,rfl,q⟩:=h
 obtain ⟨t,rfl⟩:=rx
 obtain ⟨t',rfl⟩:=ry
 exact rule i j t t' s _ _ ⟨.int (g i j),H,I.tok _,⟨_,rfl⟩,q⟩
theorem yMi {f:Value->Value->Sem Value}{g:Int->Int->Bool}
  (rule:∀ (i j:Int) (t u:Tok) (s:Shared) (Q:Value->Shared->Prop) (E:Value->Shared->Prop),Q (.bool (g i j)) s->wpAny (model X.prog X.w) X.A (f (.int i t) (.int j u)) Q E s) :
  OpR X f (rI0 fun i j=>.bl (g i j)):=by
 intro pins s σ H x y v u Q I rx ry h
 obtain ⟨i,j,rfl,rfl,q⟩:=h
 obtain ⟨t,rfl⟩:=rx
 obtain ⟨t',rfl⟩:=ry
 exact rule i j t t' s _ _ ⟨.bl (g i j),H,I,rfl,q⟩
def yNT (i j:Int):Prop:=0<j/\j<1073741824
def yMj (i j:Int):Prop:=0<=j/\j<=1000000/\i.natAbs<2 ^ 64
def CMul (i j:Int):Prop:=(-(2 ^ 64)<i/\i<2 ^ 64)\/(-(2 ^ 64)<j/\j<2 ^ 64)
theorem CMul.ok {i j:Int}(h:CMul i j):IntMulOk i j:=by
 rcases h with ⟨h1,h2⟩|⟨h1,h2⟩
 .exact .of_left (intBits_le_64 h1 h2)
 .exact .of_right (intBits_le_64 h1 h2)
theorem ybF:OpR X (binaryOp .Add) (rI0 fun i j=>.int (i+j)):=yNS fun _ _ _ _ _ _ _ q=>add_int q
theorem yqE:OpR X (binaryOp .Sub) (rI0 fun i j=>.int (i-j)):=yNS fun _ _ _ _ _ _ _ q=>sub_int q
theorem ynN:OpR X (binaryOp .Mult) (rI CMul fun i j=>.int (i*j)):=opI fun _ _ _ _ _ _ _ hc q=>mul_int q hc.ok
theorem ybf:OpR X (binaryOp .FloorDiv) (rI yNT fun i j=>.int (i/j)):=opI fun i j _ _ _ _ _ hc q=>by
 have h1:(0:Int)<j:=hc.1
 have h2:j<1073741824:=hc.2
 exact floordiv_int (by omega) (by rw [Int.fdiv_eq_ediv_of_nonneg i (by omega)];exact q) (.inl (PyProof.noPylong_small (by omega)))
theorem yZ:OpR X (binaryOp .Mod) (rI (fun _ j=>0<j) fun i j=>.int (i%j)):=opI fun i j _ _ _ _ _ hc q=>by
 have h1:(0:Int)<j:=hc
 exact mod_int' (by omega) (by rw [Int.fmod_eq_emod_of_nonneg i (by omega)];exact q)
theorem yxN:OpR X (binaryOp .Pow) (rI yMj fun i j=>.int (i ^ j.toNat)):=opI fun _ _ _ _ _ _ _ hc q=>pow_int_small hc.1 hc.2.1 hc.2.2 q
theorem unI {f:Value->Sem Value}{g:Int->Int}
  (rule:∀ (i:Int) (t:Tok) (s:Shared) (Q:Value->Shared->Prop) (E:Value->Shared->Prop),Q (.int (g i) s.toks) { s with toks:=s.toks+1 }->wpAny (model X.prog X.w) X.A (f (.int i t)) Q E s) :
  UnR X f (rU fun i=>.int (g i)):=by
 intro pins s σ H x v Q I rx h
 obtain ⟨i,rfl,q⟩:=h
 obtain ⟨t,rfl⟩:=rx
 exact rule i t s _ _ ⟨.int (g i),H,I.tok _,⟨_,rfl⟩,q⟩
theorem yqF:UnR X (unaryOp .USub) (rU fun i=>.int (-i)):=unI fun _ _ _ _ _ q=>neg_int q
end
noncomputable def yGZ:V->V->Bool
 | .non,.non=>true|.non,.int _=>true|.int _,.non=>true|.non,.bl _=>true|.bl _,.non=>true|.non,.str _=>true|.str _,.non=>true
 | .int _,.int _=>true|.bl _,.bl _=>true|.str _,.str _=>true|.byt _,.byt _=>true
 | .int _,.str _=>true|.str _,.int _=>true|.bl _,.str _=>true|.str _,.bl _=>true
 | _,_=>false
def rEq:R2:=fun x y H Q=>yGZ x y=true/\Q (.bl (decide (x=y))) H
def rNe:R2:=fun x y H Q=>yGZ x y=true/\Q (.bl (!decide (x=y))) H
theorem yAm {i j:Int}:decide (V.int i=V.int j)=(i == j):=by
 rw [Bool.eq_iff_iff]
 simp
theorem yFN {i j:Bool}:decide (V.bl i=V.bl j)=(i == j):=by
 rw [Bool.eq_iff_iff]
 simp
theorem yAn {i j:Str}:decide (V.str i=V.str j)=(i == j):=by
 rw [Bool.eq_iff_iff]
 simp
theorem yAo {i j:Array UInt8}:decide (V.byt i=V.byt j)=(i.toList == j.toList):=by
 rw [Bool.eq_iff_iff]
 cases i
 cases j
 simp
section
variable {X:Cx}{a b c:Expr}{ta tb tc:TE}{pos:Pos}
theorem ybG {pins:List (Addr×Obj)}{σ:St}{H:Hp}{s:Shared}{Q:VK}{k k':Bool}(I:Inv X pins σ H s) (q:Q (.bl k) H) (e:k=k'):EP X pins σ Q (.bool k') s:=by
 subst e
 exact ⟨.bl k,H,I,rfl,q⟩
theorem ybz:OpR X (compareOp .Eq) rEq:=by
 intro pins s σ H x y v u Q I rx ry h
 obtain ⟨hs,q⟩:=h
 cases x with
 | non =>
  cases rx
  cases y with
  | non=>cases ry;exact PySem.EqNone.eq_none_none (ybG I q (by simp))
  | bl j=>cases ry;exact PySem.EqNone.eq_none_bool (ybG I q (by simp))
  | int j=>obtain ⟨t',rfl⟩:=ry;exact PySem.EqNone.eq_none_int (ybG I q (by simp))
  | str j=>obtain ⟨t',rfl⟩:=ry;exact PySem.EqNone.eq_none_str (ybG I q (by simp))
  | _=>exact absurd (show false=true from hs) Bool.false_ne_true
 | bl i =>
  cases rx
  cases y with
  | non=>cases ry;exact PySem.EqNone.eq_bool_none (ybG I q (by simp))
  | bl j=>cases ry;exact eq_bool (ybG I q yFN)
  | str j=>obtain ⟨t',rfl⟩:=ry;exact PySem.EqMixed.eq_bool_str (ybG I q (by simp))
  | _=>exact absurd (show false=true from hs) Bool.false_ne_true
 | int i =>
  obtain ⟨t,rfl⟩:=rx
  cases y with
  | non=>cases ry;exact PySem.EqNone.eq_int_none (ybG I q (by simp))
  | int j=>obtain ⟨t',rfl⟩:=ry;exact eq_int (ybG I q yAm)
  | str j=>obtain ⟨t',rfl⟩:=ry;exact PySem.EqMixed.eq_int_str (ybG I q (by simp))
  | _=>exact absurd (show false=true from hs) Bool.false_ne_true
 | str i =>
  obtain ⟨t,rfl⟩:=rx
  cases y with
  | non=>cases ry;exact PySem.EqNone.eq_str_none (ybG I q (by simp))
  | bl j=>cases ry;exact PySem.EqMixed.eq_str_bool (ybG I q (by simp))
  | int j=>obtain ⟨t',rfl⟩:=ry;exact PySem.EqMixed.eq_str_int (ybG I q (by simp))
  | str j=>obtain ⟨t',rfl⟩:=ry;exact eq_str (ybG I q yAn)
  | _=>exact absurd (show false=true from hs) Bool.false_ne_true
 | byt i =>
  obtain ⟨t,rfl⟩:=rx
  cases y with
  | byt j=>obtain ⟨t',rfl⟩:=ry;exact PySem.W.eq_bytes (ybG I q yAo)
  | _=>exact absurd (show false=true from hs) Bool.false_ne_true
 | _=>cases y<;>exact absurd (show false=true from hs) Bool.false_ne_true
theorem yJT:OpR X (compareOp .NotEq) rNe:=by
 intro pins s σ H x y v u Q I rx ry h
 obtain ⟨hs,q⟩:=h
 cases x with
 | non =>
  cases rx
  cases y with
  | non=>cases ry;exact PySem.EqNone.ne_none_none (ybG I q (by simp))
  | bl j=>cases ry;exact PySem.EqNone.ne_none_bool (ybG I q (by simp))
  | int j=>obtain ⟨t',rfl⟩:=ry;exact PySem.EqNone.ne_none_int (ybG I q (by simp))
  | str j=>obtain ⟨t',rfl⟩:=ry;exact PySem.EqNone.ne_none_str (ybG I q (by simp))
  | _=>exact absurd (show false=true from hs) Bool.false_ne_true
 | bl i =>
  cases rx
  cases y with
  | non=>cases ry;exact PySem.EqNone.ne_bool_none (ybG I q (by simp))
  | bl j=>cases ry;exact ne_bool (ybG I q (congrArg not yFN))
  | str j=>obtain ⟨t',rfl⟩:=ry;exact PySem.EqMixed.ne_bool_str (ybG I q (by simp))
  | _=>exact absurd (show false=true from hs) Bool.false_ne_true
 | int i =>
  obtain ⟨t,rfl⟩:=rx
  cases y with
  | non=>cases ry;exact PySem.EqNone.ne_int_none (ybG I q (by simp))
  | int j=>obtain ⟨t',rfl⟩:=ry;exact ne_int (ybG I q (congrArg not yAm))
  | str j=>obtain ⟨t',rfl⟩:=ry;exact PySem.EqMixed.ne_int_str (ybG I q (by simp))
  | _=>exact absurd (show false=true from hs) Bool.false_ne_true
 | str i =>
  obtain ⟨t,rfl⟩:=rx
  cases y with
  | non=>cases ry;exact PySem.EqNone.ne_str_none (ybG I q (by simp))
  | bl j=>cases ry;exact PySem.EqMixed.ne_str_bool (ybG I q (by simp))
  | int j=>obtain ⟨t',rfl⟩:=ry;exact PySem.EqMixed.ne_str_int (ybG I q (by simp))
  | str j=>obtain ⟨t',rfl⟩:=ry;exact ne_str (ybG I q (congrArg not yAn))
  | _=>exact absurd (show false=true from hs) Bool.false_ne_true
 | byt i =>
  obtain ⟨t,rfl⟩:=rx
  cases y with
  | byt j=>obtain ⟨t',rfl⟩:=ry;exact PySem.W.ne_bytes (ybG I q (congrArg not yAo))
  | _=>exact absurd (show false=true from hs) Bool.false_ne_true
 | _=>cases y<;>exact absurd (show false=true from hs) Bool.false_ne_true
theorem yqc:OpR X (compareOp .Lt) (rI0 fun i j=>.bl (decide (i<j))):=yMi fun _ _ _ _ _ _ _ q=>lt_int q
theorem yMk:OpR X (compareOp .LtE) (rI0 fun i j=>.bl (decide (i<=j))):=yMi fun _ _ _ _ _ _ _ q=>le_int q
theorem yMl:OpR X (compareOp .Gt) (rI0 fun i j=>.bl (decide (j<i))):=yMi fun _ _ _ _ _ _ _ q=>gt_int q
theorem yFO:OpR X (compareOp .Is) (fun x y H Q=>y=.non/\Q (.bl (decide (x=.non))) H):=by
 intro pins s σ H x y v u Q I rx ry h
 obtain ⟨rfl,q⟩:=h
 cases ry
 refine is_none_gen (ybG I q ?_)
 cases x<;>first
  | (cases rx;rfl)
  | (obtain ⟨t,rfl⟩:=rx;rfl)
theorem yD (b:Expr) {op:CmpOp}(h:op≠.In:=by decide) (h2:op≠.NotIn:=by decide):behindInMarks op b=false:=by
 have e1:(op == CmpOp.In)=false:=by cases op<;>first|rfl|exact absurd rfl h
 have e2:(op == CmpOp.NotIn)=false:=by cases op<;>first|rfl|exact absurd rfl h2
 cases b<;>simp [behindInMarks,e1,e2]
theorem yHa {op:CmpOp}{r:R2}(ho:OpR X (compareOp op) r) (ha:PE X a ta) (hb:PE X b tb) (hm:behindInMarks op b=false):PE X (.Compare a [op] [b] pos) (tOp r ta tb):=by
 intro pins s σ H Q I h
 exact wpAny_Compare1 (yMg ha hb I h fun v u s2 x y H2 I2 rx ry q=>ho pins s2 σ H2 x y v u Q I2 rx ry q) hm
def yHb (t:TE):TT:=fun σ H Q=>t σ H fun x H'=>∃ k,x=.bl k/\Q k H'
theorem yHc {op:CmpOp}{r:R2}(ho:OpR X (compareOp op) r) (ha:PE X a ta) (hb:PE X b tb) (hm:behindInMarks op b=false):PT X (.Compare a [op] [b] pos) (yHb (tOp r ta tb)):=by
 intro pins s σ H Q I h
 refine wpAny_isTrue_Compare1 (thn (ha pins s σ H _ I h) fun v s1 ⟨x,H1,I1,r1,q1⟩=>thn (hb pins s1 σ H1 _ I1 q1) fun u s2 ⟨y,H2,I2,r2,q2⟩ =>
  thn (ho pins s2 σ H2 x y v u _ I2 r1 r2 q2) fun c s3 ⟨z,H3,I3,r3,k,e,q3⟩=>?_) hm
 subst e
 cases r3
 exact wpAny_truthy_bool ⟨H3,I3,q3⟩
noncomputable def yFP (r r':R2) (ta tb tc:TE):TE:=fun σ H Q=>ta σ H fun x H1=>tb σ H1 fun y H2=>r x y H2 fun z H3=>∃ k,z=.bl k /\
 (if k=true then tc σ H3 fun w' H4=>r' y w' H4 Q else Q (.bl false) H3)
theorem yDD {op op':CmpOp}{r r':R2}(ho:OpR X (compareOp op) r) (ho':OpR X (compareOp op') r') (ha:PE X a ta) (hb:PE X b tb) (hc:PE X c tc)
  (hm:lastMarks [op,op'] [b,c]=false:=by with_unfolding_all rfl):PT X (.Compare a [op,op'] [b,c] pos) (yHb (yFP r r' ta tb tc)):=by
 intro pins s σ H Q I h
 refine isTrue_chain (thn (ha pins s σ H _ I h) fun v s1 ⟨x,H1,I1,r1,q1⟩=>test_link (thn (hb pins s1 σ H1 _ I1 q1) fun u s2 ⟨y,H2,I2,r2,q2⟩ =>
  thn (ho pins s2 σ H2 x y v u _ I2 r1 r2 q2) fun d s3 ⟨z,H3,I3,r3,k,e,q3⟩=>?_)) hm
 subst e
 cases r3
 refine wpAny_truthy_bool ?_
 cases k with
 | false =>
  obtain ⟨k',e',q'⟩:=q3
  cases e'
  exact ite_ff ⟨H3,I3,q'⟩
 | true =>
  refine ite_tt (test_last (thn (hc pins s3 σ H3 _ I3 q3) fun w' s4 ⟨z',H4,I4,r4,q4⟩=>thn (ho' pins s4 σ H4 y z' u w' _ I4 r2 r4 q4) fun d' s5 ⟨z2,H5,I5,r5,k2,e2,q5⟩=>?_))
  subst e2
  cases r5
  exact wpAny_truthy_bool ⟨H5,I5,q5⟩
theorem yqG:(sizeLine:Nat)<2 ^ 63:=by rw [sizeLine_eq];decide
theorem yyR:OpR X (binaryOp .Add) (fun x y H Q=>∃ i j,x=.str i/\y=.str j/\i.length+j.length<=sizeLine/\Q (.str (i++j)) H):=by
 intro pins s σ H x y v u Q I rx ry h
 obtain ⟨i,j,rfl,rfl,hz,q⟩:=h
 obtain ⟨t,rfl⟩:=rx
 obtain ⟨t',rfl⟩:=ry
 exact add_str (fun t' tk=>⟨.str (i++j),H,I.tok _,⟨_,rfl⟩,q⟩) hz
theorem vals1 {x:V}{us:List Value}(r:Vals [x] us):∃ u,us=[u]/\RelV x u:=by
 cases r with
 | cons r1 r2=>cases r2;exact ⟨_,rfl,r1⟩
theorem vals2 {x y:V}{us:List Value}(r:Vals [x,y] us):∃ u w',us=[u,w']/\RelV x u/\RelV y w':=by
 cases r with
 | cons r1 r2 =>
  cases r2 with
  | cons r3 r4=>cases r4;exact ⟨_,_,rfl,r1,r3⟩
theorem yAp (hc:X.calm=true):yjs X (.builtin "max") (fun xs H Q=>∃ i j,xs=[.int i,.int j]/\Q (.int (if j>i then j else i)) H):=by
 intro pins s σ H xs us Q I r h
 obtain ⟨i,j,rfl,q⟩:=h
 obtain ⟨u,w',rfl,⟨t,rfl⟩,⟨t',rfl⟩⟩:=vals2 r
 refine max_two_ints (I.ok.hd hc) fun h' tk k=>⟨_,H,I.kept k,?_,q⟩
 by_cases hj:j>i
 .rw [if_pos hj,if_pos hj];exact ⟨_,rfl⟩
 .rw [if_neg hj,if_neg hj];exact ⟨_,rfl⟩
theorem ytg:yjs X (.type "int") (fun xs H Q=>(∃ i,xs=[.int i]/\Q (.int i) H)\/∃ k,xs=[.bl k]/\Q (.int (if k then 1 else 0)) H):=by
 intro pins s σ H xs us Q I r h
 rcases h with ⟨i,rfl,q⟩|⟨k,rfl,q⟩
 .obtain ⟨u,rfl,t,rfl⟩:=vals1 r
  exact call_int_int ⟨.int i,H,I,⟨_,rfl⟩,q⟩
 .obtain ⟨u,rfl,r1⟩:=vals1 r
  cases r1
  exact call_int_bool ⟨.int (if k then 1 else 0),H,I.tok _,⟨_,rfl⟩,q⟩
end
end L2
namespace L2
open PySem PySem.Spec PyProof.Rows
structure ObjM (h:Heap) (x dx C:Addr) (mA:Str->Option Value):Prop where
 obj:h.get? x=some (instObj C dx)
 ns:h.Ns1 dx mA
 ne:dx≠x
theorem yAq {h:Heap}{dx:Addr}{mA:Str->Option Value}(n:h.Ns1 dx mA):∃ od,h.get? dx=some od/\∀ name,PySem.W.lookIn name od=some (mA name):=by
 obtain ⟨o,es,ep,ho,hd,hk,_,hm⟩:=n
 refine ⟨o,ho,fun name=>?_⟩
 have e:=hm name
 unfold nsFind findBy at e
 rw [<- Array.find?_toList] at e
 unfold PySem.W.lookIn
 rw [hd]
 dsimp only
 split
 .rename_i y q
  rw [q] at e
  exact congrArg some e
 .rename_i q
  rw [q] at e
  have a:es.toList.any (·.refKey)=false:=by
   rw [List.any_eq_false]
   intro y hy
   obtain ⟨z,t,hkey⟩:=hk y (Array.mem_toList_iff.mp hy)
   simp [DictEntry.refKey,hkey]
  have a':¬ es.toList.any (·.refKey)=true:=by rw [a];exact Bool.false_ne_true
  rw [if_neg a']
  exact congrArg some e
theorem ObjM.look {h:Heap}{x dx C:Addr}{mA:Str->Option Value}(I:ObjM h x dx C mA):∃ od,PySem.W.InstAt h x (instObj C dx) C (some od)/\∀ name,PySem.W.lookIn name od=some (mA name) :=
 let ⟨od,ho,hl⟩:=yAq I.ns
 ⟨od,⟨I.obj,rfl,rfl,ho⟩,hl⟩
section
variable {prog:Program}{w:World}{A:Around}{E:Value->Shared->Prop}{s:Shared}{K:PySem.W.Frag}{x dx C f:Addr}{mA:Str->Option Value}{name:Str}{v:Value}
theorem yHd {expr:Bool}{Q:Value->Shared->Prop}(X:K.In s.heap) (I:ObjM s.heap x dx C mA) (hg:plainGet K C name=true) (hh:hasDictIn K C=true)
  (ha:findIn K (.ref C) name=some none) (hv:mA name=some v) (hv':PySem.W.handedIn v=true) (h:Q v { s with toks:=s.toks+1 }) :
  wpAny (model prog w) A (getAttr (.ref x) name expr) Q E s:=by
 obtain ⟨od,J,hl⟩:=I.look
 exact PySem.W.get_value X J (PySem.W.plainGet_of hg).1 (PySem.W.findObj_own hh ha rfl (by rw [hl,hv])) hv' h
theorem yDE {pl:Sem Bool}{Q:Value×List Value->Shared->Prop}(X:K.In s.heap) (I:ObjM s.heap x dx C mA) (hg:plainGet K C name=true)
  (hf:findIn K (.ref C) name=some (some (.ref f))) (ht:isFn K (.ref f)=true) (hv:mA name=none) (h:Q (.ref f,[.ref x]) s) :
  wpAny (model prog w) A (getMethod (.ref x) name pl) Q E s:=by
 obtain ⟨od,J,hl⟩:=I.look
 exact PySem.W.method_fn X J (PySem.W.plainGet_of hg).1 (PySem.W.plainGet_of hg).2 hf (beq_iff_eq.mp ht) (by show (PySem.W.lookIn name od).map (·.isSome)=some false;rw [hl,hv];rfl) h
theorem yHe {ns:List Str}{Q:Unit->Shared->Prop}(X:K.In s.heap) (I:ObjM s.heap x dx C mA)
  (hs:findIn K (.ref C) "__setattr__" = some (some (.builtin "object.__setattr__"))) (hp:PySem.W.plainOver K C=true) (ht:PySem.W.takerIn K C name=some none) (hh:hasDictIn K C=true)
  (hw:PySem.Within mA ns) (hsz:ns.length<=sizeLine)
  (h:∀ h',ObjM h' x dx C (fun y=>if y=name then some v else mA y)->Heap.SameBut dx s.heap h'->Q () { s with heap:=h',toks:=s.toks+2 }) :
  wpAny (model prog w) A (setAttr (.ref x) name v) Q E s:=by
 obtain ⟨od,J,hl⟩:=I.look
 refine PySem.W.set_plain X J hs (PySem.W.osa_open (s:={ s with toks:=s.toks+1 }) (r:=none) X J hp ht fun b=>?_)
 obtain ⟨cd,hc,hd'⟩:=PySem.W.any_some hh
 have hx:s.heap.get? x=some ⟨.ref C,some dx,.plain,#[]⟩:=I.obj
 refine wpAny_bind (wpAny_pure (wpAny_bind (wpAny_bind (wpAny_loadPart hx (wpAny_bind (PySem.W.Looks.here (s:={ s with toks:=s.toks+1 }) (PySem.W.looks_clsIn X hc) ?_))))))
 rw [hd']
 refine wpAny_pure (a:=some dx) (wpAny_bind (wpAny_pure (wpAny_bind ?_)))
 refine wpAny_nsSet1 (s:={ s with toks:=s.toks+1 }) I.ns fun h' hn2 hs2=>?_
 obtain ⟨oD,esD,epD,hoD,hdD,hcD⟩:=hn2.count (PySem.Within.cons name v hw)
 refine wpAny_bind (wpAny_lookBehind hoD (by rw [hdD];exact pastItsLine_dict (Nat.le_trans hcD (by rw [length_cons];omega))) ?_)
 exact wpAny_pure (h _ ⟨(hs2.2 _ (Ne.symm I.ne)).trans I.obj,hn2,I.ne⟩ hs2)
theorem yDF {R:Result->Shared->Prop}{vs:List Value}{kw:List (Str×Value)}(X:K.In s.heap) (hm:makesIn K C=true)
  (hi:findIn K (.ref C) "__init__" = some (some (.ref f))) (hf:typeIn K (.ref f)=some (.type "function"))
  (h:codeAny (model prog w) (A.under (.builtin "type.__call__" ⟨.ref C::vs,kw⟩)) (.call (.ref f) ⟨.ref (s.heap.objs.size+1)::vs,kw⟩) (PySem.W.InitBack (s.heap.objs.size+1) R)
   { s with heap:=(s.heap.push emptyDict).push (instObj C s.heap.objs.size) }) :
  codeAny (model prog w) A (.call (.ref C) ⟨vs,kw⟩) R s:=by
 obtain ⟨hh,g,d,t,os⟩:=s
 exact PySem.W.make_core (PySem.W.makes_of X hm) (PySem.W.looks_findIn X hi) (fun self=>PySem.W.bind_fn X self hf) (.inl rfl) h
end
def yqH (f:Str) (v:V):List (Str×V)->List (Str×V)
 | []=>[(f,v)]
 | (g,x)::r=>if g=f then (g,v)::r else (g,x)::yqH f v r
theorem ynO (f g:Str) (v:V):∀ fs:List (Str×V),(yqH f v fs).lookup g=if g=f then some v else fs.lookup g
 | []=>by
  show List.lookup g [(f,v)]=_
  by_cases h:g=f
  .have hb:(g == f)=true:=beq_iff_eq.mpr h
   simp only [List.lookup,hb,if_pos h]
  .have hb:(g == f)=false:=beq_eq_false_iff_ne.mpr h
   simp only [List.lookup,hb,if_neg h]
 | (k,x)::r=>by
  have ih:=ynO f g v r
  rw [show yqH f v ((k,x)::r)=(if k=f then (k,v)::r else (k,x)::yqH f v r) from rfl]
  by_cases hk:k=f
  .rw [if_pos hk]
   by_cases h:g=k
   .have hb:(g == k)=true:=beq_iff_eq.mpr h
    simp only [List.lookup,hb,if_pos (h.trans hk)]
   .have hb:(g == k)=false:=beq_eq_false_iff_ne.mpr h
    simp only [List.lookup,hb,if_neg (fun e:g=f=>h (e.trans hk.symm))]
  .rw [if_neg hk]
   by_cases h:g=k
   .have hb:(g == k)=true:=beq_iff_eq.mpr h
    simp only [List.lookup,hb,if_neg (fun e:g=f=>hk (h.symm.trans e))]
   .have hb:(g == k)=false:=beq_eq_false_iff_ne.mpr h
    simp only [List.lookup,hb]
    exact ih
theorem ynP (f:Str) (v:V):∀ fs:List (Str×V),f∈(yqH f v fs).map (·.1)/\∀ g,g∈fs.map (·.1)->g∈(yqH f v fs).map (·.1)
 | []=>⟨by simp [yqH],fun g h=>by simp at h⟩
 | (k,x)::r=>by
  obtain ⟨i1,i2⟩:=ynP f v r
  rw [show yqH f v ((k,x)::r)=(if k=f then (k,v)::r else (k,x)::yqH f v r) from rfl]
  by_cases hk:k=f
  .rw [if_pos hk]
   subst hk
   exact ⟨by simp,fun g h=>by simpa using h⟩
  .rw [if_neg hk]
   refine ⟨?_,fun g h=>?_⟩
   .rw [map_cons]
    exact mem_cons_of_mem _ i1
   .rw [map_cons] at h ⊢
    rcases mem_cons.mp h with e|e
    .exact mem_cons.mpr (.inl e)
    .exact mem_cons_of_mem _ (i2 g e)
theorem ynQ (f:Str) (v:V):∀ fs:List (Str×V),(yqH f v fs).length<=fs.length+1
 | []=>by simp [yqH]
 | (k,x)::r=>by
  have ih:=ynQ f v r
  rw [show yqH f v ((k,x)::r)=(if k=f then (k,v)::r else (k,x)::yqH f v r) from rfl]
  by_cases hk:k=f
  .rw [if_pos hk,length_cons,length_cons];omega
  .rw [if_neg hk,length_cons,length_cons];omega
theorem RelO.some_of {v:V}{o:Option Value}(r:RelO (some v) o):∃ u,o=some u/\RelV v u:=by
 cases o with
 | none=>exact (show False from r).elim
 | some u=>exact ⟨u,rfl,r⟩
theorem RelO.none_of {o:Option Value}(r:RelO none o):o=none:=by
 cases o with
 | none=>rfl
 | some u=>exact (show False from r).elim
theorem yAr {v:V}{u:Value}(r:RelV v u):PySem.W.handedIn u=true:=by
 cases v with
 | non=>cases (show u=Value.none from r);rfl
 | bl b=>cases (show u=Value.bool b from r);rfl
 | int i=>obtain ⟨t,e⟩:=(show ∃ t,u=Value.int i t from r);cases e;rfl
 | str x=>obtain ⟨t,e⟩:=(show ∃ t,u=Value.str x t from r);cases e;rfl
 | byt b=>obtain ⟨t,e⟩:=(show ∃ t,u=Value.bytes b t from r);cases e;rfl
 | flt b=>obtain ⟨t,e⟩:=(show ∃ t,u=Value.float b t from r);cases e;rfl
 | ref a=>cases (show u=Value.ref a from r);rfl
 | ty n=>cases (show u=Value.type n from r);rfl
section
variable {P:Program}{w:World}{H H':Hp}{h h':Heap}{a C dx:Addr}{fs fs':List (Str×V)}
theorem yrp (hok:HOk P w H h) (e:H a=some (.ins C dx fs)):∃ mA,ObjM h a dx C mA/\(∀ f,RelO (fs.lookup f) (mA f))/\PySem.Within mA (fs.map (·.1))/\fs.length<=1000/\H dx=some (.own a):=by
 obtain ⟨d,z,ne,ob,mA,n,r,q⟩:=(show ObjOk P w H h a (.ins C dx fs) from hok a _ e)
 exact ⟨mA,⟨ob,n,ne⟩,r,q,z,d⟩
end
structure Cls (K:PySem.W.Frag) (C:Addr):Prop where
 pg:plainGet K C Str.empty=true
 hd:hasDictIn K C=true
 po:PySem.W.plainOver K C=true
 sa:findIn K (.ref C) "__setattr__" = some (some (.builtin "object.__setattr__"))
theorem Cls.get {K:PySem.W.Frag}{C:Addr}(c:Cls K C) (f:Str):plainGet K C f=true:=c.pg
def NoAttr (K:PySem.W.Frag) (C:Addr) (f:Str):Prop:=findIn K (.ref C) f=some none
theorem NoAttr.taker {K:PySem.W.Frag}{C:Addr}{f:Str}(n:NoAttr K C f):PySem.W.takerIn K C f=some none:=by
 unfold PySem.W.takerIn
 rw [show findIn K (.ref C) f=some none from n]
 rfl
structure ycq (K:PySem.W.Frag) (C:Addr) (m:Str) (f:Addr):Prop where
 at_:findIn K (.ref C) m=some (some (.ref f))
 fn:isFn K (.ref f)=true
 kp:keepIn K (.ref f)=true
section
variable {X:Cx}{pins:List (Addr×Obj)}{σ:St}{H:Hp}{s:Shared}{a C dx:Addr}{fs:List (Str×V)}{f:Str}{v:V}{A:Around}{E:Value->Shared->Prop}
theorem yyS {b:Bool}{Q:Value->Shared->Prop}(I:Inv X pins σ H s) (e:H a=some (.ins C dx fs)) (c:Cls X.K C) (n:NoAttr X.K C f) (l:fs.lookup f=some v)
  (h:∀ u s',Inv X pins σ H s'->RelV v u->Q u s'):wpAny (model X.prog X.w) A (getAttr (.ref a) f b) Q E s:=by
 obtain ⟨mA,O,r,_,_,_⟩:=yrp I.hok e
 obtain ⟨u,hu,ru⟩:=RelO.some_of (v:=v) (o:=mA f) (by rw [<- l];exact r f)
 exact yHd I.kIn O (c.get f) c.hd n hu (yAr ru) (h u _ (I.tok _) ru)
theorem ylG {m:Str}{g:Addr}{pl:Sem Bool}{Q:Value×List Value->Shared->Prop}(I:Inv X pins σ H s) (e:H a=some (.ins C dx fs)) (c:Cls X.K C) (k:ycq X.K C m g) (l:fs.lookup m=none)
  (h:Q (.ref g,[.ref a]) s):wpAny (model X.prog X.w) A (getMethod (.ref a) m pl) Q E s:=by
 obtain ⟨mA,O,r,_,_,_⟩:=yrp I.hok e
 have hn:mA m=none:=RelO.none_of (by rw [<- l];exact r m)
 exact yDE I.kIn O (c.get m) k.at_ k.fn hn h
theorem yyT {y:V}{u:Value}{Q:Unit->Shared->Prop}(I:Inv X pins σ H s) (e:H a=some (.ins C dx fs)) (c:Cls X.K C) (n:NoAttr X.K C f) (hl:fs.length<1000) (ry:RelV y u)
  (h:∀ s',Inv X pins σ (upd H a (.ins C dx (yqH f y fs))) s'->Q () s'):wpAny (model X.prog X.w) A (setAttr (.ref a) f u) Q E s:=by
 obtain ⟨mA,O,r,wi,_,ho⟩:=yrp I.hok e
 have hz:(fs.map (·.1)).length<=sizeLine:=by rw [length_map,sizeLine_eq];omega
 refine yHe I.kIn O c.sa c.po n.taker c.hd wi hz fun h' O' sb=>h _ ?_
 have hd:∃ o,h'.get? dx=some o:=let ⟨o,_,_,e',_⟩:=O'.ns;⟨o,e'⟩
 refine I.write (x:=a) (e:=dx) (by rw [e];exact True.intro) (.inr ho) (fun b q hb z=>(sb.2 b hb).trans z) hd ?_
 refine ⟨by rw [yX O.ne];exact ho,?_,O.ne,O'.obj,_,O'.ns,fun g=>?_,fun g hg=>?_⟩
 .have:=ynQ f y fs;omega
 .show RelO ((yqH f y fs).lookup g) (if g=f then some u else mA g)
  rw [ynO]
  by_cases q:g=f
  .rw [if_pos q,if_pos q];exact ry
  .rw [if_neg q,if_neg q];exact r g
 .by_cases q:g=f
  .rw [q];exact (ynP f y fs).1
  .refine (ynP f y fs).2 g (wi g fun z=>hg ?_)
   show (if g=f then some u else mA g)=none
   rw [if_neg q];exact z
theorem Inv.made (I:Inv X pins σ H s):Inv X pins σ (upd (upd H s.heap.objs.size (.own (s.heap.objs.size+1))) (s.heap.objs.size+1) (.ins C s.heap.objs.size []))
  { s with heap:=(s.heap.push emptyDict).push (instObj C s.heap.objs.size) }:=by
 have e1:(s.heap.push emptyDict).get? s.heap.objs.size=some emptyDict:=Heap.get?_push_size s.heap rfl
 have e2:((s.heap.push emptyDict).push (instObj C s.heap.objs.size)).get? (s.heap.objs.size+1)=some (instObj C s.heap.objs.size):=by
  have:=Heap.get?_push_size (s.heap.push emptyDict) (o:=instObj C s.heap.objs.size) rfl
  rwa [Heap.size_push] at this
 have e3:(s.heap.push emptyDict).Ns s.heap.objs.size (fun _=>none):=⟨emptyDict,#[],_,e1,rfl,(fun e he=>absurd he (by simp)),fun _=>rfl⟩
 have I1:=I.laid (a:=s.heap.objs.size) (o:=.own (s.heap.objs.size+1)) (h':=s.heap.push emptyDict) (t':=s.toks) (fun b u q=>Heap.get?_push_of_some _ q) (Nat.le_refl _) ⟨_,e1⟩
 refine I1.laid (a:=s.heap.objs.size+1) (o:=.ins C s.heap.objs.size []) (t':=s.toks) (fun b u q=>Heap.get?_push_of_some _ q) (le_of_eq (Heap.size_push _ _)) ?_
 have ne:s.heap.objs.size≠s.heap.objs.size+1:=ne_of_lt (Nat.lt_succ_self _)
 refine ⟨by rw [yX ne,yP],zero_le _,ne,e2,fun _=>none,(Heap.Ns1.of_empty e3).at fun o q=>Heap.get?_push_of_some _ q,fun _=>True.intro,fun y hy=>absurd rfl hy⟩
theorem yHf {prog:Program}{w:World}{env:Env}{e:Expr}{f:Str}{pos:Pos}{s:Shared}{Q:Value->Shared->Prop}(hb:attributeBase e f env (eval e env)=eval e env)
  (h:wpAny (model prog w) A (eval e env) (fun o s₁=>wpAny (model prog w) A (getAttr o f true) Q E s₁) E s):wpAny (model prog w) A (eval (.Attribute e f pos) env) Q E s :=
 Attribute_any_ h (by rw [arm_eval_Attribute,hb])
end
noncomputable def yNU (K:PySem.W.Frag) (ta:TE) (f:Str):TE:=fun σ H Q=>ta σ H fun x H1=>∃ a C dx fs v,x=.ref a/\H1 a=some (.ins C dx fs)/\Cls K C/\NoAttr K C f/\fs.lookup f=some v/\Q v H1
noncomputable def yMm (K:PySem.W.Frag) (ta tv:TE) (f:Str):TS:=fun D σ H=>tv σ H fun y H1=>ta σ H1 fun x H2=>∃ a C dx fs,x=.ref a/\H2 a=some (.ins C dx fs)/\Cls K C/\NoAttr K C f/\fs.length<1000 /\
 D.nx σ (upd H2 a (.ins C dx (yqH f y fs)))
section
variable {X:Cx}{o e value:Expr}{f:Str}{pos pos' tpos:Pos}{ta tv:TE}
theorem yJU (he:PE X e ta) (hb:attributeBase e f X.env (eval e X.env)=eval e X.env):PE X (.Attribute e f pos) (yNU X.K ta f):=by
 intro pins s σ H Q I h
 refine yHf hb (thn (he pins s σ H _ I h) fun u s1 ⟨x,H1,I1,rx,a,C,dx,fs,v,ex,ea,c,n,l,q⟩=>?_)
 subst ex
 obtain rfl:u=Value.ref a:=rx
 exact yyS I1 ea c n l fun u' s2 I2 ru=>⟨v,H1,I2,ru,q⟩
theorem yFQ (ha:PE X o ta) (hv:PE X value tv) (hs:swapsWith value (some (.Attribute o f pos')) pos.line X.env=pure false):PS X (.Assign [.Attribute o f pos'] value pos) (yMm X.K ta tv f):=by
 intro pins s σ H D I h
 refine plainObj_wpAny_Assign_Attribute (thn (hv pins s σ H _ I h) fun u s1 ⟨y,H1,I1,ry,q⟩=>thn (ha pins s1 σ H1 _ I1 q) fun ov s2 ⟨x,H2,I2,rx,a,C,dx,fs,ex,ea,c,n,l,q2⟩=>?_) hs
 subst ex
 obtain rfl:ov=Value.ref a:=rx
 exact yyT I2 ea c n l ry fun s3 I3=>⟨σ,_,I3,q2⟩
end
section
variable {X:Cx}{pins:List (Addr×Obj)}{σ:St}{H:Hp}{s:Shared}{A:Around}{E:Value->Shared->Prop}{Q:Value->Shared->Prop}{c:Value}{b:Bool}
inductive yxO (K:PySem.W.Frag) (H:Hp):V->Value->Prop where
 | non:yxO K H .non (.type "NoneType")
 | bl (x:Bool):yxO K H (.bl x) (.type "bool")
 | int (i:Int):yxO K H (.int i) (.type "int")
 | str (x:Str):yxO K H (.str x) (.type "str")
 | flt (x:UInt64):yxO K H (.flt x) (.type "float")
 | lst {a:Addr}{xs:List V}(e:H a=some (.lst xs)):yxO K H (.ref a) (.type "list")
 | frz {a:Addr}{o:Obj}{xs:List V}(e:H a=some (.frz o (.lst xs))):yxO K H (.ref a) (.type "list")
 | tup {a:Addr}{xs:List V}(e:H a=some (.tup xs)):yxO K H (.ref a) (.type "tuple")
 | kt {a:Addr}{o:Obj}(e:K.lookup a=some o) (c:o.cls=.type "tuple"):yxO K H (.ref a) (.type "tuple")
 | dK {a:Addr}{kvs:List (Key×V)}(e:H a=some (.dK kvs)):yxO K H (.ref a) (.type "dict")
 | dT {a:Addr}{kvs:List (List Key×V)}(e:H a=some (.dT kvs)):yxO K H (.ref a) (.type "dict")
 | ins {a C dx:Addr}{fs:List (Str×V)}(e:H a=some (.ins C dx fs)) (cl:Cls K C) (ha:findIn K (.ref C) "__class__" = some (some (.builtin "object.__class__")))
   (hn:PySem.W.specialIn K (.builtin "object.__class__") "__get__" = some (some (.builtin "getset_descriptor.__get__"))) (htk:PySem.W.takesIn K (.builtin "object.__class__")=some true)
   (hm:mroIn K C (.type "object")=some true):yxO K H (.ref a) (.ref C)
theorem yAs {x:V}{u t:Value}(I:Inv X pins σ H s) (rx:RelV x u) (ty:yxO X.K H x t) (e:PySem.W.kitOne X.K t c=some b) (h:∀ tk,Q (.bool b) { s with toks:=tk }) :
  wpAny (model X.prog X.w) A (call (.builtin "isinstance") [u,c]) Q E s:=by
 cases ty with
 | non=>cases (show u=Value.none from rx);exact kia_one PySem.W.kitx_none I.kIn True.intro e (fun z=>nomatch z) h
 | bl y=>cases (show u=Value.bool y from rx);exact kia_one PySem.W.kitx_bool I.kIn True.intro e (fun z=>nomatch z) h
 | int i=>obtain ⟨t,q⟩:=(show ∃ t,u=Value.int i t from rx);cases q;exact kia_one PySem.W.kitx_int I.kIn True.intro e (fun z=>nomatch z) h
 | str y=>obtain ⟨t,q⟩:=(show ∃ t,u=Value.str y t from rx);cases q;exact kia_one PySem.W.kitx_str I.kIn True.intro e (fun z=>nomatch z) h
 | flt y=>obtain ⟨t,q⟩:=(show ∃ t,u=Value.float y t from rx);cases q;exact kia_one PySem.W.kitx_float I.kIn True.intro e (fun z=>nomatch z) h
 | @lst a xs ea =>
  cases (show u=Value.ref a from rx)
  obtain ⟨_,_,n,_,h1⟩:=(show ObjOk X.prog X.w H s.heap a (.lst xs) from I.hok a _ ea)
  exact kia_one PySem.W.kitx_list I.kIn ⟨_,h1,rfl⟩ e (fun z=>nomatch z) h
 | @frz a ob xs ea =>
  cases (show u=Value.ref a from rx)
  obtain ⟨_,_,_,n,_,h1⟩:=(show ObjOk X.prog X.w H s.heap a (.frz ob (.lst xs)) from I.hok a _ ea)
  exact kia_one PySem.W.kitx_list I.kIn ⟨_,h1,rfl⟩ e (fun z=>nomatch z) h
 | @tup a xs ea =>
  cases (show u=Value.ref a from rx)
  obtain ⟨_,_,_,p⟩:=(show ObjOk X.prog X.w H s.heap a (.tup xs) from I.hok a _ ea)
  obtain ⟨o,h1,h2,_⟩:=p
  exact kia_one PySem.W.kitx_tuple I.kIn ⟨o,h1,h2⟩ e (fun z=>nomatch z) h
 | @kt a ob ek ck =>
  cases (show u=Value.ref a from rx)
  exact kia_one PySem.W.kitx_tuple I.kIn ⟨ob,I.kIn a ob ek,ck⟩ e (fun z=>nomatch z) h
 | @dK a kvs ea =>
  cases (show u=Value.ref a from rx)
  obtain ⟨_,_,vs,_,p⟩:=(show ObjOk X.prog X.w H s.heap a (.dK kvs) from I.hok a _ ea)
  obtain ⟨o,es,ep,h1,h2,_⟩:=p
  exact kia_one PySem.W.kitx_dict I.kIn ⟨o,h1,h2.1⟩ e (fun z=>nomatch z) h
 | @dT a kvs ea =>
  cases (show u=Value.ref a from rx)
  obtain ⟨_,_,xs,_,o,es,ep,h1,h2,_⟩:=(show ObjOk X.prog X.w H s.heap a (.dT kvs) from I.hok a _ ea)
  exact kia_one PySem.W.kitx_dict I.kIn ⟨o,h1,h2.1⟩ e (fun z=>nomatch z) h
 | @ins a C dx fs ea cl ha hn htk hm =>
  cases (show u=Value.ref a from rx)
  obtain ⟨mA,O,_⟩:=yrp I.hok ea
  obtain ⟨od,J,_⟩:=O.look
  exact kia_one (PySem.W.kitx_own (cl.get _) cl.hd ha hn htk hm) I.kIn J e (fun z=>nomatch z) h
end
end L2
namespace L2
open PySem PySem.Spec PyProof.Rows
structure Room (k:Nat) (A:Around):Prop where
 hd:A.handled=none
 dp:A.depth+3*k+5<recursionLimit
 un:A.units+16*k+200<cLine
theorem Room.mono {j k:Nat}{A:Around}(r:Room k A) (h:j<=k):Room j A:=⟨r.hd,by have:=r.dp;omega,by have:=r.un;omega⟩
theorem Room.deeper {k:Nat}{A:Around}(r:Room (k+1) A) (env:Env):Room k (A.deeper env) :=
 ⟨r.hd,by have:=r.dp;show A.depth+1+3*k+5<_;omega,by have:=r.un;show A.units+3+16*k+200<_;omega⟩
theorem yyU {A:Around}{C:Addr}{us:List Value}{kw:List (Str×Value)}:(A.under (.builtin "type.__call__" ⟨.ref C::us,kw⟩)).depth=A.depth+1:=by
 first|rfl|simp [Around.under,Code.weight,Code.isCreation,Code.isGuard,Code.isCaller,Code.frames,Code.isFrame,guardIds]
theorem yyV {A:Around}{C:Addr}{us:List Value}{kw:List (Str×Value)}:(A.under (.builtin "type.__call__" ⟨.ref C::us,kw⟩)).units=A.units+1:=by
 first|rfl|simp [Around.under,Code.cUnits,Code.frames,Code.isFrame]
theorem Room.make {k:Nat}{A:Around}(r:Room (k+1) A) (C:Addr) (us:List Value) (kw:List (Str×Value)):Room k (A.under (.builtin "type.__call__" ⟨.ref C::us,kw⟩)) :=
 ⟨r.hd,by have:=r.dp;rw [yyU];omega,by have:=r.un;rw [yyV];omega⟩
theorem Room.depth {k:Nat}{A:Around}(r:Room k A):A.depth<recursionLimit:=by have:=r.dp;omega
theorem Room.units {k:Nat}{A:Around}(r:Room k A):A.units+64<cLine:=by have:=r.un;omega
def yDG:TA:=fun _ H Q=>Q [] H
def yvU (ta:TE) (tr:TA):TA:=fun σ H Q=>ta σ H fun x H1=>tr σ H1 fun xs H2=>Q (x::xs) H2
section
variable {X:Cx}{e:Expr}{es:List Expr}{te:TE}{t:TA}{pos:Pos}
theorem ynR:PA X [] yDG:=fun _ _ _ _ H Q I h=>Calls.spliced_nil ⟨[],H,I,.nil,h⟩
theorem yhG (ha:PE X e te) (hr:PA X es t) (hs:starEach (e::es) X.env=(false,eval e X.env)::starEach es X.env:=by rfl):PA X (e::es) (yvU te t):=by
 intro pos pins s σ H Q I h
 rw [hs]
 show wpAny _ _ (spliced ((false,eval e X.env)::backTo pos (starEach es X.env))) _ _ s
 refine Calls.spliced_cons (thn (ha pins s σ H _ I h) fun u s1 ⟨x,H1,I1,r1,q1⟩=>?_)
 exact thn (hr pos pins s1 σ H1 _ I1 q1) fun us s2 ⟨xs,H2,I2,r2,q2⟩=>⟨x::xs,H2,I2,.cons r1 r2,q2⟩
def yNV (t:TA):TE:=fun σ H Q=>t σ H fun xs H1=>xs.length<=sizeLine/\∀ p,H1 p=none->Q (.ref p) (upd H1 p (.tup xs))
def yNW (t:TA):TE:=fun σ H Q=>t σ H fun xs H1=>xs.length<=sizeLine/\∀ p,H1 p=none->Q (.ref p) (upd H1 p (.lst xs))
theorem yJV {x1} (h:PA X es t):PE X (.Tuple es x1 pos) (yNV t):=by
 intro pins s σ H Q I hq
 refine wpAny_Tuple_spliced (thn (h pos pins s σ H _ I hq) fun us s1 ⟨xs,H1,I1,r,z,q⟩=>⟨by rw [<- r.length];exact z,?_⟩)
 have hf:H1 s1.heap.objs.size=none:=I1.hok.fresh (Nat.le_refl _)
 refine ⟨.ref s1.heap.objs.size,upd H1 s1.heap.objs.size (.tup xs),I1.laid (t':=s1.toks) (fun b u e=>Heap.get?_push_of_some _ e) (Nat.le_refl _) ?_,rfl,q _ hf⟩
 exact ⟨z,us,r,⟨_,Heap.get?_push_size _ rfl,rfl,_,rfl⟩⟩
theorem yJW (h:PA X es t):PE X (.List es pos) (yNW t):=by
 intro pins s σ H Q I hq
 refine wpAny_List_spliced (thn (h pos pins s σ H _ I hq) fun us s1 ⟨xs,H1,I1,r,z,q⟩=>⟨by rw [<- r.length];exact z,?_⟩)
 have hf:H1 s1.heap.objs.size=none:=I1.hok.fresh (Nat.le_refl _)
 refine ⟨.ref s1.heap.objs.size,upd H1 s1.heap.objs.size (.lst xs),I1.laid (t':=s1.toks) (fun b u e=>Heap.get?_push_of_some _ e) (Nat.le_refl _) ?_,rfl,q _ hf⟩
 exact ⟨z,us,0,r,Heap.get?_push_size _ rfl⟩
end
abbrev Sp:=List V->Hp->VK->XK->Prop
abbrev CXT:=List Env->Hp->Shared->XK->Value->Shared->Prop
structure Env0 (P:Program) (w:World) (K:PySem.W.Frag) (mg:Str->Option Value) (base:Heap) (A:Around) (outer:List Env) (s:Shared) (H:Hp):Prop where
 frames:A.frames=some outer
 mod:Mod K mg base
 bs:∀ b o,base.get? b=some o->s.heap.get? b=some o/\H b=none
 bsz:base.objs.size<=s.heap.objs.size
 funs:s.heap.FunFrames base outer
 frf:∀ b∈frs outer,H b=none
 hok:HOk P w H s.heap
 bare:AllBare s.gens
def CE (outer:List Env) (P:Program) (w:World) (H:Hp) (s:Shared) (Q:VK) (u:Value) (s':Shared):Prop :=
 ∃ v H',s'.os=s.os/\AllBare s'.gens/\Un (frs outer) [] H H' s.heap s'.heap/\HOk P w H' s'.heap/\RelV v u/\Q v H'
def CR (CX:CXT) (outer:List Env) (P:Program) (w:World) (H:Hp) (s:Shared) (Q:VK) (E:XK) (r:Result) (s':Shared):Prop :=
 match r with
 | .ok (.ret u)=>CE outer P w H s Q u s'
 | .ok _=>False
 | .error e=>CX outer H s E e s'
structure FnOk (P:Program) (w:World) (K:PySem.W.Frag) (mg:Str->Option Value) (base:Heap) (CX:CXT) (k:Nat) (f:Addr) (fd:FuncData) (ps:List Str) (sp:Sp):Prop where
 len:∀ vs H Q E,sp vs H Q E->vs.length=ps.length
 run:∀ (A:Around) (outer:List Env) (s:Shared) (H:Hp) (args:Args) (us:List Value) (vs:List V) (Q:VK) (E:XK),Room k A->Env0 P w K mg base A outer s H->BindsTo s fd args (ps.zip us)->Vals vs us->sp vs H Q E ->
  codeAny (model P w) A (.call (.ref f) args) (CR CX outer P w H s Q E) s
theorem FnOk.mono {P:Program}{w:World}{K:PySem.W.Frag}{mg:Str->Option Value}{base:Heap}{CX:CXT}{j k:Nat}{f:Addr}{fd:FuncData}{ps:List Str}{sp:Sp}(F:FnOk P w K mg base CX j f fd ps sp) (h:j<=k) :
  FnOk P w K mg base CX k f fd ps sp:=⟨F.len,fun A outer s H args us vs Q E hr=>F.run A outer s H args us vs Q E (hr.mono h)⟩
theorem FnOk.imp {P:Program}{w:World}{K:PySem.W.Frag}{mg:Str->Option Value}{base:Heap}{CX:CXT}{k:Nat}{f:Addr}{fd:FuncData}{ps:List Str}{sp sp':Sp}(F:FnOk P w K mg base CX k f fd ps sp)
  (h:∀ vs H Q E,sp' vs H Q E->sp vs H Q E):FnOk P w K mg base CX k f fd ps sp' :=
 ⟨fun vs H Q E q=>F.len vs H Q E (h _ _ _ _ q),fun A outer s H args us vs Q E hr he hb hv hs=>F.run A outer s H args us vs Q E hr he hb hv (h _ _ _ _ hs)⟩
theorem Env0.make {P:Program}{w:World}{K:PySem.W.Frag}{mg:Str->Option Value}{base:Heap}{A:Around}{outer:List Env}{s:Shared}{H:Hp}(e:Env0 P w K mg base A outer s H) (C:Addr) (us:List Value) (kw:List (Str×Value)) :
  Env0 P w K mg base (A.under (.builtin "type.__call__" ⟨.ref C::us,kw⟩)) outer s H:=⟨by first|exact e.frames|(simpa [Around.under,Code.envs,Code.isFrame,pushEnvs] using e.frames),e.mod,e.bs,e.bsz,e.funs,e.frf,e.hok,e.bare⟩
section
variable {X:Cx}{pins:List (Addr×Obj)}{σ:St}{H:Hp}{s s':Shared}
theorem Inv.env0 (I:Inv X pins σ H s):Env0 X.prog X.w X.K X.mg X.base X.A X.stack s H :=
 ⟨I.ok.frames,I.ok.mod,I.bs,Nat.le_trans I.ok.bsz I.sz,I.stack,I.stkFree,I.hok,I.bare⟩
theorem Inv.after {Q:VK}{u:Value}(I:Inv X pins σ H s) (h:CE X.stack X.prog X.w H s Q u s'):EP X pins σ Q u s':=by
 obtain ⟨v,H',os,bare,un,hok,r,q⟩:=h
 obtain ⟨hh,g,d,t,os'⟩:=s'
 obtain rfl:os'=s.os:=os
 exact ⟨v,H',I.call (h':=hh) (g':=g) (d':=d) (t':=t) (ch:=[]) un hok bare (fun b z=>absurd z (by simp)),r,q⟩
end
def yDH (sp:Sp) (dvs:List V) (E:XK) (t:TA):TE:=fun σ H Q=>t σ H fun vs H1=>sp (vs++dvs) H1 Q E
noncomputable def yHg (C:Addr) (m:Str) (sp:Sp) (dvs:List V) (E:XK) (ta:TE) (t:TA):TE:=fun σ H Q=>ta σ H fun x H1=>∃ a dx fs,x=.ref a/\H1 a=some (.ins C dx fs)/\fs.lookup m=none /\
 t σ H1 fun vs H2=>sp (x::(vs++dvs)) H2 Q E
noncomputable def yHh (C:Addr) (sp:Sp) (dvs:List V) (E:XK) (t:TA):TE:=fun σ H Q=>t σ H fun vs H1=>∀ x dx,H1 x=none->H1 dx=none->dx≠x ->
 sp (.ref x::(vs++dvs)) (upd (upd H1 dx (.own x)) x (.ins C dx [])) (fun v H2=>v=.non/\Q (.ref x) H2) E
noncomputable def Binds (K:PySem.W.Frag) (fd:FuncData) (ps:List Str) (ds:List Value):Prop :=
 ∀ (s:Shared) (us:List Value),K.In s.heap->(us++ds).length=ps.length->BindsTo s fd ⟨us,[]⟩ (ps.zip (us++ds))
theorem Binds.all {K:PySem.W.Frag}{fd:FuncData}{ps:List Str}(h:∀ us:List Value,us.length=ps.length->bindArgs fd ⟨us,[]⟩=pure (ps.zip us)):Binds K fd ps []:=fun s us _ hl=>by
 rw [append_nil] at hl ⊢
 exact .of_eq (h us hl)
noncomputable def ykx (CX:CXT) (X:Cx) (E:XK):Prop:=∀ (pins:List (Addr×Obj)) (σ:St) (H:Hp) (s:Shared) (e:Value) (s':Shared),Inv X pins σ H s->CX X.stack H s E e s'->X.xe e s'
section
variable {X:Cx}{CX:CXT}{k:Nat}{f C:Addr}{fd:FuncData}{ps:List Str}{sp:Sp}{dvs:List V}{ds:List Value}{E:XK}{x m:Str}{p pos apos:Pos}{e o:Expr}{es:List Expr}{ta:TE}{t:TA}
theorem yth {pins:List (Addr×Obj)}{σ:St}{H:Hp}{s:Shared}{Q:VK}{us:List Value}{vs:List V}(F:FnOk X.prog X.w X.K X.mg X.base CX k f fd ps sp) (hr:Room k X.A) (hb:Binds X.K fd ps ds) (hd:Vals dvs ds) (hx:ykx CX X E)
  (I:Inv X pins σ H s) (r:Vals vs us) (h:sp (vs++dvs) H Q E):wpAny (model X.prog X.w) X.A (call (.ref f) us) (EP X pins σ Q) X.xe s:=by
 have r2:Vals (vs++dvs) (us++ds):=r.append hd
 have hl:(us++ds).length=ps.length:=by rw [<- r2.length];exact F.len _ _ _ _ h
 refine wpAny_call (codeAny_mono (F.run X.A X.stack s H ⟨us,[]⟩ (us++ds) (vs++dvs) Q E hr I.env0 (hb s us I.kIn hl) r2 h) fun r s' hq=>?_)
 cases r with
 | error e=>exact hx pins σ H s e s' I hq
 | ok fl =>
  cases fl with
  | ret u=>exact I.after hq
  | next=>exact False.elim hq
  | brk=>exact False.elim hq
  | cont=>exact False.elim hq
theorem yHi (F:FnOk X.prog X.w X.K X.mg X.base CX k f fd ps sp) (hr:Room k X.A) (hg:Gl X x) (hm:X.mg x=some (.ref f)) (hk:keepIn X.K (.ref f)=true) (hb:Binds X.K fd ps ds) (hd:Vals dvs ds) (hx:ykx CX X E)
  (ha:PA X (e::es) t) (hdb:(x == ("__debug__":Str))=false:=by decide) (he:starEach (e::es) X.env=(false,eval e X.env)::starEach es X.env:=by rfl) (hpl:(backTo pos (starEach es X.env)).any (·.1)=false:=by rfl) :
  PE X (.Call (.Name x p) (e::es) [] pos) (yDH sp dvs E t):=by
 intro pins s σ H Q I h
 refine wpAny_Call_Name_kw (ynL I hg hm ?_ hdb)
 refine PySem.W.callWith_K (h₀:=X.base) I.ok.mod.kin hk (thn (ha pos pins s σ H _ I h) fun us s1 ⟨vs,H1,I1,r,q⟩=>⟨I1.kIn,?_⟩) he hpl
 exact yth F hr hb hd hx I1 r q
theorem yHj {pl:Sem Bool}(he:PE X o ta) (c:Cls X.K C) (hm:ycq X.K C m f) (F:FnOk X.prog X.w X.K X.mg X.base CX k f fd ps sp) (hr:Room k X.A) (hb:Binds X.K fd ps ds) (hd:Vals dvs ds) (hx:ykx CX X E) (ha:PA X (e::es) t)
  (hst:starEach (e::es) X.env=(false,eval e X.env)::starEach es X.env:=by rfl) (hpl:(backTo pos (starEach es X.env)).any (·.1)=false:=by rfl)
  (ht:eval (.Call (.Attribute o m apos) (e::es) [] pos) X.env=(do
   let ov <- eval o X.env
   standAt apos.atName
   let (f,first) <- holding [ov] (getMethod ov m pl)
   callWith pos f first (backTo pos (starEach (e::es) X.env)) (backToKw pos (keywordEach [] X.env))):=by rfl) :
  PE X (.Call (.Attribute o m apos) (e::es) [] pos) (yHg C m sp dvs E ta t):=by
 intro pins s σ H Q I h
 refine PySem.W.methodCall_KW (pl:=pl) (thn (he pins s σ H _ I h) fun u s1 ⟨x,H1,I1,rx,a,dx,fs,ex,ea,l,q⟩=>?_) ht
 subst ex
 obtain rfl:u=Value.ref a:=rx
 refine ylG I1 ea c hm l ?_
 refine PySem.W.callWith_K (first:=[.ref a]) (h₀:=X.base) I.ok.mod.kin hm.kp (thn (ha pos pins s1 σ H1 _ I1 q) fun us s2 ⟨vs,H2,I2,r,q2⟩=>⟨I2.kIn,?_⟩) hst hpl
 exact yth (us:=.ref a::us) (vs:=.ref a::vs) F hr hb hd hx I2 (.cons rfl r) q2
theorem yDI {pl:Sem Bool}(he:PE X o ta) (c:Cls X.K C) (hm:ycq X.K C m f) (F:FnOk X.prog X.w X.K X.mg X.base CX k f fd ps sp) (hr:Room k X.A) (hb:Binds X.K fd ps ds) (hd:Vals dvs ds) (hx:ykx CX X E)
  (ht:eval (.Call (.Attribute o m apos) [] [] pos) X.env=(do
   let ov <- eval o X.env
   standAt apos.atName
   let (f,first) <- holding [ov] (getMethod ov m pl)
   callWith pos f first (backTo pos (starEach [] X.env)) (backToKw pos (keywordEach [] X.env))):=by rfl) :
  PE X (.Call (.Attribute o m apos) [] [] pos) (yHg C m sp dvs E ta yDG):=by
 intro pins s σ H Q I h
 refine PySem.W.methodCall_KW (pl:=pl) (thn (he pins s σ H _ I h) fun u s1 ⟨x,H1,I1,rx,a,dx,fs,ex,ea,l,q⟩=>?_) ht
 subst ex
 obtain rfl:u=Value.ref a:=rx
 refine ylG I1 ea c hm l ?_
 exact PySem.W.callWith_K0 (first:=[.ref a]) I1.kIn hm.kp (yth (us:=[.ref a]) (vs:=[.ref a]) F hr hb hd hx I1 (.cons rfl .nil) q)
structure Mk (K:PySem.W.Frag) (C f:Addr):Prop where
 makes:makesIn K C=true
 init:findIn K (.ref C) "__init__" = some (some (.ref f))
 fn:isFn K (.ref f)=true
 kp:keepIn K (.ref C)=true
theorem yxP {pins:List (Addr×Obj)}{σ:St}{H:Hp}{s:Shared}{Q:VK}{us:List Value}{vs:List V}(M:Mk X.K C f) (F:FnOk X.prog X.w X.K X.mg X.base CX k f fd ps sp) (hr:Room (k+1) X.A) (hb:Binds X.K fd ps ds) (hd:Vals dvs ds)
  (hx:ykx CX X E) (I:Inv X pins σ H s) (r:Vals vs us)
  (h:∀ x dx,H x=none->H dx=none->dx≠x->sp (.ref x::(vs++dvs)) (upd (upd H dx (.own x)) x (.ins C dx [])) (fun v H2=>v=.non/\Q (.ref x) H2) E) :
  wpAny (model X.prog X.w) X.A (call (.ref C) us) (EP X pins σ Q) X.xe s:=by
 have hq:=h (s.heap.objs.size+1) s.heap.objs.size (I.hok.fresh (Nat.le_succ _)) (I.hok.fresh (Nat.le_refl _)) (ne_of_lt (Nat.lt_succ_self _))
 have I2:=Inv.made (C:=C) I
 have r2:Vals (V.ref (s.heap.objs.size+1)::(vs++dvs)) (Value.ref (s.heap.objs.size+1)::(us++ds)):=.cons rfl (r.append hd)
 have hl:(Value.ref (s.heap.objs.size+1)::us++ds).length=ps.length:=by
  have e:=r2.length
  rw [F.len _ _ _ _ hq] at e
  exact e.symm
 refine wpAny_call (yDF (f:=f) I.kIn M.makes M.init (beq_iff_eq.mp M.fn) (codeAny_mono (F.run _ X.stack _ _ ⟨Value.ref (s.heap.objs.size+1)::us,[]⟩ (Value.ref (s.heap.objs.size+1)::(us++ds)) _ _ E (hr.make C us [])
  (I2.env0.make C us []) (hb _ (Value.ref (s.heap.objs.size+1)::us) I2.kIn hl) r2 hq) fun r s' hq'=>?_))
 cases r with
 | error e=>exact hx pins σ _ _ e s' I2 hq'
 | ok fl =>
  cases fl with
  | ret u =>
   obtain ⟨v,H',I3,rv,ev,q3⟩:=I2.after hq'
   subst ev
   exact ⟨rv,⟨V.ref (s.heap.objs.size+1),H',I3,rfl,q3⟩⟩
  | next=>exact False.elim hq'
  | brk=>exact False.elim hq'
  | cont=>exact False.elim hq'
theorem yHk (M:Mk X.K C f) (F:FnOk X.prog X.w X.K X.mg X.base CX k f fd ps sp) (hr:Room (k+1) X.A) (hg:Gl X x) (hm:X.mg x=some (.ref C)) (hb:Binds X.K fd ps ds) (hd:Vals dvs ds) (hx:ykx CX X E)
  (ha:PA X (e::es) t) (hdb:(x == ("__debug__":Str))=false:=by decide) (he:starEach (e::es) X.env=(false,eval e X.env)::starEach es X.env:=by rfl) (hpl:(backTo pos (starEach es X.env)).any (·.1)=false:=by rfl) :
  PE X (.Call (.Name x p) (e::es) [] pos) (yHh C sp dvs E t):=by
 intro pins s σ H Q I h
 refine wpAny_Call_Name_kw (ynL I hg hm ?_ hdb)
 refine PySem.W.callWith_K (h₀:=X.base) I.ok.mod.kin M.kp (thn (ha pos pins s σ H _ I h) fun us s1 ⟨vs,H1,I1,r,q⟩=>⟨I1.kIn,?_⟩) he hpl
 exact yxP M F hr hb hd hx I1 r q
theorem yDJ (M:Mk X.K C f) (F:FnOk X.prog X.w X.K X.mg X.base CX k f fd ps sp) (hr:Room (k+1) X.A) (hg:Gl X x) (hm:X.mg x=some (.ref C)) (hb:Binds X.K fd ps ds) (hd:Vals dvs ds) (hx:ykx CX X E)
  (hdb:(x == ("__debug__":Str))=false:=by decide):PE X (.Call (.Name x p) [] [] pos) (yHh C sp dvs E yDG):=by
 intro pins s σ H Q I h
 refine wpAny_Call_Name_kw (ynL I hg hm ?_ hdb)
 exact PySem.W.callWith_K0 I.kIn M.kp (yxP (us:=[]) M F hr hb hd hx I .nil h)
end
section
variable {X:Cx}{CX:CXT}{k:Nat}{f C:Addr}{fd:FuncData}{ps ks:List Str}{sp:Sp}{E:XK}{x m:Str}{p pos apos kpos:Pos}{e o:Expr}{es:List Expr}{kws:List Keyword}{te ta:TE}{t tk:TA}{nm:Option Str}
variable {g:List Value->List Value->List Value}{gV:List V->List V->List V}
end
structure yl (N P:List Str) (sc:Scope):Prop where
 kind:sc.kind=.function
 co:sc.isCoroutine=false
 gen:sc.isGenerator=false
 nd:N.Nodup
 pre:N.take P.length=P
 par:∀ x∈P,sc.names.lookup x=some .local \/ sc.names.lookup x=some .cell
 nofree:∀ y∈sc.names,y.2≠.free
theorem yti {kindOf:Str->Option NameKind}{x:Str}:∀ {binds:List (Str×Value)}{m:Str->Option Value},(∀ v,(x,v)∉binds)->bindL kindOf binds m x=m x
 | [],_,_=>rfl
 | (n,v)::r,m,h=>by
  unfold bindL
  rw [yti fun w hw=>h w (mem_cons_of_mem _ hw)]
  split
  .have:x≠n:=by rintro rfl;exact h v mem_cons_self
   simp [this]
  .rfl
theorem ytj {kindOf:Str->Option NameKind}{x:Str}:∀ {binds:List (Str×Value)}{m:Str->Option Value},(∀ v,(x,v)∉binds)->bindC kindOf binds m x=m x
 | [],_,_=>rfl
 | (n,v)::r,m,h=>by
  unfold bindC
  rw [ytj fun w hw=>h w (mem_cons_of_mem _ hw)]
  split
  .rfl
  .have:x≠n:=by rintro rfl;exact h v mem_cons_self
   simp [this]
theorem ytk {kindOf:Str->Option NameKind}{x:Str}{v:Value}:∀ {P:List Str}{vs:List Value}{i:Nat}{m:Str->Option Value},P.Nodup->P[i]?=some x->vs[i]?=some v->kindOf x=some .local ->
  bindL kindOf (P.zip vs) m x=some v
 | [],_,_,_,_,h,_,_=>by simp at h
 | _::_,[],_,_,_,_,h,_=>by simp at h
 | p::P,w::vs,0,m,nd,h1,h2,hk=>by
  simp at h1 h2;subst h1;subst h2
  show bindL kindOf ((p,w)::P.zip vs) m p=_
  unfold bindL
  rw [yti fun v hv=>(List.nodup_cons.mp nd).1 (of_mem_zip hv).1,if_pos hk]
  simp
 | p::P,w::vs,i+1,m,nd,h1,h2,hk=>by
  show bindL kindOf ((p,w)::P.zip vs) m x=_
  unfold bindL
  exact ytk (i:=i) (List.nodup_cons.mp nd).2 (by simpa using h1) (by simpa using h2) hk
theorem ytl {kindOf:Str->Option NameKind}{x:Str}{v:Value}:∀ {P:List Str}{vs:List Value}{i:Nat}{m:Str->Option Value},P.Nodup->P[i]?=some x->vs[i]?=some v->kindOf x≠some .local ->
  bindC kindOf (P.zip vs) m x=some v
 | [],_,_,_,_,h,_,_=>by simp at h
 | _::_,[],_,_,_,_,h,_=>by simp at h
 | p::P,w::vs,0,m,nd,h1,h2,hk=>by
  simp at h1 h2;subst h1;subst h2
  show bindC kindOf ((p,w)::P.zip vs) m p=_
  unfold bindC
  rw [ytj fun v hv=>(List.nodup_cons.mp nd).1 (of_mem_zip hv).1,if_neg hk]
  simp
 | p::P,w::vs,i+1,m,nd,h1,h2,hk=>by
  show bindC kindOf ((p,w)::P.zip vs) m x=_
  unfold bindC
  exact ytl (i:=i) (List.nodup_cons.mp nd).2 (by simpa using h1) (by simpa using h2) hk
def start (N:List Str) (vs:List V):St:=vs.map some++replicate (N.length-vs.length) none
noncomputable def yDK (CX:CXT) (P:Program) (w:World) (K:PySem.W.Frag) (mg:Str->Option Value) (base:Heap) (N:List Str) (qual:Str) (scope:Scope) (f:Addr) (cd:Value) (A:Around) (outer:List Env) (s:Shared) (H:Hp) (E:XK):Cx where
 prog:=P
 w:=w
 K:=K
 mg:=mg
 base:=base
 A:=A.deeper (envOfC qual scope s.heap.objs.size f cd)
 N:=N
 s₀:=s
 H₀:=H
 env:=envOfC qual scope s.heap.objs.size f cd
 outer:=outer
 stack:=envOfC qual scope s.heap.objs.size f cd::outer
 ex:=[]
 calm:=true
 fn:=fun _=>true
 pn:=[]
 xe:=fun e s'=>wpAny (model P w) (A.deeper (envOfC qual scope s.heap.objs.size f cd)) (leaving (envOfC qual scope s.heap.objs.size f cd) e) (fun _ s''=>CX outer H s E e s'') (fun e' s''=>CX outer H s E e' s'') s'
theorem yxQ {sc:Scope}{n:Nat}{x:Str}(h:sc.names.lookup x=some .cell):∃ c,(cellsFrom n sc.names []).lookup x=some c:=by
 have q:=PySem.W.cellsFrom_some sc.names n [] (.inl h)
 exact Option.isSome_iff_exists.mp q
theorem yAt {CX:CXT}{P:Program}{w:World}{K:PySem.W.Frag}{mg:Str->Option Value}{base:Heap}{N ps:List Str}{qual:Str}{scope:Scope}{f:Addr}{cd:Value}{A:Around}{outer:List Env}{s s1:Shared}{H:Hp}{E:XK}{us:List Value}{vs:List V}
  (S:yl N ps scope) (hd:A.handled=none) (e0:Env0 P w K mg base A outer s H) (hl:vs.length=ps.length) (r:Vals vs us)
  (x:InCallC s s.heap.objs.size (bindL (envOfC qual scope s.heap.objs.size f cd).kindOf (ps.zip us) fun _=>none) (cellsFrom (s.heap.objs.size+1) scope.names []) (bindC (envOfC qual scope s.heap.objs.size f cd).kindOf (ps.zip us) fun _=>none) s1) :
  Inv (yDK CX P w K mg base N qual scope f cd A outer s H E) [] (start N vs) H s1:=by
 have hpl:ps.length<=N.length:=by have:=congrArg length S.pre;rw [length_take] at this;omega
 obtain ⟨h1,tk,rfl,hk⟩:=x.done
 have noA:∀ b:Addr,b∉(yDK CX P w K mg base N qual scope f cd A outer s H E).ex:=fun b z=>absurd (show b∈([]:List Addr) from z) (by simp)
 refine ⟨⟨e0.mod,S.kind,rfl,rfl,Nat.le_refl _,fun y z c h1 h2=>?_,fun y hy=>?_,fun y c _ h=>?_,fun _=>hd,Around.frames_deeper e0.frames,.inr ⟨rfl,rfl⟩,fun b z=>absurd z (noA b),e0.bs,e0.bsz,fun b _ _=>noA b,fun b z=>absurd z (noA b),e0.funs,e0.frf⟩,
  rfl,e0.bare,Un.kept hk,⟨_,x.toInCall.ns,fun i y v h1 h2 h3=>?_⟩,fun y c h=>⟨_,x.cell y c h⟩,e0.hok.fresh (Nat.le_refl _),fun y c h=>?_,fun p hp=>absurd (show p∈([]:List (Addr×Obj)) from hp) (by simp),e0.hok.kept hk,?_⟩
 .exact name_of_addr x.apart (PySem.mem_of_lookup h1) (PySem.mem_of_lookup h2)
 .have hy:scope.names.lookup y=some .cell\/scope.names.lookup y=some .free:=hy
  rcases hy with hy|hy
  .exact yxQ hy
  .exact absurd rfl (S.nofree _ (PySem.mem_of_lookup hy))
 .exact le_of_lt (x.above y c (PySem.mem_of_lookup h))
 .have hi:i<vs.length:=by
   unfold start at h2
   by_cases hi:i<vs.length
   .exact hi
   .rw [getElem?_append_right (by simpa using hi)] at h2
    rw [getElem?_replicate] at h2
    split at h2<;>cases h2
  have ha:vs[i]?=some v:=by
   unfold start at h2
   rw [getElem?_append_left (by simpa using hi),getElem?_map] at h2
   cases e:vs[i]? with
   | none=>rw [e] at h2;cases h2
   | some a=>rw [e] at h2;cases h2;rfl
  obtain ⟨u,hu,rv⟩:=r.get ha
  have hp:ps[i]?=some y:=by
   rw [<- S.pre,List.getElem?_take_of_lt (by omega)];exact h1
  have ndP:ps.Nodup:=by rw [<- S.pre];exact S.nd.sublist (List.take_sublist _ _)
  refine ⟨u,rv,?_⟩
  rcases S.par y (mem_of_getElem? hp) with k|k
  .exact .inl ⟨k,ytk ndP hp hu k⟩
  .obtain ⟨c,e⟩:=yxQ (n:=s.heap.objs.size+1) k
   refine .inr ⟨.inl k,c,e,?_⟩
   have q:=x.cell y c e
   rw [ytl ndP hp hu (by show scope.names.lookup y≠_;rw [k];decide)] at q
   exact q
 .exact e0.hok.fresh (le_of_lt (x.above y c (PySem.mem_of_lookup h)))
 .unfold start
  show _=N.length
  rw [length_append,length_map,List.length_replicate]
  omega
theorem yMn {CX:CXT}{P:Program}{w:World}{K:PySem.W.Frag}{mg:Str->Option Value}{base:Heap}{k:Nat}{f:Addr}{name qual:Str}{params:Arguments}{body:List Stmt}{scope:Scope}{dV kV doc pm cdv ct oc:Value}{an od:Option Addr}
  {osl:Array (Option Value)}{N ps:List Str}{sp:Sp}(lk:K.lookup f=some ⟨oc,od,.func (fnOf name qual params body scope dV kV doc pm an cdv ct),osl⟩) (hcd:codeIn K cdv qual=true) (S:yl N ps scope)
  (len:∀ vs H Q E,sp vs H Q E->vs.length=ps.length)
  (hbody:∀ (A:Around) (outer:List Env) (s:Shared) (H:Hp) (vs:List V) (Q:VK) (E:XK),Room k (A.deeper (envOfC qual scope s.heap.objs.size f cdv))->sp vs H Q E ->
   ∃ t,PSs (yDK CX P w K mg base N qual scope f cdv A outer s H E) body t/\t { nx:=fun _ H'=>Q .non H',rt:=Q } (start N vs) H) :
  FnOk P w K mg base CX (k+1) f (fnOf name qual params body scope dV kV doc pm an cdv ct) ps sp:=by
 refine ⟨len,fun A outer s H args us vs Q E hr e0 hb r hsp=>?_⟩
 have hl:=len _ _ _ _ hsp
 have KX:K.In s.heap:=e0.mod.kin.keeps fun b o e=>(e0.bs b o e).1
 have lim:s.heap.NoLimit:=e0.mod.nolimit.keeps fun b o e=>(e0.bs b o e).1
 have hkind:∀ y∈ps.zip us,scope.names.lookup y.1=some .local \/ (scope.names.lookup y.1=some .cell/\((cellsFrom (s.heap.objs.size+1) scope.names []).lookup y.1).isSome=true):=fun ⟨n,v⟩ hy=>by
  rcases S.par n (of_mem_zip hy).1 with q|q
  .exact .inl q
  .exact .inr ⟨q,PySem.W.cellsFrom_some _ _ _ (.inl q)⟩
 refine codeAny_call_function hr.depth (KX _ _ lk) rfl S.co S.gen rfl (PySem.W.codeRec_of KX hcd) (hb _ _ _ _ ?_)
 refine wpAny_newFunctionEnv_cells S.kind hkind fun env he s1 x=>?_
 subst he
 refine ⟨lim.keeps x.toInCall.keep,codeAny_func ?_⟩
 obtain ⟨t,ht,hq⟩:=hbody A outer s H vs Q E (hr.deeper _) hsp
 have I:Inv (yDK CX P w K mg base N qual scope f cdv A outer s H E) [] (start N vs) H s1:=yAt S hr.hd e0 hl r x
 refine wpAny_mono (ht [] s1 (start N vs) H _ I hq) (fun fl s' hs=>?_) fun e s' hs=>hs
 have fin:∀ {σ':St}{H':Hp}{v:V}{u:Value},Inv (yDK CX P w K mg base N qual scope f cdv A outer s H E) [] σ' H' s'->RelV v u->Q v H'->CE outer P w H s Q u s' :=
  fun {σ' H' v u} J rv q=>⟨v,H',J.os,J.bare,J.base,J.hok,rv,q⟩
 cases fl with
 | ret u =>
  obtain ⟨v,σ',H',J,rv,q⟩:=hs
  exact fin J rv q
 | next =>
  obtain ⟨σ',H',J,q⟩:=hs
  exact fin (v:=V.non) (u:=Value.none) J rfl q
 | brk =>
  obtain ⟨_,_,_,q⟩:=hs
  exact False.elim q
 | cont =>
  obtain ⟨_,_,_,q⟩:=hs
  exact False.elim q
end L2
namespace L2
open PySem PySem.Spec PyProof.Rows
section
variable {X:Cx}{x:Str}{p pos:Pos}{e:Expr}{es:List Expr}{t:TA}{id T:String}{r:List V->Hp->VK->Prop}
def tCB (r:List V->Hp->VK->Prop) (t:TA):TE:=fun σ H Q=>t σ H fun vs H1=>r vs H1 Q
theorem ynz (hc:yjs X (.builtin id) r) (hg:Gl X x) (hm:X.mg x=none) (hv:bootBuiltins x=some (.builtin id)) (ha:PA X (e::es) t) (hn:x≠"__name__":=by decide) (hdb:(x == ("__debug__":Str))=false:=by decide)
  (he:starEach (e::es) X.env=(false,eval e X.env)::starEach es X.env:=by rfl) (hpl:(backTo pos (starEach es X.env)).any (·.1)=false:=by rfl):PE X (.Call (.Name x p) (e::es) [] pos) (tCB r t):=by
 intro pins s σ H Q I h
 refine wpAny_Call_Name_kw (ynM I hg hm hv ?_ hn hdb)
 exact PyProof.Rows.callWith_builtin1 (thn (ha pos pins s σ H _ I h) fun us s1 ⟨vs,H1,I1,r1,q1⟩=>hc pins s1 σ H1 vs us Q I1 r1 q1) he hpl
theorem ytm (hc:yjs X (.type T) r) (hg:Gl X x) (hm:X.mg x=none) (hv:bootBuiltins x=some (.type T)) (ha:PA X (e::es) t) (hn:x≠"__name__":=by decide) (hdb:(x == ("__debug__":Str))=false:=by decide)
  (he:starEach (e::es) X.env=(false,eval e X.env)::starEach es X.env:=by rfl) (hpl:(backTo pos (starEach es X.env)).any (·.1)=false:=by rfl):PE X (.Call (.Name x p) (e::es) [] pos) (tCB r t):=by
 intro pins s σ H Q I h
 refine wpAny_Call_Name_kw (ynM I hg hm hv ?_ hn hdb)
 exact PyProof.Rows.callWith_type1 (thn (ha pos pins s σ H _ I h) fun us s1 ⟨vs,H1,I1,r1,q1⟩=>hc pins s1 σ H1 vs us Q I1 r1 q1) he hpl
end
end L2
namespace HT
open PySem PyProof.Rows
section
open PySem.SeqAt
open PySem.AutoSeq1 (wpAny_loadPart')
open PySem.MeetsSeq PySem.MeetsSeq2 PySem.MeetsSeq3
end
section
variable {prog:Program}{w:World}{A:Around}{E:Value->Shared->Prop}{s:Shared}
def sIx (n d:Nat):Option Int->Nat
 | none=>d
 | some v=>if v<0 then (v+(n:Int)).toNat else min v.toNat n
theorem sIx_nat (n d k:Nat):sIx n d (some (k:Int))=min k n:=by
 show (if (k:Int)<0 then ((k:Int)+(n:Int)).toNat else min (k:Int).toNat n)=min k n
 rw [if_neg (by omega),Int.toNat_natCast]
end
end HT
namespace L2
open PySem PySem.Spec PyProof.Rows
abbrev TO:=St->Hp->(Option Int->Hp->Prop)->Prop
noncomputable def PO (X:Cx) (e:Option Expr) (t:TO):Prop :=
 ∀ (pins:List (Addr×Obj)) (s:Shared) (σ:St) (H:Hp) (Q:Option Int->Hp->Prop),Inv X pins σ H s->t σ H Q ->
  wpAny (model X.prog X.w) X.A (evalPart e X.env) (fun u s'=>∃ o H',Inv X pins σ H' s'/\IsPart u o/\Q o H') X.xe s
def yAu:TO:=fun _ H Q=>Q none H
def yJX (t:TE):TO:=fun σ H Q=>t σ H fun x H1=>∃ i,x=.int i/\Q (some i) H1
theorem intsAre_of {ns:List Int}:∀ {us:List Value},Vals (ns.map V.int) us->IntsAre us ns:=by
 induction ns with
 | nil=>intro us r;rw [map_nil] at r;cases r;exact .nil
 | cons n ns ih =>
  intro us r
  rw [map_cons] at r
  cases r with
  | cons r1 r2 =>
   obtain ⟨t,e⟩:=r1
   subst e
   exact .cons n t (ih r2)
section
variable {X:Cx}{e:Expr}{te:TE}{lo hi:Option Expr}{tl th:TO}{pos p2:Pos}
theorem yHl:PO X none yAu:=by
 intro pins s σ H Q I h
 rw [evalPart_none]
 exact wpAny_pure ⟨none,H,I,.none,h⟩
theorem yHm (h:PE X e te):PO X (some e) (yJX te):=by
 intro pins s σ H Q I hw
 rw [evalPart_some]
 refine thn (h pins s σ H _ I hw) fun u s1 ⟨x,H1,I1,r1,q1⟩=>?_
 obtain ⟨i,rfl,q⟩:=q1
 obtain ⟨t,rfl⟩:=r1
 exact ⟨some i,H1,I1,.int i t,q⟩
def SlR (X:Cx) (r:V->Option Int->Option Int->Hp->VK->Prop):Prop :=
 ∀ (pins:List (Addr×Obj)) (s:Shared) (σ:St) (H:Hp) (x:V) (v vl vu:Value) (lo hi:Option Int) (sl:Addr) (Q:VK),Inv X pins σ H s->RelV x v->s.heap.IsSliceOf sl vl vu .none->IsPart vl lo->IsPart vu hi->r x lo hi H Q ->
  ∃ T id,typeLookup (.type T) "__getitem__" = pure (some (.builtin id))/\s.TypeIs v T/\wpAny (model X.prog X.w) X.A (getItem v (.ref sl)) (EP X pins σ Q) X.xe s
noncomputable def tSl (r:V->Option Int->Option Int->Hp->VK->Prop) (te:TE) (tl th:TO):TE:=fun σ H Q=>te σ H fun x H1=>tl σ H1 fun l H2=>th σ H2 fun u H3=>r x l u H3 Q
theorem yxR {r:V->Option Int->Option Int->Hp->VK->Prop}(hr:SlR X r) (he:PE X e te) (hl:PO X lo tl) (hu:PO X hi th):PE X (.Subscript e (.Slice lo hi none p2) pos) (tSl r te tl th):=by
 intro pins s σ H Q I h
 refine Subscript_ (thn (he pins s σ H _ I h) fun v s1 ⟨x,H1,I1,r1,q1⟩=>?_)
 refine wpAny_Slice (thn (hl pins s1 σ H1 _ I1 q1) fun vl s2 ⟨l,H2,I2,pl,q2⟩=>thn (hu pins s2 σ H2 _ I2 q2) fun vu s3 ⟨u,H3,I3,pu,q3⟩=>?_)
 rw [evalPart_none]
 refine wpAny_pure ?_
 have I4:Inv X pins σ H3 { s3 with heap:=s3.heap.push { cls:=.type "slice",data:=.fields #[vl,vu,.none] } }:=I3.kept (t':=s3.toks) fun b ob q=>Heap.get?_push_of_some _ q
 obtain ⟨T,id,hT,ht,hg⟩:=hr pins { s3 with heap:=s3.heap.push { cls:=.type "slice",data:=.fields #[vl,vu,.none] } } σ H3 x v vl vu l u s3.heap.objs.size Q I4 r1 (Heap.IsSliceOf.new ..) pl pu q3
 show wpAny (model X.prog X.w) X.A (subscriptTail e (.Slice lo hi none p2) v (.ref s3.heap.objs.size)) (EP X pins σ Q) X.xe { s3 with heap:=s3.heap.push { cls:=.type "slice",data:=.fields #[vl,vu,.none] } }
 exact tail_any (ops:=[.ref s3.heap.objs.size,v]) ht hT hg (by with_unfolding_all rfl)
noncomputable def yJY (xs:List V) (lo hi:Option Int):List V:=(xs.drop (HT.sIx xs.length 0 lo)).take (HT.sIx xs.length xs.length hi-HT.sIx xs.length 0 lo)
theorem yvV (xs:List V) (lo hi:Option Int):(yJY xs lo hi).length<=xs.length:=by
 unfold yJY
 rw [length_take,length_drop]
 omega
end
end L2
namespace L2
open PySem PySem.Spec PyProof.Rows
noncomputable def ixN (n:Nat) (i:Int):Option Nat:=if 0<=i then (if i<n then some i.toNat else none) else if -(n:Int)<=i then some (i+n).toNat else none
def atI {α:Type}(xs:List α) (i:Int):Option α:=(ixN xs.length i).bind fun j=>xs[j]?
theorem yAv {n:Nat}{i:Int}{j:Nat}(h:ixN n i=some j):seqIndex? i n=some j/\j<n/\-(n:Int)<=i/\i<n:=by
 unfold ixN at h
 by_cases h0:0<=i
 .rw [if_pos h0] at h
  by_cases h1:i<n
  .rw [if_pos h1] at h
   have e:i.toNat=j:=Option.some.inj h
   exact ⟨by rw [seqIndex_of h0 h1,e],by omega,by omega,h1⟩
  .rw [if_neg h1] at h;cases h
 .rw [if_neg h0] at h
  by_cases h1:-(n:Int)<=i
  .rw [if_pos h1] at h
   have e:(i+n).toNat=j:=Option.some.inj h
   exact ⟨by rw [seqIndex_neg (by omega) h1,e],by omega,h1,by omega⟩
  .rw [if_neg h1] at h;cases h
theorem yvW {α:Type}{xs:List α}{i:Int}{v:α}(h:atI xs i=some v):∃ j,seqIndex? i xs.length=some j/\xs[j]?=some v/\j<xs.length/\-(xs.length:Int)<=i/\i<xs.length:=by
 unfold atI at h
 cases e:ixN xs.length i with
 | none=>rw [e] at h;cases h
 | some j =>
  rw [e] at h
  obtain ⟨h1,h2,h3,h4⟩:=yAv e
  exact ⟨j,h1,h,h2,h3,h4⟩
theorem ycb {α:Type}{xs:List α}{j:Nat}{v:α}(h:xs[j]?=some v):atI xs (j:Int)=some v:=by
 have hj:j<xs.length:=(List.getElem?_eq_some_iff.mp h).1
 have e:ixN xs.length (j:Int)=some j:=by
  unfold ixN
  rw [if_pos (by omega),if_pos (by omega)];simp
 unfold atI;rw [e];exact h
def yAw (b:Expr):Prop:=∀ o i,subscripted b false o i=operate [o,i] (getItem o i)
def IxR (X:Cx) (r:R2):Prop :=
 ∀ (value slice:Expr) (pins:List (Addr×Obj)) (s:Shared) (σ:St) (H:Hp) (x y:V) (v u:Value) (Q:VK),Inv X pins σ H s->RelV x v->RelV y u->r x y H Q ->
  subscripted slice false v u=operate [v,u] (getItem v u)->wpAny (model X.prog X.w) X.A (subscriptTail value slice v u) (EP X pins σ Q) X.xe s
def MtR (X:Cx) (id:String) (r:V->List V->Hp->VK->Prop):Prop :=
 ∀ (pins:List (Addr×Obj)) (s:Shared) (σ:St) (H:Hp) (x:V) (xs:List V) (v:Value) (us:List Value) (Q:VK),Inv X pins σ H s->RelV x v->Vals xs us->r x xs H Q ->
  wpAny (model X.prog X.w) X.A (call (.builtin id) (v::us)) (EP X pins σ Q) X.xe s
section
variable {X:Cx}{a b:Expr}{ta tb:TE}{pos:Pos}
theorem IxR.or {r r':R2}(h:IxR X r) (h':IxR X r'):IxR X (fun x y H Q=>r x y H Q\/r' x y H Q):=by
 intro value slice pins s σ H x y v u Q I rx ry q hs
 rcases q with q|q
 .exact h value slice pins s σ H x y v u Q I rx ry q hs
 .exact h' value slice pins s σ H x y v u Q I rx ry q hs
theorem yMo {r:R2}(hr:IxR X r) (ha:PE X a ta) (hb:PE X b tb) (hs:yAw b):PE X (.Subscript a b pos) (tOp r ta tb):=by
 intro pins s σ H Q I h
 exact Subscript_ (yMg ha hb I h fun v u s2 x y H2 I2 rx ry q=>hr a b pins s2 σ H2 x y v u Q I2 rx ry q (hs _ _))
def yMp (K:PySem.W.Frag):R2:=fun x y H Q=>∃ p xs i v,x=.ref p/\y=.int i/\SqL K H p xs/\atI xs i=some v/\Q v H
def yMq (K:PySem.W.Frag):R2:=fun x y H Q=>∃ p xs i v,x=.ref p/\y=.int i/\SqT K H p xs/\atI xs i=some v/\Q v H
def yMr:R2:=fun x y H Q=>∃ z i c,x=.str z/\y=.int i/\z.length<=sizeLine/\atI z.cps.toList i=some c/\Q (.str ⟨#[c]⟩) H
theorem ix_list:IxR X (yMp X.K):=by
 intro value slice pins s σ H x y v u Q I rx ry h hs
 obtain ⟨p,xs,i,z,rfl,rfl,hq,he,q⟩:=h
 cases rx
 obtain ⟨t,rfl⟩:=ry
 obtain ⟨its,r,pl,hz⟩:=I.list hq
 obtain ⟨j,h1,h2,h3,h4,h5⟩:=yvW he
 obtain ⟨w,ew,rw'⟩:=r.get h2
 have hl:=r.length
 have hn:=yqG
 have fin:EP X pins σ Q w s:=⟨z,H,I,rw',q⟩
 by_cases h0:0<=i
 .have hj:i.toNat=j:=by
   rw [seqIndex_of h0 h5] at h1
   exact Option.some.inj h1
  exact item_listR pl.isList h0 (by omega) (by rw [hj];simpa using ew) fin hs
 .have hj:(i+(its.toArray.size:Int)).toNat=j:=by
   rw [seqIndex_neg (by omega) h4] at h1
   rw [size_toArray,<- hl]
   exact Option.some.inj h1
  exact subscriptTail_builtinR (x:=w) pl.isList.typeIs slot_list_getitem.lookup
   (wpAny_getItem_list_neg (Q:=fun r s'=>r=w/\EP X pins σ Q r s') pl.isList (by omega) (by rw [size_toArray]<;>omega) (by omega) (by rw [hj];simpa using ew) ⟨rfl,fin⟩) hs
theorem ix_tup:IxR X (yMq X.K):=by
 intro value slice pins s σ H x y v u Q I rx ry h hs
 obtain ⟨p,xs,i,z,rfl,rfl,hq,he,q⟩:=h
 cases rx
 obtain ⟨t,rfl⟩:=ry
 obtain ⟨its,r,pl,hz⟩:=I.tuple hq
 obtain ⟨j,h1,h2,h3,h4,h5⟩:=yvW he
 obtain ⟨w,ew,rw'⟩:=r.get h2
 have hl:=r.length
 have hn:=yqG
 have fin:EP X pins σ Q w s:=⟨z,H,I,rw',q⟩
 exact subscriptTail_builtinR (x:=w) pl.typeIs slot_tuple_getitem.lookup
  (getItem_tuple (j:=j) (Q:=fun r s'=>r=w/\EP X pins σ Q r s') pl (by omega) (by omega) (by rw [size_toArray,<- hl];exact h1) (by simpa using ew) ⟨rfl,fin⟩) hs
theorem yky:IxR X yMr:=by
 intro value slice pins s σ H x y v u Q I rx ry h hs
 obtain ⟨z,i,c,rfl,rfl,hz,he,q⟩:=h
 obtain ⟨t,rfl⟩:=rx
 obtain ⟨t',rfl⟩:=ry
 obtain ⟨j,h1,h2,h3,h4,h5⟩:=yvW he
 have hl:z.cps.toList.length=z.length:=by simp [Str.length]
 rw [hl] at h1 h4 h5
 have hn:=yqG
 exact tail_any (typeIs_str s z t) slot_str_getitem.lookup (getItem_str (c:=c) (by
  have e1:decide (i < -(2 ^ 63:Int))=false:=decide_eq_false (by omega)
  have e2:decide (i>=2 ^ 63)=false:=decide_eq_false (by omega)
  rw [e1,e2,Bool.or_false]) (by rw [h1];simpa using h2) ⟨.str ⟨#[c]⟩,H,I.tok _,⟨_,rfl⟩,q⟩) hs
def rIx (K:PySem.W.Frag):R2:=fun x y H Q=>yMp K x y H Q\/yMq K x y H Q\/yMr x y H Q
theorem yFR:IxR X (rIx X.K):=ix_list.or (ix_tup.or yky)
theorem yyW (its:List Value) (n j:Nat) (u:Value):Obj.mapSeq (·.setIfInBounds j u) { cls:=.type "list",data:=.seq its.toArray n }={ cls:=.type "list",data:=.seq (its.set j u).toArray n }:=by
 simp [Obj.mapSeq]
theorem Inv.lst {pins:List (Addr×Obj)}{σ:St}{H:Hp}{s:Shared}{p:Addr}{xs:List V}(I:Inv X pins σ H s) (h:H p=some (.lst xs)) :
  ∃ (its:List Value) (n:Nat),Vals xs its/\s.heap.get? p=some { cls:=.type "list",data:=.seq its.toArray n }/\xs.length<=sizeLine:=by
 obtain ⟨z,its,n,r,e⟩:=I.hok p _ h
 exact ⟨its,n,r,e,z⟩
theorem Inv.lstUpd {pins:List (Addr×Obj)}{σ:St}{H:Hp}{s:Shared}{p:Addr}{xs ys:List V}{its its':List Value}{n n':Nat}{f:Obj->Obj}(I:Inv X pins σ H s) (h:H p=some (.lst xs))
  (ho:s.heap.get? p=some { cls:=.type "list",data:=.seq its.toArray n }) (hf:f { cls:=.type "list",data:=.seq its.toArray n }={ cls:=.type "list",data:=.seq its'.toArray n' }) (r:Vals ys its') (hz:ys.length<=sizeLine) (t:Nat) :
  Inv X pins σ (upd H p (.lst ys)) { s with heap:=s.heap.update p f,toks:=t }:=by
 have e:(s.heap.update p f).get? p=some { cls:=.type "list",data:=.seq its'.toArray n' }:=by
  rw [Heap.get?_update_self f ho (by rw [hf]<;>rfl),hf]
 refine I.write (x:=p) (e:=p) (by rw [h];trivial) (.inl rfl) (fun b u hb q=>(Heap.get?_update_other _ _ (Ne.symm hb)).trans q) ⟨_,e⟩ ?_
 exact ⟨hz,its',n',r,e⟩
def yJZ:V->V->V->Hp->(Hp->Prop)->Prop:=fun o i v H Q=>∃ p xs k j,o=.ref p/\i=.int k/\H p=some (.lst xs)/\ixN xs.length k=some j/\Q (upd H p (.lst (xs.set j v)))
theorem set_list:yNQ X yJZ:=by
 intro pins s σ H o i v ov iv u Q I ro ri rv h
 obtain ⟨p,xs,k,j,rfl,rfl,hp,hj,q⟩:=h
 cases ro
 obtain ⟨t,rfl⟩:=ri
 obtain ⟨its,n,r,ho,hz⟩:=I.lst hp
 obtain ⟨h1,h2,h3,h4⟩:=yAv hj
 have hl:=r.length
 have hn:=yqG
 have I':Inv X pins σ (upd H p (.lst (xs.set j v))) { s with heap:=s.heap.update p (Obj.mapSeq (·.setIfInBounds j u)) } :=
  I.lstUpd hp ho (yyW its n j u) (r.set rv j) (by rw [length_set];exact hz) s.toks
 by_cases h0:0<=k
 .have hk:k.toNat=j:=by
   rw [seqIndex_of h0 h4] at h1
   exact Option.some.inj h1
  exact PySem.W.ki_setAt ho h0 (by omega) (by rw [size_toArray,<- hl];exact h4) (by rw [hk];exact ⟨_,I',q⟩)
 .have hk:(k+(its.toArray.size:Int)).toNat=j:=by
   rw [seqIndex_neg (by omega) h3] at h1
   rw [size_toArray,<- hl]
   exact Option.some.inj h1
  exact PySem.W.ki_setBack ho (by omega) (by rw [size_toArray,<- hl];exact h3) (by omega) (by rw [hk];exact ⟨_,I',q⟩)
theorem ytn (lo hi:Option Int) (n:Nat):(sliceBounds lo hi none n).1=((HT.sIx n 0 lo:Nat):Int)/\(sliceBounds lo hi none n).2.1=((HT.sIx n n hi:Nat):Int)/\(sliceBounds lo hi none n).2.2=1:=by
 refine ⟨?_,?_,rfl⟩
 .cases lo with
  | none=>simp [sliceBounds,HT.sIx]
  | some i =>
   simp only [sliceBounds,HT.sIx,Option.getD_none,show (1:Int)>0 by decide,if_true]
   by_cases h:i<0
   .simp only [h,if_true]<;>omega
   .simp only [h,if_false]<;>omega
 .cases hi with
  | none=>simp [sliceBounds,HT.sIx]
  | some i =>
   simp only [sliceBounds,HT.sIx,Option.getD_none,show (1:Int)>0 by decide,if_true]
   by_cases h:i<0
   .simp only [h,if_true]<;>omega
   .simp only [h,if_false]<;>omega
theorem yrq (its:List Value) (lo hi:Option Int):slicePick its.toArray lo hi none=((its.drop (HT.sIx its.length 0 lo)).take (HT.sIx its.length its.length hi-HT.sIx its.length 0 lo)).toArray:=by
 obtain ⟨h1,h2,h3⟩:=ytn lo hi its.toArray.size
 unfold slicePick
 rw [h1,h2,h3]
 simp only [sliceRange_one,pick_run,size_toArray]<;>rfl
def yNX (K:PySem.W.Frag):V->Option Int->Option Int->Hp->VK->Prop:=fun x lo hi H Q=>∃ a xs,x=.ref a/\SqL K H a xs/\∀ p,H p=none->Q (.ref p) (upd H p (.lst (yJY xs lo hi)))
theorem yjt:SlR X (yNX X.K):=by
 intro pins s σ H x v vl vu lo hi sl Q I rx hs pl pu h
 obtain ⟨a,xs,rfl,hx,q⟩:=h
 cases rx
 obtain ⟨its,r,ht,hz⟩:=I.list hx
 have hlen:=r.length
 refine ⟨"list",_,slot_list_getitem.lookup,ht.isList.typeIs,?_⟩
 refine wpAny_getItem_list_slice ht.isList hs pl pu .none (by simp) ?_ (by rw [size_toArray]<;>omega)
 rw [yrq,<- hlen]
 refine ⟨.ref s.heap.objs.size,_,I.laid (t':=s.toks) (o:=.lst (yJY xs lo hi)) (fun b ob q=>Heap.get?_push_of_some _ q) (Nat.le_refl _) ?_,rfl,q _ (I.hok.fresh (Nat.le_refl _))⟩
 exact ⟨Nat.le_trans (yvV xs lo hi) hz,_,0,(r.drop (HT.sIx xs.length 0 lo)).take (HT.sIx xs.length xs.length hi-HT.sIx xs.length 0 lo),Heap.get?_push_size _ rfl⟩
def ykz:V->Bool
 | .non=>true
 | .bl _=>true
 | .int _=>true
 | .str _=>true
 | _=>false
noncomputable def eqV:V->V->Bool
 | .non,.non=>true
 | .bl a,.bl b=>a == b
 | .bl a,.int b=>(if a then 1 else 0) == b
 | .int a,.bl b=>a == (if b then 1 else 0)
 | .int a,.int b=>a == b
 | .str a,.str b=>a == b
 | _,_=>false
theorem eqAt_V {A:Around}{s:Shared}{y x:V}{u v:Value}(ry:RelV y u) (rx:RelV x v) (fy:ykz y=true) (fx:ykz x=true):SeqAt.EqAt A s u v (eqV y x):=by
 cases y with
 | non =>
  cases ry
  cases x with
  | non=>cases rx;exact SeqAt.EqAt.same _
  | bl b=>cases rx;exact SeqAt.EqAt.none_bool b
  | int b=>obtain ⟨t,rfl⟩:=rx;exact SeqAt.EqAt.none_int b t
  | str b=>obtain ⟨t,rfl⟩:=rx;exact SeqAt.EqAt.none_str b t
  | _=>exact absurd (show false=true from fx) Bool.false_ne_true
 | bl a =>
  cases ry
  cases x with
  | non=>cases rx;exact SeqAt.EqAt.bool_none a
  | bl b=>cases rx;exact SeqAt.EqAt.bool_bool a b
  | int b=>obtain ⟨t,rfl⟩:=rx;exact SeqAt.EqAt.bool_int a b t
  | str b=>obtain ⟨t,rfl⟩:=rx;exact SeqAt.EqAt.bool_str a b t
  | _=>exact absurd (show false=true from fx) Bool.false_ne_true
 | int a =>
  obtain ⟨t',rfl⟩:=ry
  cases x with
  | non=>cases rx;exact SeqAt.EqAt.int_none a t'
  | bl b=>cases rx;exact SeqAt.EqAt.int_bool a t' b
  | int b=>obtain ⟨t,rfl⟩:=rx;exact SeqAt.EqAt.int_int a t' b t
  | str b=>obtain ⟨t,rfl⟩:=rx;exact SeqAt.EqAt.int_str a t' b t
  | _=>exact absurd (show false=true from fx) Bool.false_ne_true
 | str a =>
  obtain ⟨t',rfl⟩:=ry
  cases x with
  | non=>cases rx;exact SeqAt.EqAt.str_none a t'
  | bl b=>cases rx;exact SeqAt.EqAt.str_bool a t' b
  | int b=>obtain ⟨t,rfl⟩:=rx;exact SeqAt.EqAt.str_int a t' b t
  | str b=>obtain ⟨t,rfl⟩:=rx;exact SeqAt.EqAt.str_str a t' b t
  | _=>exact absurd (show false=true from fx) Bool.false_ne_true
 | _=>exact absurd (show false=true from fy) Bool.false_ne_true
def eqU (x:V) (u:Value):Bool:=match u with
 | .none=>eqV .non x
 | .bool b=>eqV (.bl b) x
 | .int i _=>eqV (.int i) x
 | .str z _=>eqV (.str z) x
 | _=>false
theorem yFS {x y:V}{u:Value}(r:RelV y u) (f:ykz y=true):eqU x u=eqV y x:=by
 cases y with
 | non=>cases r;rfl
 | bl b=>cases r;rfl
 | int i=>obtain ⟨t,rfl⟩:=r;rfl
 | str z=>obtain ⟨t,rfl⟩:=r;rfl
 | _=>exact absurd (show false=true from f) Bool.false_ne_true
theorem yvX {x:V}:∀ {xs:List V}{us:List Value},Vals xs us->xs.all ykz=true->us.any (eqU x)=xs.any fun y=>eqV y x
 | _,_,.nil,_=>rfl
 | y::xs,u::us,.cons r t,f=>by
  rw [List.all_cons,and_eq_true] at f
  rw [any_cons,any_cons,yFS r f.1,yvX t f.2]
theorem yrr {A:Around}{s:Shared}{x:V}{v:Value}(rx:RelV x v) (fx:ykz x=true):∀ {xs:List V}{us:List Value},Vals xs us->xs.all ykz=true->∀ u∈us,SeqAt.EqAt A s u v (eqU x u)
 | _,_,.nil,_=>fun u hu=>by cases hu
 | y::xs,u::us,.cons r t,f=>fun u' hu=>by
  rw [List.all_cons,and_eq_true] at f
  rcases mem_cons.mp hu with rfl|hu
  .rw [yFS r f.1];exact eqAt_V r rx f.1 fx
  .exact yrr rx fx t f.2 u' hu
def inV (x:V) (xs:List V):Bool:=xs.any fun y=>eqV y x
def rIn (K:PySem.W.Frag) (neg:Bool):R2:=fun x y H Q=>∃ p xs,y=.ref p/\(SqL K H p xs\/SqT K H p xs)/\ykz x=true/\xs.all ykz=true/\Q (.bl (if neg then !inV x xs else inV x xs)) H
theorem yto:OpR X (compareOp .In) (rIn X.K false):=by
 intro pins s σ H x y v u Q I rx ry h
 obtain ⟨p,xs,rfl,hq,fx,fs,q⟩:=h
 cases ry
 rcases hq with hq|hq
 .obtain ⟨its,r,pl,hz⟩:=I.list hq
  refine SeqAt.in_listAt (eqU x) pl.isList (fun w hw=>yrr rx fx r fs w (by simpa using hw)) ⟨.bl _,H,I,rfl,?_⟩
  rw [show its.toArray.any (eqU x)=its.any (eqU x) by simp,yvX r fs]
  exact q
 .obtain ⟨its,r,pl,hz⟩:=I.tuple hq
  refine SeqAt.in_tupleAt (eqU x) pl (fun w hw=>yrr rx fx r fs w (by simpa using hw)) ⟨.bl _,H,I,rfl,?_⟩
  rw [show its.toArray.any (eqU x)=its.any (eqU x) by simp,yvX r fs]
  exact q
theorem ybj:yjs X (.builtin "len") (fun xs H Q=>∃ p ys,xs=[.ref p]/\(SqL X.K H p ys\/SqT X.K H p ys)/\Q (.int ys.length) H):=by
 intro pins s σ H xs us Q I r h
 obtain ⟨p,ys,rfl,hq,q⟩:=h
 obtain ⟨u,rfl,rx⟩:=vals1 r
 cases rx
 have hn:=yqG
 rcases hq with hq|hq
 .obtain ⟨its,r',pl,hz⟩:=I.list hq
  have hlen:=r'.length
  exact Calls.call_len_list pl.isList (by simp only [size_toArray]<;>omega) ⟨.int ys.length,H,I.tok _,⟨s.toks+1,by rw [size_toArray,hlen]⟩,q⟩
 .obtain ⟨its,r',pl,hz⟩:=I.tuple hq
  have hlen:=r'.length
  exact len_tuple pl (by simp only [size_toArray]<;>omega) ⟨.int ys.length,H,I.tok _,⟨s.toks+1,by rw [size_toArray,hlen]⟩,q⟩
theorem ytp:yjs X (.builtin "len") (fun xs H Q=>∃ z,xs=[.str z]/\z.length<=sizeLine/\Q (.int z.length) H):=by
 intro pins s σ H xs us Q I r h
 obtain ⟨z,rfl,hz,q⟩:=h
 obtain ⟨u,rfl,t,rfl⟩:=vals1 r
 have hn:=yqG
 exact len_str (by omega) ⟨.int z.length,H,I.tok _,⟨_,rfl⟩,q⟩
theorem ybk:yjs X (.type "list") (fun xs H Q=>∃ p ys,xs=[.ref p]/\(SqL X.K H p ys\/SqT X.K H p ys)/\∀ l,H l=none->Q (.ref l) (upd H l (.lst ys))):=by
 intro pins s σ H xs us Q I r h
 obtain ⟨p,ys,rfl,hq,q⟩:=h
 obtain ⟨u,rfl,rx⟩:=vals1 r
 cases rx
 have fin:∀ (its:List Value),Vals ys its->ys.length<=sizeLine->∀ (h':Heap) (c':Nat),(∀ b o',s.heap.get? b=some o'->h'.get? b=some o') ->
   h'.get? s.heap.objs.size=some { cls:=.type "list",dict:=none,data:=.seq its.toArray c',slots:=#[] }->EP X pins σ Q (.ref s.heap.objs.size) { s with heap:=h' }:=fun its r' hz h' c' kp e =>
  ⟨.ref s.heap.objs.size,_,I.laid (t':=s.toks) kp (Nat.le_refl _) (show ObjOk X.prog X.w _ h' _ (.lst ys) from ⟨hz,its,c',r',e⟩),rfl,q _ (I.hok.fresh (Nat.le_refl _))⟩
 rcases hq with hq|hq
 .obtain ⟨its,r',pl,hz⟩:=I.list hq
  have hlen:=r'.length
  obtain ⟨o,ho,hc,n,hd⟩:=pl.isList
  exact call_list_seq p (.inl rfl) ho hc hd (fun h' c' kp e=>fin its r' hz h' c' kp e) (by simp only [size_toArray]<;>omega)
 .obtain ⟨its,r',pl,hz⟩:=I.tuple hq
  have hlen:=r'.length
  obtain ⟨o,ho,hc,n,hd⟩:=pl
  exact call_list_seq p (.inr rfl) ho hc hd (fun h' c' kp e=>fin its r' hz h' c' kp e) (by simp only [size_toArray]<;>omega)
def tyV (K:PySem.W.Frag) (T:String) (x:V) (H:Hp):Prop:=match x with
 | .str _=>T = "str"
 | .int _=>T = "int"
 | .ref p=>(T = "list"/\∃ xs,SqL K H p xs)\/(T = "tuple"/\∃ o,K.lookup p=some o/\o.cls=.type "tuple"/\o.dict=none) \/
   (T = "dict"/\((∃ kvs,H p=some (.dK kvs))\/∃ kvs,H p=some (.dT kvs)))\/(T = "set"/\∃ S n,H p=some (.set S n))
 | _=>False
theorem yFT {pins:List (Addr×Obj)}{σ:St}{H:Hp}{s:Shared}{T:String}{x:V}{v:Value}(I:Inv X pins σ H s) (r:RelV x v) (ty:tyV X.K T x H) :
  s.TypeIs v T/\∀ a,v=.ref a->∃ ob,s.heap.get? a=some ob/\ob.dict=none:=by
 cases x with
 | str z =>
  obtain ⟨t,rfl⟩:=r
  cases (show T = "str" from ty)
  exact ⟨typeIs_str s z t,fun _ e=>nomatch e⟩
 | int i =>
  obtain ⟨t,rfl⟩:=r
  cases (show T = "int" from ty)
  exact ⟨typeIs_int s i t,fun _ e=>nomatch e⟩
 | ref p =>
  cases r
  rcases ty with ⟨rfl,xs,hq⟩|⟨rfl,o,hk,hc,hd⟩|⟨rfl,hk⟩|⟨rfl,S,n,hk⟩
  .obtain ⟨its,_,pl,_⟩:=I.list hq
   refine ⟨pl.isList.typeIs,fun a e=>?_⟩
   cases e
   obtain ⟨o,n,e,c,hd,_⟩:=pl
   exact ⟨o,e,hd⟩
  .refine ⟨⟨o,I.kIn p o hk,hc⟩,fun a e=>?_⟩
   cases e
   exact ⟨o,I.kIn _ o hk,hd⟩
  .have z:∃ o,s.heap.get? p=some o/\o.ExactDict:=by
    rcases hk with ⟨kvs,hk⟩|⟨kvs,hk⟩
    .obtain ⟨_,_,_,_,o,_,_,e,ex,_⟩:=I.hok p _ hk
     exact ⟨o,e,ex⟩
    .obtain ⟨_,_,_,_,o,_,_,e,ex,_⟩:=I.hok p _ hk
     exact ⟨o,e,ex⟩
   obtain ⟨o,e,ex⟩:=z
   refine ⟨⟨o,e,ex.1⟩,fun a e2=>?_⟩
   cases e2
   exact ⟨o,e,ex.2.1⟩
  .obtain ⟨o,_,_,_,e,ex,_⟩:=I.hok p _ hk
   refine ⟨⟨o,e,ex.1⟩,fun a e2=>?_⟩
   cases e2
   exact ⟨o,e,ex.2.1⟩
 | _=>exact False.elim ty
def yMs (K:PySem.W.Frag) (T:String) (r:V->List V->Hp->VK->Prop) (to:TE):TE:=fun σ H Q=>to σ H fun x H1=>tyV K T x H1/\r x [] H1 Q
def tBM (K:PySem.W.Frag) (T:String) (r:V->List V->Hp->VK->Prop) (to:TE) (t:TA):TE:=fun σ H Q=>to σ H fun x H1=>tyV K T x H1/\t σ H1 fun xs H2=>r x xs H2 Q
variable {o e:Expr}{es:List Expr}{to:TE}{t:TA}{name:Str}{apos cpos:Pos}{T id:String}{r:V->List V->Hp->VK->Prop}
theorem yFU (pa:PlainAttrs T) (slot:Slot T name id) (hty:typeOf (.builtin id)=pure (.type "method_descriptor")) (hm:MtR X id r) (ho:PE X o to)
  (hbase:attributeBase o name X.env (eval o X.env)=eval o X.env:=by rfl) (hline:(apos.endLine == cpos.line)=true:=by rfl):PE X (.Call (.Attribute o name apos) [] [] cpos) (yMs X.K T r to):=by
 intro pins s σ H Q I h
 refine wpAny_Call_method0_late hbase hline (thn (ho pins s σ H _ I h) fun v s1 ⟨x,H1,I1,r1,ty,q1⟩=>?_)
 obtain ⟨h1,h2⟩:=yFT I1 r1 ty
 exact ⟨T,id,pa,slot,hty,h1,h2,Calls.callWith_builtin rfl (PySem.evalArgs_none (hm pins s1 σ H1 x [] v [] Q I1 r1 .nil q1))⟩
theorem yHn (pa:PlainAttrs T) (slot:Slot T name id) (hty:typeOf (.builtin id)=pure (.type "method_descriptor")) (hm:MtR X id r) (ho:PE X o to) (ha:PA X (e::es) t)
  (hbase:attributeBase o name X.env (eval o X.env)=eval o X.env:=by rfl)
  (hfew:((backTo cpos (starEach (e::es) X.env)).all (fun x=>!x.1) && (backToKw cpos (keywordEach [] X.env)).all (fun x=>x.1.isSome)
   && decide ((e::es).length+([]:List Keyword).length+(if ([]:List Keyword).isEmpty then 0 else 1)<30))=true:=by rfl)
  (hline:(apos.endLine == cpos.line)=true:=by rfl) (hs:starEach (e::es) X.env=(false,eval e X.env)::starEach es X.env:=by rfl) (hplain:(backTo cpos (starEach es X.env)).any (·.1)=false:=by rfl) :
  PE X (.Call (.Attribute o name apos) (e::es) [] cpos) (tBM X.K T r to t):=by
 intro pins s σ H Q I h
 refine wpAny_Call_method_late hbase hfew hline rfl (thn (ho pins s σ H _ I h) fun v s1 ⟨x,H1,I1,r1,ty,q1⟩=>?_)
 obtain ⟨h1,h2⟩:=yFT I1 r1 ty
 refine ⟨T,id,pa,slot,hty,h1,h2,?_⟩
 have hA:=ha cpos pins s1 σ H1 _ I1 q1
 rw [hs] at hA ⊢
 refine Calls.callWith_builtin (by show (false || (backTo cpos (starEach es X.env)).any (·.1))=false;rw [hplain]<;>rfl) (Calls.evalArgs_plain ?_)
 exact thn hA fun us s2 ⟨vs,H2,I2,r2,q2⟩=>hm pins s2 σ H2 x vs v us Q I2 r1 r2 q2
end
end L2
namespace L2
open PySem PySem.Spec PyProof.Rows
def MtM (X:Cx) (id:String) (r:V->List V->Hp->VK->Prop):Prop :=
 ∀ (pins:List (Addr×Obj)) (s:Shared) (σ:St) (H:Hp) (x:V) (xs:List V) (v:Value) (us:List Value) (Q:VK),Inv X pins σ H s->RelV x v->Vals xs us->r x xs H Q ->
  wpAny (model X.prog X.w) X.A (call (.builtin id) (v::us)) (EP X pins σ Q) X.xe s
theorem Vals.one:∀ {x:V}{us:List Value},Vals [x] us->∃ u,us=[u]/\RelV x u
 | _,_,.cons r .nil=>⟨_,rfl,r⟩
theorem Vals.zero:∀ {us:List Value},Vals [] us->us=[]
 | _,.nil=>rfl
theorem Vals.dropLast {xs:List V}{us:List Value}(h:Vals xs us):Vals xs.dropLast us.dropLast:=by
 induction h with
 | nil=>exact .nil
 | cons r t ih =>
  cases t with
  | nil=>exact .nil
  | cons q t'=>exact .cons r ih
theorem Vals.rep {xs:List V}{us:List Value}(h:Vals xs us):∀ k:Nat,Vals (replicate k xs).flatten (replicate k us).flatten
 | 0=>.nil
 | k+1=>by
  rw [List.replicate_succ,List.replicate_succ,List.flatten_cons,List.flatten_cons]
  exact Vals.append h (Vals.rep h k)
theorem yyX {α:Type}(l:List α):l.eraseIdx (l.length-1)=l.dropLast:=by
 induction l with
 | nil=>rfl
 | cons a r ih =>
  cases r with
  | nil=>rfl
  | cons b r =>
   have e:(a::b::r).length-1=((b::r).length-1)+1:=by
    have h1:(a::b::r).length=r.length+2:=rfl
    have h2:(b::r).length=r.length+1:=rfl
    omega
   rw [e,List.eraseIdx_cons_succ,ih]
   all_goals rfl
section
variable {X:Cx}{pins:List (Addr×Obj)}{σ:St}{H:Hp}{s:Shared}{l b:Addr}{xs ys zs:List V}
theorem Inv.lset {its its':List Value}{n:Nat}{f:Array Value->Array Value}{t':Nat}(I:Inv X pins σ H s) (hH:H l=some (.lst xs))
  (e:s.heap.get? l=some { cls:=.type "list",data:=.seq its.toArray n }) (hf:f its.toArray=its'.toArray) (hv:Vals ys its') (hz:ys.length<=sizeLine) :
  Inv X pins σ (upd H l (.lst ys)) { s with heap:=s.heap.update l (Obj.mapSeq f),toks:=t' }:=by
 have q:=PySem.IsL.update e f
 rw [hf] at q
 refine I.write (x:=l) (e:=l) (by rw [hH];exact trivial) (.inl rfl) (fun b' u hb hu=>(Heap.get?_update_other s.heap (Obj.mapSeq f) (Ne.symm hb)).trans hu) ⟨_,q⟩ ?_
 exact ⟨hz,its',_,hv,q⟩
theorem Inv.lnew {its:List Value}{t':Nat}(I:Inv X pins σ H s) (hv:Vals ys its) (hz:ys.length<=sizeLine) :
  Inv X pins σ (upd H s.heap.objs.size (.lst ys)) { s with heap:=s.heap.push { cls:=.type "list",data:=.seq its.toArray },toks:=t' } :=
 I.laid (fun _ _ q=>Heap.get?_push_of_some _ q) (Nat.le_refl _) ⟨hz,its,0,hv,Heap.get?_push_size _ rfl⟩
theorem Inv.fresh (I:Inv X pins σ H s):H s.heap.objs.size=none:=I.hok.fresh (Nat.le_refl _)
theorem Inv.lstM (I:Inv X pins σ H s) (hH:H l=some (.lst xs)):xs.length<=sizeLine/\∃ (its:List Value) (n:Nat),Vals xs its/\xs.length=its.length/\s.heap.get? l=some { cls:=.type "list",data:=.seq its.toArray n }:=by
 obtain ⟨z,its,n,r,e⟩:=I.hok l _ hH
 exact ⟨z,its,n,r,r.length,e⟩
theorem yDL {n:Nat}(h:n<=sizeLine):Builtin.List.listTooLong n=false:=by
 unfold Builtin.List.listTooLong
 exact decide_eq_false (by omega)
end
section
variable {X:Cx}
noncomputable def yvY:V->List V->Hp->VK->Prop:=fun x vs H Q=>∃ l xs y,x=.ref l/\vs=[y]/\H l=some (.lst xs)/\xs.length<sizeLine/\Q .non (upd H l (.lst (xs++[y])))
theorem yhH:MtM X "list.append" yvY:=by
 intro pins s σ H x vs v us Q I rx rv h
 obtain ⟨l,xs,y,rfl,rfl,hH,hz,q⟩:=h
 cases rx
 obtain ⟨u,rfl,ru⟩:=rv.one
 obtain ⟨z,its,n,r,hl,e⟩:=I.lstM hH
 refine call_meets F.slot_list_append ⟨_,e,rfl⟩ F.entry_list_append (F.args_list_append_2 _ _) (PySem.list_append l its.toArray n u (by rw [size_toArray];omega)) ⟨e,?_⟩
 refine ⟨.non,_,I.lset (its':=its++[u]) hH e (by simp) (r.append (.cons ru .nil)) ?_,rfl,q⟩
 rw [length_append,List.length_singleton]
 omega
noncomputable def yAx:V->List V->Hp->VK->Prop:=fun x vs H Q=>∃ l b xs zs,x=.ref l/\vs=[.ref b]/\H l=some (.lst xs)/\H b=some (.lst zs)/\xs.length+zs.length<=sizeLine/\Q .non (upd H l (.lst (xs++zs)))
theorem yAy:MtM X "list.extend" yAx:=by
 intro pins s σ H x vs v us Q I rx rv h
 obtain ⟨l,b,xs,zs,rfl,rfl,hH,hB,hz,q⟩:=h
 cases rx
 obtain ⟨u,rfl,ru⟩:=rv.one
 cases ru
 obtain ⟨z,its,n,r,hl,e⟩:=I.lstM hH
 obtain ⟨z2,its2,n2,r2,hl2,e2⟩:=I.lstM hB
 have hsz:its.toArray.size+its2.toArray.size<=sizeLine:=by rw [size_toArray,size_toArray];omega
 have hlong:¬ (!its.toArray.isEmpty && Builtin.List.listTooLong (its.toArray.size+its2.toArray.size))=true:=by
  rw [yDL hsz,Bool.and_false]
  exact Bool.false_ne_true
 refine call_meets F.slot_list_extend ⟨_,e,rfl⟩ F.entry_list_extend (F.args_list_extend_2 _ _)
  (AutoSeq1.list_extend_list_list_0 l its.toArray n b its2.toArray n2 hlong (by rw [size_toArray];omega) (by omega)) ⟨e,e2,?_⟩
 refine ⟨.non,_,I.lset (its':=its++its2) hH e (by simp) (r.append r2) ?_,rfl,q⟩
 rw [length_append]
 omega
noncomputable def yNY:V->List V->Hp->VK->Prop:=fun x vs H Q=>∃ l xs y,x=.ref l/\vs=[]/\H l=some (.lst xs)/\xs[xs.length-1]?=some y/\Q y (upd H l (.lst xs.dropLast))
theorem yAz:MtM X "list.pop" yNY:=by
 intro pins s σ H x vs v us Q I rx rv h
 obtain ⟨l,xs,y,rfl,rfl,hH,hy,q⟩:=h
 cases rx
 have hus:=rv.zero
 subst hus
 obtain ⟨z,its,n,r,hl,e⟩:=I.lstM hH
 obtain ⟨u,hu,ru⟩:=r.get hy
 have hy':its.toArray[its.toArray.size-1]?=some u:=by
  show its.toArray[its.length-1]?=some u
  rw [<- Array.getElem?_toList,<- hl]
  exact hu
 refine call_meets F.slot_list_pop ⟨_,e,rfl⟩ F.entry_list_pop (F.args_list_pop_1 _) (MeetsSeq.list_pop_last l its.toArray n u hy' (by rw [size_toArray];omega)) ⟨e,?_⟩
 refine ⟨y,_,I.lset (its':=its.dropLast) hH e ?_ r.dropLast ?_,ru,q⟩
 .show its.toArray.eraseIdxIfInBounds (its.toArray.size-1)=its.dropLast.toArray
  rw [size_toArray,List.eraseIdxIfInBounds_toArray,yyX]
 .rw [List.length_dropLast]
  omega
noncomputable def yNZ:R2:=fun x y H Q=>∃ l b xs zs,x=.ref l/\y=.ref b/\H l=some (.lst xs)/\H b=some (.lst zs)/\xs.length+zs.length<=sizeLine/\∀ p,H p=none->Q (.ref p) (upd H p (.lst (xs++zs)))
theorem ymy:OpR X (binaryOp .Add) yNZ:=by
 intro pins s σ H x y v u Q I rx ry h
 obtain ⟨l,b,xs,zs,rfl,rfl,hH,hB,hz,q⟩:=h
 cases rx
 cases ry
 obtain ⟨z,its,n,r,hl,e⟩:=I.lstM hH
 obtain ⟨z2,its2,n2,r2,hl2,e2⟩:=I.lstM hB
 refine PySem.P.add_list e e2 ?_ (by rw [size_toArray,size_toArray];omega)
 have ea:its.toArray++its2.toArray=(its++its2).toArray:=by simp
 rw [ea]
 exact ⟨.ref _,_,I.lnew (t':=s.toks) (r.append r2) (by rw [length_append];omega),rfl,q _ I.fresh⟩
end
section
variable {prog:Program}{w:World}{A:Around}{E:Value->Shared->Prop}{s:Shared}
end
section
variable {X:Cx}
end
end L2
namespace Att
open PySem PySem.W PySem.Calls PyProof.Rows
theorem ynS {P:Params}{h:Heap}:∀ (ns:List Int) (vs:List Value),WellAll P h vs (ns.map WData.int)->IntsAre vs ns:=by
 intro ns
 induction ns with
 | nil =>
  intro vs w
  rw [map_nil] at w
  cases w
  exact .nil
 | cons n ns ih =>
  intro vs w
  rw [map_cons] at w
  cases w with
  | cons a b =>
   cases a
   exact .cons _ _ (ih _ b)
theorem yAA {l:OpenLaw}{n:Nat}(hn:l.most=some n) {P:Params}{h:Heap}{args:List WData}{vals:List Value}
  (hpre:l.row.toRowW.claim.pre args=true) (hwl:WellAll P h vals args) :
  ∃ a vs ns,vals=[Value.ref a]/\args=[WData.list (ns.map WData.int)]/\h.get? a=some { cls:=.type "list",data:=.seq vs.toArray }/\IntsAre vs ns/\ns.length<=n:=by
 have hsh:WShape.hasAll [] args [.list .int]=true:=(pre_splitW hpre).1
 have hc:l.pre.holds [] { args:=args }=true:=(pre_splitW hpre).2
 obtain ⟨d,r,rfl,h1,h2⟩:=hasAllW_cons hsh
 obtain rfl:=hasAllW_nil h2
 obtain ⟨xs,rfl,h3⟩:=hasW_list h1
 obtain ⟨ns,rfl⟩:=items_int h3
 have hlen:ns.length<=n:=by
  unfold OpenLaw.pre at hc
  have h4:(WTm.not (.lt (.lit (.int (n:Int))) (.len (.arg 0)))).holds [] { args:=[.list (ns.map .int)] }=true:=by
   have h4:=(holds_andW hc).1
   rw [hn] at h4
   exact h4
  have h5:=condW_of h4 (w_not (w_lt w_lit (w_len_list (w_arg rfl))))
  rw [length_map] at h5
  refine Nat.le_of_not_lt fun q=>?_
  have q':(n:Int)<((ns.length:Nat):Int):=by omega
  first
   | (rw [decide_eq_true q'] at h5;exact absurd h5 (by decide))
   | (simp at h5;omega)
 cases hwl with
 | cons w1 w2 =>
  cases w2
  cases w1 with
  | list ho hall=>exact ⟨_,_,ns,rfl,rfl,ho,ynS ns _ hall,hlen⟩
theorem yAB (l:OpenLaw) (args:List WData):l.row.toRowW.claim.post args (.bool true) args=true :=
 postW_of (r:=l.row.toRowW) (X:=(true == true))
  (show WShape.has [] (.bool true) .bool=true by first|rfl|decide|simp [WShape.has,WShape.arms,WShape.armsAll])
  (show (WTm.eq .res (.lit (.bool true))).value [] { args:=args,res:=some (.bool true),after:=args }=some (.bool (true == true)) from w_eq_bool (w_res rfl) w_lit) rfl
theorem attach_call {l:OpenLaw}{n:Nat}{q:Program}{loose:List Str}{XP:(Str->Option Value)->Heap->Prop}{YP:World->Heap->Prop}{d:DefRec}
  (hn:l.most=some n) (hdf:d.params.defaults=[])
  (call:∀ (w:World) (s₀ s₁:Shared) (mg mb:Str->Option Value) (fa:Addr) (o:Obj) (pm cd doc:Value) (a:Addr) (vs:List Value) (ns:List Int),
   Ground q loose [] XP w s₀ mg mb s₁.heap->YP w s₁.heap ->
   s₁.heap.get? fa=some o->o.data=.func (docDef d.name d.params d.body d.scope pm cd doc)->s₁.heap.CodeRec cd d.name->mg d.name=some (.ref fa) ->
   s₁.heap.get? a=some { cls:=.type "list",data:=.seq vs.toArray }->IntsAre vs ns->ns.length<=n->s₁.gens = #[] ->
   codeAny (model l.prog w) callerA (.call (.ref fa) ⟨[.ref a],[]⟩) (fun r s'=>r=.ok (.ret (.bool true))/\OldK s₁.heap s'.heap/\s'.os=s₁.os/\AllBare s'.gens) s₁) :
  WalkO q loose XP YP l.row.toRowW d [] (fun f vs=>PySem.call f vs):=by
 intro w s₀ s₁ mg mb G Y fa o pm cd doc dV kV ho hd hcd hD hmg hg args vals as hpre hlay hrd hwl hlo
 obtain rfl:dV=.none:=Dflts.none hD hdf
 obtain rfl:kV=.none:=Dflts.noKw hD
 obtain ⟨a,vs,ns,rfl,rfl,hobj,hints,hlen⟩:=yAA hn hpre hwl
 refine enter_call (codeAny_mono (call w s₀ s₁ mg mb fa o pm cd doc a vs ns G Y ho (fd_plain hd) hcd hmg hobj hints hlen hg) fun r s' hq=>?_)
 obtain ⟨rfl,h2,h3,h4⟩:=hq
 exact ⟨.inl ⟨.bool true,.bool true,[],rfl,fun _=>rfl,.bool true,yAB l _,fun _=>⟨List.Pairwise.nil,fun _ hm=>(nomatch hm)⟩⟩,h2,h3,h4⟩
section
variable {prog:Program}{w:World}{A:Around}{E:Value->Shared->Prop}{s:Shared}{K:Frag}
end
end Att
namespace L2
open PySem PySem.Spec PyProof.Rows
theorem ykA:∀ {vs:List Value}{ns:List Int},IntsAre vs ns->Vals (ns.map V.int) vs
 | _,_,.nil=>.nil
 | _,_,.cons n t h=>.cons ⟨t,rfl⟩ (ykA h)
def yMt (H:Hp):Prop:=∀ b,H b=none\/∃ o xs,H b=some (.frz o (.lst xs))
theorem yDM {P:Program}{w:World}{K:PySem.W.Frag}{mg mb:Str->Option Value}{CX:CXT}{k:Nat}{fa a:Addr}{fd:FuncData}{x:Str}{sp:Sp}{s₁:Shared}{vs:List Value}{ns:List Int}
  (KX:K.In s₁.heap) (hns:s₁.heap.Ns mainGlobals mg) (hb:s₁.heap.Ns builtinsNs mb) (hbb:∀ x:Str,x≠"__name__"->mb x=bootBuiltins x) (hlim:s₁.heap.NoLimit) (hg:s₁.gens = #[])
  (ha:s₁.heap.get? a=some { cls:=.type "list",data:=.seq vs.toArray }) (hi:IntsAre vs ns) (hl:ns.length<=sizeLine) (hr:Room k callerA)
  (F:∀ base:Heap,K.In base->base.Ns mainGlobals mg->FnOk P w K mg base CX k fa fd [x] sp) (hbind:∀ (s:Shared) (u:Value),BindsTo s fd ⟨[u],[]⟩ [(x,u)])
  (hsp:∀ H:Hp,yMt H->SqL K H a (ns.map V.int)->sp [.ref a] H (fun v _=>v=.bl true) fun _ _ _=>False)
  (hCX:∀ H e s',CX [] H s₁ (fun _ _ _=>False) e s'->False) :
  codeAny (model P w) callerA (.call (.ref fa) ⟨[.ref a],[]⟩) (fun r s'=>r=.ok (.ret (.bool true))/\OldK s₁.heap s'.heap/\s'.os=s₁.os/\AllBare s'.gens) s₁:=by
 have rv:=ykA hi
 have lenV:=hi.length
 have core:∀ H:Hp,yMt H->SqL K H a (ns.map V.int)->HOk P w H s₁.heap->(∀ b,H b≠none->b=a)->(H a≠none->K.lookup a=none) ->
   codeAny (model P w) callerA (.call (.ref fa) ⟨[.ref a],[]⟩) (fun r s'=>r=.ok (.ret (.bool true))/\OldK s₁.heap s'.heap/\s'.os=s₁.os/\AllBare s'.gens) s₁:=by
  intro H hO hS hok hA hK
  have base_of:∀ {b:Addr}{o:Obj},s₁.heap.get? b=some o->H b=none->(yDx s₁.heap H).get? b=some o:=fun e n=>yDy e n
  have noA:∀ {b:Addr}{o:Obj}{es:Array DictEntry}{ep:Nat},s₁.heap.get? b=some o->o.data=.dict es ep->H b=none:=fun {b o es ep} e d=>by
   cases q:H b with
   | none=>rfl
   | some u =>
    have e':b=a:=hA b (by rw [q];simp)
    subst e'
    rw [ha] at e;cases e
    have d':Data.seq vs.toArray _=Data.dict es ep:=d
    cases d'
  have nsK:∀ {b:Addr}{m:Str->Option Value},s₁.heap.Ns b m->(yDx s₁.heap H).Ns b m:=fun {b m} ⟨o,es,ep,e,d,r⟩=>⟨o,es,ep,base_of e (noA e d),d,r⟩
  have hKb:K.In (yDx s₁.heap H):=fun b o e=>base_of (KX b o e) (by
   cases q:H b with
   | none=>rfl
   | some u =>
    have e':b=a:=hA b (by rw [q];simp)
    subst e'
    rw [hK (by rw [q];simp)] at e;cases e)
  have hM:Mod K mg (yDx s₁.heap H):=⟨hKb,nsK hns,⟨mb,nsK hb,hbb⟩,let ⟨mc,h1,h2⟩:=hlim;⟨mc,nsK h1,h2⟩⟩
  have e0:Env0 P w K mg (yDx s₁.heap H) callerA [] s₁ H:=⟨rfl,hM,fun b o e=>yGT e,le_of_eq (yAd _ _),trivial,fun b hb=>absurd (show b∈([]:List Addr) from hb) (by simp),hok,.of_eq hg⟩
  refine codeAny_mono ((F _ hKb (nsK hns)).run callerA [] s₁ H ⟨[.ref a],[]⟩ [.ref a] [.ref a] _ _ hr e0 (hbind s₁ (.ref a)) (.cons rfl .nil) (hsp H hO hS)) fun r s' h=>?_
  cases r with
  | error e=>exact (hCX H e s' h).elim
  | ok fl =>
   cases fl with
   | next=>exact False.elim h
   | brk=>exact False.elim h
   | cont=>exact False.elim h
   | ret u =>
    obtain ⟨v,H',os,bare,un,hok',r',q⟩:=h
    have q':v=.bl true:=q
    subst q'
    obtain rfl:u=Value.bool true:=r'
    refine ⟨rfl,OldK.of_keep fun b o e=>?_,os,bare⟩
    cases q:H b with
    | none=>exact un.keep b o e q (by intro z;exact absurd (show b∈([]:List Addr) from z) (by simp)) (by simp)
    | some u =>
     rcases hO b with z|⟨ob,xs,z⟩
     .rw [q] at z;cases z
     .have z2:=un.frzs b ob _ z
      obtain ⟨e1,_⟩:=hok b _ z
      obtain ⟨e2,_⟩:=hok' b _ z2
      rw [e] at e1;cases e1
      exact e2
 cases hk:K.lookup a with
 | some o =>
  have e:=KX a o hk
  rw [ha] at e
  cases e
  refine core (fun _=>none) (fun _=>.inl rfl) (.inr ⟨_,vs.toArray,_,hk,rfl,rfl,rfl,by rw [size_toArray,lenV];exact hl,by simpa using rv⟩) (fun b u z=>by have z':(none:Option HO)=some u:=z;cases z') (fun b z=>absurd rfl z) fun z=>absurd rfl z
 | none =>
  refine core (fun b=>if b=a then some (.frz { cls:=.type "list",data:=.seq vs.toArray } (.lst (ns.map V.int))) else none) (fun b=>?_) (.inl (.inr ⟨{ cls:=.type "list",data:=.seq vs.toArray },if_pos rfl⟩)) (fun b u z=>?_) (fun b z=>?_) fun _=>hk
  .by_cases hb:b=a
   .exact .inr ⟨_,_,if_pos hb⟩
   .exact .inl (if_neg hb)
  .by_cases hb:b=a
   .have z':=(if_pos hb).symm.trans z
    cases z'
    subst hb
    exact ⟨ha,by rw [length_map];exact hl,vs,_,rv,ha⟩
   .have z':=(if_neg hb).symm.trans z
    cases z'
  .by_cases hb:b=a
   .exact hb
   .exact absurd (if_neg hb) z
end L2
namespace L2
open PySem PySem.Spec PyProof.Rows
theorem walk_of {l:PySem.W.OpenLaw}{n k:Nat}{q:Program}{loose:List Str}{XP:(Str->Option Value)->Heap->Prop}{YP:World->Heap->Prop}{d:DefRec}{K:Params->PySem.W.Frag}{CX:World->CXT}{sp:World->Sp}{x:Str}
  (hn:l.most=some n) (hn2:n<=sizeLine) (hdf:d.params.defaults=[]) (hr:Room k callerA)
  (hY:∀ (w:World) (h:Heap),YP w h->(K w.params).In h)
  (F:∀ (w:World) (mg:Str->Option Value) (fa:Addr) (h:Heap),(K w.params).In h->h.Ns mainGlobals mg->mg d.name=some (.ref fa) ->
   ∃ fd:FuncData,(∀ (s:Shared) (u:Value),BindsTo s fd ⟨[u],[]⟩ [(x,u)]) /\
    ∀ base:Heap,(K w.params).In base->base.Ns mainGlobals mg->FnOk l.prog w (K w.params) mg base (CX w) k fa fd [x] (sp w))
  (hsp:∀ (w:World) (H:Hp) (a:Addr) (ns:List Int),ns.length<=n->yMt H->SqL (K w.params) H a (ns.map V.int)->sp w [.ref a] H (fun v _=>v=.bl true) fun _ _ _=>False)
  (hCX:∀ (w:World) (H:Hp) (s:Shared) (e:Value) (s':Shared),CX w [] H s (fun _ _ _=>False) e s'->False) :
  PySem.W.WalkO q loose XP YP l.row.toRowW d [] (fun f vs=>PySem.call f vs):=by
 refine Att.attach_call hn hdf fun w s₀ s₁ mg mb fa o pm cd doc a vs ns G Y ho hd hcd hmg hobj hints hlen hg=>?_
 have KX:=hY w _ Y
 obtain ⟨fd,hb,hF⟩:=F w mg fa _ KX G.T.g hmg
 exact yDM KX G.T.g G.T.b G.T.builtins G.T.nolimit hg hobj hints (Nat.le_trans hlen hn2) hr hF hb (fun H hO hS=>hsp w H a ns hlen hO hS) fun H e s'=>hCX w H s₁ e s'
end L2
namespace L2
open PySem PySem.Spec PyProof.Rows
noncomputable def inClass (s:Stmt) (j:Nat):Stmt:=match s with
 | .ClassDef _ _ _ body _ _ _ _ _ _ _=>body.getD j (.Pass ⟨0,0,0,0⟩)
 | _=>.Pass ⟨0,0,0,0⟩
noncomputable def yrs (s:Stmt):Arguments:=match s with
 | .FunctionDef _ a _ _ _ _ _ _ _ _=>a
 | _=>{ posonlyargs:=[],args:=[],vararg:=none,kwonlyargs:=[],kw_defaults:=[],kwarg:=none,defaults:=[] }
def yhI (s:Stmt):List Stmt:=match s with
 | .FunctionDef _ _ b _ _ _ _ _ _ _=>b
 | _=>[]
noncomputable def yh (s:Stmt):Scope:=match s with
 | .FunctionDef _ _ _ _ _ _ sc _ _ _=>sc
 | _=>{ kind:=.function,names:=[],isGenerator:=false,isCoroutine:=false }
abbrev CX0:CXT:=fun _ _ _ _ _ _=>False
abbrev E0:XK:=fun _ _ _=>False
theorem yvZ {X:Cx}:ykx CX0 X E0:=fun _ _ _ _ _ _ _ h=>h.elim
structure Fun (K:PySem.W.Frag) (x qual:Str) (st:Stmt) (f:Addr) (fd:FuncData):Prop where
 ex:∃ (oc:Value) (od:Option Addr) (kV doc pm:Value) (an:Option Addr) (cdv ct:Value) (osl:Array (Option Value)),
  fd=fnOf x qual (yrs st) (yhI st) (yh st) .none kV doc pm an cdv ct/\K.lookup f=some ⟨oc,od,.func fd,osl⟩/\codeIn K cdv qual=true
 kp:keepIn K (.ref f)=true
section
variable {P:Program}{w:World}{K:PySem.W.Frag}{mg:Str->Option Value}{base:Heap}
theorem Fun.ok {x qual:Str}{st:Stmt}{f:Addr}{fd:FuncData}{N ps:List Str}{k:Nat}{sp:Sp}(F:Fun K x qual st f fd) (S:yl N ps (yh st)) (len:∀ vs H Q E,sp vs H Q E->vs.length=ps.length)
  (hbody:∀ (cdv:Value) (A:Around) (outer:List Env) (s:Shared) (H:Hp) (vs:List V) (Q:VK) (E:XK),Room k (A.deeper (envOfC qual (yh st) s.heap.objs.size f cdv))->sp vs H Q E ->
   ∃ t,PSs (yDK CX0 P w K mg base N qual (yh st) f cdv A outer s H E).nox (yhI st) t/\t { nx:=fun _ H'=>Q .non H',rt:=Q } (start N vs) H):FnOk P w K mg base CX0 (k+1) f fd ps sp:=by
 obtain ⟨oc,od,kV,doc,pm,an,cdv,ct,osl,rfl,lk,hcd⟩:=F.ex
 refine yMn lk hcd S len fun A outer s H vs Q E hr hsp=>?_
 obtain ⟨t,h,q⟩:=hbody cdv A outer s H vs Q E hr hsp
 exact ⟨t,h.nox,q⟩
theorem Fun.binds {x qual:Str}{st:Stmt}{f:Addr}{fd:FuncData}{ps:List Str}(F:Fun K x qual st f fd)
  (h:∀ (kV doc pm:Value) (an:Option Addr) (cdv ct:Value) (us:List Value),us.length=ps.length->bindArgs (fnOf x qual (yrs st) (yhI st) (yh st) .none kV doc pm an cdv ct) ⟨us,[]⟩=pure (ps.zip us)):Binds K fd ps []:=by
 obtain ⟨oc,od,kV,doc,pm,an,cdv,ct,osl,rfl,lk,hcd⟩:=F.ex
 exact .all (h kV doc pm an cdv ct)
theorem fun_mk {x qual:Str}{st:Stmt}{f:Addr}{oc:Value}{od an:Option Addr}{osl:Array (Option Value)}{kV doc pm cdv ct:Value}(l:K.lookup f=some ⟨oc,od,.func (fnOf x qual (yrs st) (yhI st) (yh st) .none kV doc pm an cdv ct),osl⟩)
  (c:codeIn K cdv qual=true) (k:keepIn K (.ref f)=true):Fun K x qual st f (fnOf x qual (yrs st) (yhI st) (yh st) .none kV doc pm an cdv ct):=⟨⟨oc,od,kV,doc,pm,an,cdv,ct,osl,rfl,l,c⟩,k⟩
end
theorem yeM {A:Around}{k:Nat}(hr:Room k A):A.units+1<cLine:=Nat.lt_of_le_of_lt (Nat.add_le_add_left (by decide:1<=64) _) hr.units
theorem ytq {n:Nat}(h:n<=1000):n<sizeLine:=Nat.lt_of_le_of_lt h (by decide)
section
variable {X:Cx}
end
def Same (H H':Hp):Prop:=∀ b o,H b=some o->H' b=some o
theorem Same.refl (H:Hp):Same H H:=fun _ _ h=>h
theorem Same.trans {H H1 H2:Hp}(a:Same H H1) (b:Same H1 H2):Same H H2:=fun c o h=>b c o (a c o h)
theorem Same.free {H H':Hp}(e:Same H H') {l:Addr}(h:H' l=Option.none):H l=Option.none:=by
 cases q:H l with
 | none=>rfl
 | some o =>
  rw [e l o q] at h
  cases h
theorem Same.seq {K:PySem.W.Frag}{H H':Hp}{a:Addr}{xs:List V}(e:Same H H') (h:SqL K H a xs):SqL K H' a xs:=by
 rcases h with (h|⟨o,h⟩)|h
 .exact .inl (.inl (e _ _ h))
 .exact .inl (.inr ⟨o,e _ _ h⟩)
 .exact .inr h
end L2
namespace L2
open PySem PySem.Spec PyProof.Rows
def cV:V->Option Value
 | .ty n=>some (.type n)
 | .ref a=>some (.ref a)
 | _=>none
def IsI (K:PySem.W.Frag) (H:Hp) (x c:V) (b:Bool):Prop:=∃ t u,yxO K H x t/\cV c=some u/\PySem.W.kitOne K t u=some b
theorem ywa {K:PySem.W.Frag}{H:Hp}{i:Int}:IsI K H (.int i) (.ty "int") true:=⟨_,_,.int i,rfl,by with_unfolding_all rfl⟩
theorem ytr {K:PySem.W.Frag}{H:Hp}{i:Int}:IsI K H (.int i) (.ty "bool") false:=⟨_,_,.int i,rfl,by with_unfolding_all rfl⟩
theorem ywb {K:PySem.W.Frag}{H:Hp}:IsI K H .non (.ty "int") false:=⟨_,_,.non,rfl,by with_unfolding_all rfl⟩
theorem ywc {K:PySem.W.Frag}{H:Hp}{i:Bool}:IsI K H (.bl i) (.ty "bool") true:=⟨_,_,.bl i,rfl,by with_unfolding_all rfl⟩
theorem ywd {K:PySem.W.Frag}{H:Hp}{i:Str}:IsI K H (.str i) (.ty "str") true:=⟨_,_,.str i,rfl,by with_unfolding_all rfl⟩
theorem yts {K:PySem.W.Frag}{H:Hp}{a:Addr}{xs:List V}(e:H a=some (.lst xs)):IsI K H (.ref a) (.ty "list") true:=⟨_,_,.lst e,rfl,by with_unfolding_all rfl⟩
end L2
namespace L2
open PySem
abbrev yMu:R2:=rI0 fun i j=>.int (i+j)
abbrev yMv:R2:=rI0 fun i j=>.int (i-j)
abbrev yMw:R2:=rI CMul fun i j=>.int (i*j)
abbrev yMx:R2:=rI yNT fun i j=>.int (i/j)
abbrev yMy:R2:=rI (fun _ j=>0<j) fun i j=>.int (i%j)
abbrev yMz:R2:=rI yMj fun i j=>.int (i ^ j.toNat)
abbrev yOx:R2:=rI0 fun i j=>.bl (decide (i<j))
abbrev yOy:R2:=rI0 fun i j=>.bl (decide (i<=j))
abbrev yOz:R2:=rI0 fun i j=>.bl (decide (j<i))
abbrev yMA:V->Hp->VK->Prop:=rU fun i=>.int (-i)
def yMB:R2:=fun x y H Q=>∃ i j,x=.str i/\y=.str j/\i.length+j.length<=sizeLine/\Q (.str (i++j)) H
def yOA:R2:=fun x y H Q=>y=.non/\Q (.bl (decide (x=.non))) H
noncomputable def yMC:List V->Hp->VK->Prop:=fun xs H Q=>(∃ i,xs=[.int i]/\Q (.int i) H)\/∃ k,xs=[.bl k]/\Q (.int (if k then 1 else 0)) H
def yMD:List V->Hp->VK->Prop:=fun xs H Q=>∃ z,xs=[.str z]/\z.length<=sizeLine/\Q (.int z.length) H
def yKa (K:PySem.W.Frag):List V->Hp->VK->Prop:=fun xs H Q=>∃ p ys,xs=[.ref p]/\(SqL K H p ys\/SqT K H p ys)/\Q (.int ys.length) H
def yOa (K:PySem.W.Frag):List V->Hp->VK->Prop:=fun xs H Q=>∃ x c b,xs=[x,c]/\IsI K H x c b/\Q (.bl b) H
theorem yfp {H:Hp}{p:Addr}(h:H p=none) (o:HO):Same H (upd H p o):=fun b u q=>by rw [yX (ybN q h)];exact q
section
variable {K:PySem.W.Frag}{σ:St}{H:Hp}{Q:VK}{ta tb tc:TE}{tA tB':TT}{t u:TS}{D:Ends}
theorem w_not {Q:Bool->Hp->Prop}:yMa tA σ H Q=tA σ H fun c H1=>Q (!c) H1:=rfl
end
end L2
namespace L2
open PySem
noncomputable def yLR (z:Str) (lo hi:Option Int):Str:=⟨((z.cps.toList.drop (HT.sIx z.length 0 lo)).take (HT.sIx z.length z.length hi-HT.sIx z.length 0 lo)).toArray⟩
def yOb:V->Option Int->Option Int->Hp->VK->Prop:=fun x lo hi H Q=>∃ z,x=.str z/\z.length<=1000000/\Q (.str (yLR z lo hi)) H
noncomputable def yAC:V->List V->Hp->VK->Prop:=fun x vs H Q=>∃ (z:Str) (c:Nat),x=.str z/\vs=[.str ⟨#[c]⟩]/\z.length<=1000/\c∈z.cps.toList/\Q (.int (z.cps.toList.idxOf c)) H
noncomputable def yOc:List V->Hp->VK->Prop:=fun xs H Q=>∃ (p:Addr) (ns:List Int),xs=[.ref p]/\H p=some (.lst (ns.map V.int))/\Q (.int ns.sum) H
def yHo (K:PySem.W.Frag):List V->Hp->VK->Prop:=fun xs H Q=>∃ p ys,xs=[.ref p]/\(SqL K H p ys\/SqT K H p ys)/\∀ l,H l=none->Q (.ref l) (upd H l (.lst ys))
noncomputable def Its (z:Str):It:=⟨fun i _=>i<z.length,fun i H x H'=>H'=H/\∃ c,z.cps.toList[i]?=some c/\x=.str ⟨#[c]⟩,fun i _=>i=z.length⟩
def yOd (ta:TE):TI:=fun σ H R=>ta σ H fun x H1=>∃ z,x=.str z/\z.length<=sizeLine/\R (Its z) H1
noncomputable def yME (J:It) (te:TE) (inn:V->St) (D:Addr) (Q:VK) (H:Hp):Prop:=∃ W:Nat->Nat->Hp->Prop,(∃ m,W 0 m H)/\∀ i m H,W i m H ->
 (J.stop i H/\Q (.ref D) H)\/(J.go i H/\∀ x H',J.yld i H x H'->te (inn x) H' fun y H2=>∃ acc,H2 D=some (.lst acc)/\acc.length<sizeLine/\∃ m',m'<m/\W (i+1) m' (upd H2 D (.lst (acc++[y]))))
def inner (ix:List Nat) (σ:St) (x:V):St:=some x::ix.map fun i=>(σ[i]?).getD none
def yHp (wi:TI) (ix:List Nat) (te:TE):TE:=fun σ H Q=>wi σ H fun J H1=>∀ D,H1 D=none->yME J te (inner ix σ) D Q (upd H1 D (.lst []))
section
variable {K:PySem.W.Frag}{σ:St}{H:Hp}{Q:VK}{ta tb tc:TE}{tA tB':TT}{t u:TS}{D:Ends}
end
end L2
namespace L2
open PySem
def yFV (C:Addr):TE:=fun _ H Q=>∀ x dx,H x=none->H dx=none->dx≠x->Q (.ref x) (upd (upd H dx (.own x)) x (.ins C dx []))
noncomputable def yFW {κ:Type}(A:κ->Addr) (m:Str) (sp:κ->Sp) (ta:TE):TE:=fun σ H Q=>ta σ H fun x H1=>∃ a k dx fs,x=.ref a/\H1 a=some (.ins (A k) dx fs)/\fs.lookup m=none/\sp k [x] H1 Q E0
theorem yMF {k:Str}{v:V}{r:List (Str×V)}:List.lookup k ((k,v)::r)=some v:=by simp [List.lookup]
theorem yKb {k k':Str}{v:V}{r:List (Str×V)}(h:¬ k=k'):List.lookup k ((k',v)::r)=List.lookup k r:=by
 have:(k == k')=false:=by simpa using h
 simp [List.lookup,this]
section
variable {K:PySem.W.Frag}{σ:St}{H:Hp}{Q:VK}{ta tb tc:TE}{t u:TS}{D:Ends}
end
end L2
namespace L2
open PySem PySem.Builtin PySem.Builtin.Str
theorem at_one {z:Str}{c i:Nat}:StrLaws.At z ⟨#[c]⟩ z.length i ↔ z.cps.toList[i]?=some c:=by
 unfold StrLaws.At subAt
 have e1:(⟨#[c]⟩:Str).length=1:=rfl
 rw [e1]
 have e2:(z.cps.extract i (i+1) == (⟨#[c]⟩:Str).cps)=true ↔ z.cps.extract i (i+1) = #[c]:=by simp
 rw [e2]
 constructor
 .rintro ⟨h1,h2⟩
  have h3:(z.cps.extract i (i+1)).toList=[c]:=by rw [h2]
  rw [Array.toList_extract,List.extract_eq_take_drop] at h3
  have h4:((z.cps.toList.drop i).take (i+1-i))[0]?=some c:=by rw [h3];rfl
  rw [List.getElem?_take_of_lt (by omega),List.getElem?_drop] at h4
  simpa using h4
 .intro h
  obtain ⟨hlt,hc⟩:=List.getElem?_eq_some_iff.mp h
  have hl:i<z.length:=by simpa [Str.length] using hlt
  refine ⟨by omega,?_⟩
  apply Array.ext'
  rw [Array.toList_extract,List.extract_eq_take_drop]
  have e:i+1-i=1:=by omega
  rw [e,List.drop_eq_getElem_cons hlt,hc]
  rfl
theorem yHq (z:Str) (c:Nat):(occurrences z ⟨#[c]⟩ 0 z.length 1=[]/\c∉z.cps.toList)\/∃ r,occurrences z ⟨#[c]⟩ 0 z.length 1=z.cps.toList.idxOf c::r/\c∈z.cps.toList:=by
 rcases StrLaws.occ_head z ⟨#[c]⟩ 1 (Nat.le_refl _) with ⟨h1,h2⟩|⟨i,r,h1,h2,h3⟩
 .refine .inl ⟨h1,fun hc=>?_⟩
  obtain ⟨i,hi,e⟩:=getElem_of_mem hc
  exact h2 i (at_one.mpr (List.getElem?_eq_some_iff.mpr ⟨hi,e⟩))
 .have hi:=at_one.mp h2
  obtain ⟨hlt,hc⟩:=List.getElem?_eq_some_iff.mp hi
  have hm:c∈z.cps.toList:=mem_of_getElem? hi
  refine .inr ⟨r,?_,hm⟩
  have hj:z.cps.toList.idxOf c<z.cps.toList.length:=List.idxOf_lt_length_of_mem hm
  have hg:z.cps.toList[z.cps.toList.idxOf c]?=some c:=by
   rw [List.getElem?_eq_getElem hj,List.getElem_idxOf hj]
  have e:i=z.cps.toList.idxOf c:=by
   rcases Nat.lt_trichotomy i (z.cps.toList.idxOf c) with h|h|h
   .exact absurd hc (by
     have:=List.not_of_lt_findIdx (p:=(· == c)) (xs:=z.cps.toList) (i:=i) (by simpa [idxOf] using h)
     simpa using this)
   .exact h
   .exact absurd (at_one.mpr hg) (h3 _ h)
  rw [h1,e]
theorem yAD (v:Option Int) (n d:Nat):(match v with|none=>(d:Int)|some i=>max 0 (min (if i<0 then i+(n:Int) else i) (n:Int)))=((HT.sIx n d v:Nat):Int):=by
 cases v with
 | none=>rfl
 | some i =>
  show max 0 (min (if i<0 then i+(n:Int) else i) (n:Int))=(((if i<0 then (i+(n:Int)).toNat else min i.toNat n):Nat):Int)
  split<;>omega
theorem yHr (lo hi:Option Int) (n:Nat):strSliceIndices lo hi 1 n=(List.range (HT.sIx n n hi-HT.sIx n 0 lo)).map (fun k=>HT.sIx n 0 lo+k):=by
 have h1:=yAD lo n 0
 have h2:=yAD hi n n
 generalize HT.sIx n 0 lo=a at *
 generalize HT.sIx n n hi=b at *
 have e:strSliceIndices lo hi 1 n=sliceRange (a:Int) (b:Int) 1:=by
  rw [<- h1,<- h2]
  cases lo<;>cases hi<;>rfl
 rw [e]
 unfold sliceRange
 rw [if_pos (show (1:Int)>0 by decide)]
 have e3:(if (a:Int)<b then ((b:Int)-a+1-1)/1 else 0).toNat=b-a:=by
  split
  .rw [Int.ediv_one];omega
  .omega
 show (List.range (if (a:Int)<b then ((b:Int)-a+1-1)/1 else 0).toNat).map _=_
 rw [e3]
 refine List.map_congr_left fun k _=>?_
 omega
theorem yKc (n:Nat) (hi:Option Int):HT.sIx n n hi<=n:=by
 cases hi with
 | none=>exact Nat.le_refl _
 | some v =>
  show (if v<0 then (v+(n:Int)).toNat else min v.toNat n)<=n
  split<;>omega
theorem yDN (l:List Nat) (a k:Nat) (h:a+k<=l.length):((List.range k).map (fun j=>a+j)).filterMap (fun j=>l[j]?)=(l.drop a).take k:=by
 induction k with
 | zero=>simp
 | succ k ih =>
  rw [List.range_succ,map_append,List.filterMap_append,ih (by omega)]
  have hlt:a+k<l.length:=by omega
  simp only [map_cons,map_nil,List.filterMap_cons,List.filterMap_nil,List.getElem?_eq_getElem hlt]
  rw [List.take_succ,List.getElem?_drop,List.getElem?_eq_getElem hlt]
  rfl
theorem yAE (z:Str) (lo hi:Option Int):Txt.slice z lo hi=yLR z lo hi:=by
 unfold Txt.slice yLR
 rw [yHr]
 have hz:z.cps.toList.length=z.length:=by simp [Str.length]
 have hb:=yKc z.length hi
 generalize HT.sIx z.length 0 lo=a at *
 generalize HT.sIx z.length z.length hi=b at *
 split
 .rename_i h
  have h2:b-a=z.length:=by simpa using h
  have h3:a=0\/z.length=0:=by omega
  obtain ⟨⟨l⟩⟩:=z
  simp only [Str.length,size_toArray] at *
  rcases h3 with h3|h3
  .subst h3
   rw [List.drop_zero,h2,take_length]
  .have:l=[]:=List.eq_nil_of_length_eq_zero h3
   subst this
   simp
 .congr 2
  by_cases hab:a<=b
  .have:=yDN z.cps.toList a (b-a) (by omega)
   simpa using this
  .have:b-a=0:=by omega
   rw [this]
   simp
end L2
namespace L2
open PySem PySem.Spec PyProof.Rows
theorem ycJ {env:Env}(y:Str):∀ names:List (Str×NameKind),
  (names.map fun (n,k)=>if (k == NameKind.free && env.scope.kind == .function && env.kindOf n == some .cell) then (n,NameKind.cell) else (n,k)).lookup y
   = (names.lookup y).map fun k=>if (k == NameKind.free && env.scope.kind == .function && env.kindOf y == some .cell) then NameKind.cell else k
 | []=>rfl
 | (n,k)::r=>by
  have ih:=ycJ (env:=env) y r
  show List.lookup y ((if (k == NameKind.free && env.scope.kind == .function && env.kindOf n == some .cell)=true then (n,NameKind.cell) else (n,k))::_)=_
  cases hx:y == n with
  | true =>
   have e:y=n:=eq_of_beq hx
   subst e
   by_cases hc:(k == NameKind.free && env.scope.kind == .function && env.kindOf y == some .cell)=true
   .rw [if_pos hc]
    simp only [lookup_cons,hx,map_some,if_pos hc]
   .rw [if_neg hc]
    simp only [lookup_cons,hx,map_some,if_neg hc]
  | false =>
   by_cases hc:(k == NameKind.free && env.scope.kind == .function && env.kindOf n == some .cell)=true
   .rw [if_pos hc];simp only [lookup_cons,hx];exact ih
   .rw [if_neg hc];simp only [lookup_cons,hx];exact ih
theorem yfq {env:Env}:∀ (names:List (Str×NameKind)) (cs:List (Str×Addr)),(∀ n,(n,NameKind.free)∈names->∃ c,env.cells.lookup n=some c) ->
  ∃ cl,(forIn names cs (fun (x:Str×NameKind) (r:List (Str×Addr))=>if (x.2 == NameKind.free)=true then do let c <- cellOf env x.1;pure (ForInStep.yield ((x.1,c)::r)) else pure (ForInStep.yield r)):Sem (List (Str×Addr)))=pure cl /\
   (∀ y,(y,NameKind.free)∈names->cl.lookup y=env.cells.lookup y)/\(∀ y,(y,NameKind.free)∉names->cl.lookup y=cs.lookup y)
 | [],cs,_=>⟨cs,rfl,fun y h=>by simp at h,fun y _=>rfl⟩
 | (n,k)::r,cs,h=>by
  by_cases hk:k=.free
  .subst hk
   obtain ⟨c,hc⟩:=h n mem_cons_self
   obtain ⟨cl,e,h1,h2⟩:=yfq r ((n,c)::cs) fun y hy=>h y (mem_cons_of_mem _ hy)
   refine ⟨cl,?_,fun y hy=>?_,fun y hy=>?_⟩
   .rw [List.forIn_cons]
    have e0:cellOf env n=pure c:=by unfold cellOf;rw [hc]
    simp only [beq_self_eq_true,if_true,e0,pure_bind]
    exact e
   .by_cases hr:(y,NameKind.free)∈r
    .exact h1 y hr
    .rw [h2 y hr]
     rcases mem_cons.mp hy with z|z
     .cases z
      rw [hc];simp [List.lookup]
     .exact absurd z hr
   .have hr:(y,NameKind.free)∉r:=fun z=>hy (mem_cons_of_mem _ z)
    rw [h2 y hr]
    have hn:(y == n)=false:=by
     cases e:y == n with
     | false=>rfl
     | true=>exact absurd (by rw [eq_of_beq e];exact mem_cons_self) hy
    simp [List.lookup,hn]
  .obtain ⟨cl,e,h1,h2⟩:=yfq r cs fun y hy=>h y (mem_cons_of_mem _ hy)
   have hb:(k == NameKind.free)=false:=by simpa using hk
   refine ⟨cl,?_,fun y hy=>?_,fun y hy=>?_⟩
   .rw [List.forIn_cons]
    simp only [hb,Bool.false_eq_true,if_false,pure_bind]
    exact e
   .rcases mem_cons.mp hy with z|z
    .cases z;exact absurd rfl hk
    .exact h1 y z
   .exact h2 y fun z=>hy (mem_cons_of_mem _ z)
noncomputable def cxC (X:Cx) (scope:Scope) (cl:List (Str×Addr)) (C:Addr) (N:List Str) (s₃:Shared) (H₃:Hp) (fp:List Addr) (pins:List (Addr×Obj)):Cx :=
 { prog:=X.prog,w:=X.w,K:=X.K,mg:=X.mg,base:=X.base,A:=X.A,N:=N,s₀:=s₃,H₀:=H₃,env:=compEnvC scope cl C X.env,outer:=X.stack,stack:=X.stack,ex:=fp,fn:=fun _=>false,calm:=X.calm,pn:=X.pn++pins,xe:=fun _ _=>False }
noncomputable def FrOk (X:Cx) (scope:Scope):List Nat->List Str->Prop
 | [],[]=>True
 | i::is,y::ys=>X.N[i]?=some y/\scope.names.lookup y=some .free/\X.env.kindOf y=some .cell/\FrOk X scope is ys
 | _,_=>False
theorem FrOk.len {X:Cx}{scope:Scope}:∀ {is:List Nat}{ys:List Str},FrOk X scope is ys->is.length=ys.length
 | [],[],_=>rfl
 | _::is,_::ys,h=>by rw [length_cons,length_cons,FrOk.len h.2.2.2]
theorem FrOk.get {X:Cx}{scope:Scope}:∀ {is:List Nat}{ys:List Str}{j:Nat}{y:Str},FrOk X scope is ys->ys[j]?=some y->∃ i,is[j]?=some i/\X.N[i]?=some y/\scope.names.lookup y=some .free/\X.env.kindOf y=some .cell
 | [],[],_,_,_,e=>by simp at e
 | [],_::_,_,_,h,_=>h.elim
 | _::_,[],_,_,h,_=>h.elim
 | i::is,z::ys,0,y,h,e=>by
  simp at e
  subst e
  exact ⟨i,rfl,h.1,h.2.1,h.2.2.1⟩
 | i::is,z::ys,j+1,y,h,e=>by
  obtain ⟨k,h1,h2⟩:=FrOk.get (j:=j) h.2.2.2 (by simpa using e)
  exact ⟨k,by simpa using h1,h2⟩
theorem yHs {X:Cx}{elt iter:Expr}{x:Str}{px:Pos}{scope:Scope}{cpos:Pos}{wi:TI}{te:TE}(ix:List Nat) (fr:List Str) (hc:X.calm=true) (hi:PI X (.Name x px) iter wi) (hfr:FrOk X scope ix fr)
  (he:∀ (cl:List (Str×Addr)) (C:Addr) (s₃:Shared) (H₃:Hp) (fp:List Addr) (pins:List (Addr×Obj)),PE (cxC X scope cl C (x::fr) s₃ H₃ fp pins) elt te)
  (hnd:(x::fr).Nodup:=by rfl') (hkind:scope.kind=.function:=by rfl) (hcell:∀ y∈scope.names,y.2≠.cell:=by rfl')
  (hnames:∀ y∈scope.names,y.2=.local->scope.names.lookup y.1=some .local:=by rfl') (hfree0:∀ y∈scope.names,y.2=.free->y.1∈fr:=by rfl') (hx:scope.names.lookup x=some .local:=by rfl)
  (hs:∀ v,foldedSetIterable iter X.env v=pure v:=by intro _;rfl):PE X (.ListComp elt [⟨.Name x px,iter,[],0⟩] scope cpos) (yHp wi ix te):=by
 intro pins s σ H Q I h
 have hfn:X.env.scope.kind=.function:=I.ok.kind
 have hfree:∀ y∈scope.names,y.2=.free->X.env.kindOf y.1=some .cell/\scope.names.lookup y.1=some .free:=fun y hy e=>by
  obtain ⟨j,hj,ej⟩:=getElem_of_mem (hfree0 y hy e)
  obtain ⟨i,_,_,h3,h4⟩:=hfr.get (j:=j) (y:=y.1) (by rw [List.getElem?_eq_getElem hj,ej])
  exact ⟨h4,h3⟩
 obtain ⟨cl,ecl,hcl1,hcl2⟩:=yfq (env:=X.env) scope.names [] fun n hn=>I.ok.has n (.inl (hfree _ hn rfl).1)
 have hclos:closureFor scope X.env=pure cl:=by
  unfold closureFor
  have:(forIn scope.names ([]:List (Str×Addr)) (fun (x:Str×NameKind) (r:List (Str×Addr))=>if (x.2 == NameKind.free)=true then do let c <- cellOf X.env x.1;pure (ForInStep.yield ((x.1,c)::r)) else pure (ForInStep.yield r)):Sem (List (Str×Addr)))=pure cl:=ecl
  first
   | exact (by simpa using congrArg (· >>= fun r=>pure r) this)
   | (rw [show (pure cl:Sem (List (Str×Addr)))=(pure cl >>= fun r=>pure r) from rfl,<- this];rfl)
 have hcle:∀ y c,cl.lookup y=some c->X.env.cells.lookup y=some c/\(y,NameKind.free)∈scope.names:=fun y c e=>by
  by_cases hy:(y,NameKind.free)∈scope.names
  .exact ⟨by rw [<- hcl1 y hy];exact e,hy⟩
  .rw [hcl2 y hy] at e;simp at e
 rw [eval_ListComp]
 refine wpAny_comprehension_free (use:=none) rfl hs hclos hkind hnames ?_
 refine thn (hi pins s σ H _ I h) fun v s1 h1=>thn h1 fun itv s2 h2=>?_
 obtain ⟨it,fp,tn,J,H2,e,I2,T,st2,f2,q2⟩:=h2
 subst e
 refine wpAny_newObj_type ?_
 generalize hs3:({ s2 with heap:=s2.heap.push { cls:=.type "list",dict:=none,data:=.seq ([]:List Value).toArray } }:Shared)=s3
 generalize hD:s2.heap.objs.size=D
 have hDn:H2 D=none:=by rw [<- hD];exact I2.hok.fresh (Nat.le_refl _)
 have I3:Inv X pins σ (upd H2 D (.lst [])) s3:=by
  rw [<- hs3,<- hD]
  exact I2.lnew (t':=s2.toks) (ys:=[]) (its:=[]) .nil (zero_le _)
 have k3:∀ b o,s2.heap.get? b=some o->s3.heap.get? b=some o:=fun b o e=>by rw [<- hs3];exact Heap.get?_push_of_some _ e
 have st3:tn 0 s3.heap:=T.keep _ _ _ st2 fun b _ o e=>k3 b o e
 have fne:∀ b∈fp,b≠D:=fun b hb=>by
  obtain ⟨o,e,_⟩:=T.obj _ _ st2 b hb
  rw [<- hD]
  exact ne_of_lt (Heap.lt_size e)
 have f3:∀ b∈fp,yAh X pins (upd H2 D (.lst [])) b:=fun b hb=>⟨by rw [yX (fne b hb)];exact (f2 b hb).1,(f2 b hb).2⟩
 have q3:=q2 D hDn
 generalize upd H2 D (.lst [])=H3 at I3 f3 q3
 obtain ⟨W,⟨m0,w0⟩,turn⟩:=q3
 refine wpAny_newFunctionEnv hcell (by intro y hy;simp at hy) (fun h4 hns hsb=>?_) hkind
 try dsimp only at hns hsb ⊢
 generalize hC:s3.heap.objs.size=C at hns hsb ⊢
 have k4:∀ b o,s3.heap.get? b=some o->h4.get? b=some o:=fun b o e=>(hsb.2 b (by rw [<- hC];exact ne_of_lt (Heap.lt_size e))).trans (Heap.get?_push_of_some _ e)
 have Cne:∀ b o,s3.heap.get? b=some o->b≠C:=fun b o e=>by rw [<- hC];exact ne_of_lt (Heap.lt_size e)
 have stk:=I3.stkSub
 have pinF:∀ p∈X.pn++pins,p.1∉frs X.stack:=fun p hp z=>by
  obtain ⟨_,_,n1,n2,_⟩:=I3.pin p hp
  rcases mem_cons.mp (stk _ z) with z|z
  .exact n1 z
  .exact n2 z
 have okC:(cxC X scope cl C (x::fr) s3 H3 fp pins).Ok:=by
  refine ⟨I3.ok.mod,by show (relabel scope X.env).kind=_;exact hkind,I3.ok.glob,I3.ok.blt,le_of_eq hC,fun y z c h1 h2=>I3.ok.inj y z c (hcle y c h1).1 (hcle z c h2).1,fun y hy=>?_,fun y c hf _=>(by cases hf),I3.ok.hd,I3.ok.frames,.inl rfl,fun b hb=>⟨?_,fun y c e z=>?_⟩,I3.bs,?_,fun b o e hb=>?_,fun b hb z=>?_,I3.stack,I3.stkFree⟩
  .have hy:((relabel scope X.env).names.lookup y=some .cell)\/((relabel scope X.env).names.lookup y=some .free):=hy
   rw [show (relabel scope X.env).names.lookup y=_ from ycJ y scope.names] at hy
   cases e:scope.names.lookup y with
   | none=>rw [e] at hy;simp at hy
   | some k =>
    have hm:(y,k)∈scope.names:=PySem.mem_of_lookup e
    have hkf:k=.free:=by
     rw [e] at hy
     cases k<;>simp at hy ⊢
     exact absurd rfl (hcell _ hm)
    subst hkf
    obtain ⟨c,hc'⟩:=I3.ok.has y (.inl (hfree _ hm rfl).1)
    exact ⟨c,by show cl.lookup y=_;rw [hcl1 y hm];exact hc'⟩
  .obtain ⟨o,e,_⟩:=T.obj _ _ st3 b hb
   exact Cne b o e
  .exact (f3 b hb).2.2.2.2.1 y c (hcle y c e).1 z
  .exact Nat.le_trans I3.ok.bsz I3.sz
  .rcases (f3 b hb).2.2.2.1 with z|z
   .exact I3.ok.noex b o e z
   .exact absurd (lt_of_lt_of_le (Heap.lt_size e) (Nat.le_trans I3.ok.bsz z)) (lt_irrefl _)
  .rcases mem_cons.mp (stk _ z) with z|z
   .exact (f3 b hb).2.1 z
   .exact (f3 b hb).2.2.1 z
 have inn:∀ v,(inner ix σ v)=some v::ix.map fun i=>(σ[i]?).getD none:=fun _=>rfl
 have I4:Inv (cxC X scope cl C (x::fr) s3 H3 fp pins) [] (none::ix.map fun i=>(σ[i]?).getD none) H3 { s3 with heap:=h4,toks:=s3.toks+([]:List (Str×Value)).length }:=by
  refine ⟨okC,rfl,I3.bare,Un.kept k4,⟨_,hns,fun j y v e1 e2 e3=>?_⟩,fun y c e=>?_,I3.hok.fresh (le_of_eq hC),fun y c e=>I3.freeC y c (hcle y c e).1,fun p hp=>?_,I3.hok.kept k4,?_⟩
  .match j,e1,e2 with
   | 0,e1,e2=>simp at e2
   | j+1,e1,e2 =>
    obtain ⟨i,hi1,hi2,hi3,hi4⟩:=hfr.get (j:=j) (y:=y) (by have e1':(x::fr)[j+1]?=some y:=e1;simpa using e1')
    have e2':σ[i]?=some (some v):=by
     have e2:(ix.map fun i=>(σ[i]?).getD none)[j]?=some (some v):=by simpa using e2
     rw [getElem?_map,hi1] at e2
     simp at e2
     cases z:σ[i]? with
     | none=>rw [z] at e2;simp at e2
     | some o=>rw [z] at e2;simp at e2;rw [e2]
    obtain ⟨m,_,hl⟩:=I3.loc
    obtain ⟨u,r,l⟩:=hl i y v hi2 e2' (.inr (.inl hi4))
    refine ⟨u,r,?_⟩
    rcases l with ⟨k,_⟩|⟨k,c,ec,z⟩
    .rw [hi4] at k;cases k
    .have hm:(y,NameKind.free)∈scope.names:=PySem.mem_of_lookup hi3
     refine .inr ⟨.inl ?_,c,by show cl.lookup y=_;rw [hcl1 y hm];exact ec,?_⟩
     .show (relabel scope X.env).names.lookup y=_
      rw [show (relabel scope X.env).names.lookup y=_ from ycJ y scope.names,hi3]
      simp [hfn,hi4]
     .obtain ⟨o,ho,hd⟩:=z
      exact ⟨o,k4 _ _ ho,hd⟩
  .obtain ⟨v,o,ho,hd⟩:=I3.cell y c (hcle y c e).1
   exact ⟨v,o,k4 _ _ ho,hd⟩
  .have hp:p∈X.pn++pins:=by simpa [cxC] using hp
   obtain ⟨e,n,ne,nf,d⟩:=I3.pin p hp
   exact ⟨k4 _ _ e,n,Cne _ _ e,pinF p hp,d⟩
  .show (none::ix.map fun i=>(σ[i]?).getD none).length=(x::fr).length
   rw [length_cons,length_cons,length_map,hfr.len]
 have st4:tn 0 h4:=T.keep _ _ _ st3 fun b _ o e=>k4 b o e
 have f4:∀ b∈fp,b≠C/\b∉frs X.stack/\(∀ y c,cl.lookup y=some c->c≠b)/\∀ p∈(X.pn++pins)++([]:List (Addr×Obj)),p.1≠b:=fun b hb=>by
  obtain ⟨o,e,_⟩:=T.obj _ _ st3 b hb
  refine ⟨Cne b o e,fun z=>?_,fun y c e=>(f3 b hb).2.2.2.2.1 y c (hcle y c e).1,fun p hp=>(f3 b hb).2.2.2.2.2 p (by simpa using hp)⟩
  rcases mem_cons.mp (stk _ z) with z|z
  .exact (f3 b hb).2.1 z
  .exact (f3 b hb).2.2.1 z
 have stat:∀ {H':Hp},(∀ b∈fp,H' b=none)->∀ b∈fp,yAh (cxC X scope cl C (x::fr) s3 H3 fp pins) [] H' b:=fun hn b hb=>⟨hn b hb,(f4 b hb).1,(f4 b hb).2.1,.inl hb,(f4 b hb).2.2.1,(f4 b hb).2.2.2⟩
 have fin:∀ {σ':St}{H':Hp}{s':Shared},Inv (cxC X scope cl C (x::fr) s3 H3 fp pins) [] σ' H' s'->Q (.ref D) H'->compPost (model X.prog X.w) X.A X.xe none (EP X pins σ Q) (.ref D) C (.ok .next) s':=fun {σ' H' s'} I' q'=>by
  obtain ⟨m,hn,_⟩:=I'.loc
  refine ⟨m,hn,fun h' sb=>⟨.ref D,H',?_,rfl,q'⟩⟩
  have hCn:H' C=none:=I'.free
  have same:∀ b,b≠C->h'.get? b=s'.heap.get? b:=fun b hb=>sb.2 b hb
  have U:=I'.base
  have U':Un (frs X.stack) fp H3 H' s3.heap h':=by
   refine ⟨fun b o e n h1 h2=>?_,fun b o e n h1 h2=>?_,U.free,fun b o e h2=>?_,U.tups,U.frzs,U.tbls⟩
   .rw [same b (Cne b o e)];exact U.keep b o e n h1 h2
   .rw [same b (Cne b o e)];exact U.slot b o e n h1 h2
   .rw [same b (Cne b o e)];exact U.there b o e h2
  refine I3.call' (s':={ s' with heap:=h' }) (by show s'.os=s3.os;exact I'.os) U' ?_ I'.bare fun b hb=>⟨(f3 b hb).2.2.2.1,(f3 b hb).2.1,(f3 b hb).2.2.2.2.1,(f3 b hb).2.2.2.2.2⟩
  intro b ob e
  refine (I'.hok b ob e).stay (fun c w' hc q=>?_) (fun _ q=>q) fun _ _ q=>q
  show h'.get? c=_
  rw [same c ?_]
  .exact q
  rintro rfl
  rcases hc with rfl|hc
  .rw [hCn] at e;cases e
  .rw [hCn] at hc;cases hc
 have loop:∀ s5:Shared,s5={ s3 with heap:=h4,toks:=s3.toks+([]:List (Str×Value)).length } ->
   codeAny (model X.prog X.w) X.A (.compLoop (.ListComp elt [⟨.Name x px,iter,[],0⟩] scope cpos) 0 (.ref it) (.ref D) (compEnvC scope cl C X.env)) (compPost (model X.prog X.w) X.A X.xe none (EP X pins σ Q) (.ref D) C) s5:=by
  rintro s5 rfl
  refine codeAny_loop rfl (fun n s'=>∃ i o H',Inv (cxC X scope cl C (x::fr) s3 H3 fp pins) [] (o::ix.map fun i=>(σ[i]?).getD none) H' s'/\tn i s'.heap/\(∀ b∈fp,H' b=none)/\W i n H') ?_ m0 ⟨0,none,H3,I4,st4,fun b hb=>(f3 b hb).1,w0⟩
  rintro n s6 ⟨i,o,H6,I6,st6,fr6,w6⟩
  show wpAny _ _ ((compTurn (.ListComp elt [⟨.Name x px,iter,[],0⟩] scope cpos) 0 (.ref it) (.ref D) (compEnvC scope cl C X.env)).onRaise (fun x=>do noteFrame x (compEnvC scope cl C X.env);theTreesLotGoes x)) _ _ s6
  refine wpAny_noted ?_
  rw [compTurn_list1]
  rcases turn i n H6 w6 with ⟨stop,qn⟩|⟨go,step⟩
  .refine wpAny_bind (wpAny_standAt (wpAny_bind (thn (T.done (cxC X scope cl C (x::fr) s3 H3 fp pins) rfl rfl rfl hc i [] s6 _ H6 _ I6 (stat fr6) st6 stop) fun r s7 ⟨hr,I7⟩=>?_)))
   subst hr
   exact wpAny_pure (fin I7 qn)
  .refine wpAny_bind (wpAny_standAt (wpAny_bind (thn (T.item (cxC X scope cl C (x::fr) s3 H3 fp pins) rfl rfl rfl hc i [] s6 _ H6 _ I6 (stat fr6) st6 go) fun r s7 ⟨u,hr,h7⟩=>?_)))
   subst hr
   refine wpAny_bind (thn h7 fun _ s8 ⟨y,H8,I8,r8,y8,st8,fr8⟩=>?_)
   have I8':=I8.pinned (stat fr8) (T.obj _ _ st8)
   have hx':Loc (cxC X scope cl C (x::fr) s3 H3 fp pins).env.scope x:=.inl (lookup_relabel_local hx)
   refine wpAny_bind (wpAny_mono (yro (X:=cxC X scope cl C (x::fr) s3 H3 fp pins) (i:=0) (x:=x) (pos:=px) hnd rfl hx' (.inr (lookup_relabel_local hx)) _ s8 _ H8 y u (fun σ9 H9=>σ9=inner ix σ y/\H9=H8) I8' r8 ⟨rfl,rfl⟩) (fun _ s9 ⟨σ9,H9,I9,e9,e9'⟩=>?_) fun _ _ f=>f.elim)
   subst e9 e9'
   refine wpAny_bind (wpAny_bind (wpAny_mono (he cl C s3 H3 fp pins _ s9 _ _ _ I9 (step y _ y8)) (fun v s10 ⟨z,H10,I10,r10,acc,a10,l10,m',hm',w10⟩=>?_) fun _ _ f=>f.elim))
   refine wpAny_bind (wpAny_mono (yhH (X:=cxC X scope cl C (x::fr) s3 H3 fp pins) _ s10 _ H10 (.ref D) [z] (.ref D) [v] (fun _ H11=>H11=upd H10 D (.lst (acc++[z]))) I10 rfl (.cons r10 .nil) ⟨D,acc,z,rfl,rfl,a10,l10,rfl⟩) (fun _ s11 ⟨_,H11,I11,_,e11⟩=>?_) fun _ _ f=>f.elim)
   subst e11
   refine wpAny_pure (wpAny_pure ⟨rfl,m',hm',i+1,some y,_,I11.unpinned,T.keep _ _ _ st8 fun b hb o e=>(I11.pin (b,o) (mem_append_right _ (mem_append_right _ (ydE hb e)))).1,fun b hb=>?_,w10⟩)
   obtain ⟨o,e,d⟩:=T.obj _ _ st8 b hb
   exact (I11.pin (b,o) (mem_append_right _ (mem_append_right _ (ydE hb e)))).2.1
 exact codeAny_compStart_list (loop _ rfl) (T.self X.A 0 _ _ _ st4 (loop _ rfl))
end L2
namespace L2
open PySem PySem.Spec PyProof.Rows
theorem yDO {P:Program}{w:World}{K:PySem.W.Frag}{tg:Expr}{ty:String}(hty:ty = "str_ascii_iterator"\/ty = "str_iterator") (z:Str) (t:Tok) (it:Addr):Turn P w K tg (Its z) [it] it (fun i h=>h.IsStrIter it ty z t i) where
 mem:=by simp
 obj:=fun i h st b hb=>by
  have e:b=it:=by simpa using hb
  subst e
  obtain ⟨o,e,c,d⟩:=st
  exact ⟨o,e,fun v q=>by rw [d] at q;cases q⟩
 keep:=fun i h h' st k=>by
  obtain ⟨o,e,c,d⟩:=st
  exact ⟨o,k it (by simp) o e,c,d⟩
 item:=by
  intro X hP hw hK hc i pins s σ H E I hf st hg
  subst hP hw hK
  obtain ⟨f0,f1,f2,f3,f4,f5⟩:=hf it (by simp)
  have hg:i<z.length:=hg
  obtain ⟨ch,hz⟩:∃ ch,z.cps[i]?=some ch:=⟨_,Array.getElem?_eq_getElem (show i<z.cps.size from hg)⟩
  have fin:∀ h',h'.IsStrIter it ty z t (i+1)->Heap.SameBut it s.heap h'->∃ u,some (Value.str ⟨#[ch]⟩ s.toks)=some u /\
    wpAny (model X.prog X.w) X.A (letOwnedTupleGo tg (.ref it) u) (fun _ s2=>∃ x H',Inv X pins σ H' s2/\RelV x u/\(Its z).yld i H x H'/\s2.heap.IsStrIter it ty z t (i+1)/\∀ b∈[it],H' b=none) E { s with heap:=h',toks:=s.toks+1 }:=fun h' st' sb=>by
   have I1:Inv X pins σ H { s with heap:=h',toks:=s.toks+1 }:=I.turned (t':=s.toks+1) (fun b o hb e=>(sb.2 b hb).trans e) f0 f1 f3 f4 f5
   obtain ⟨o,e,c,d⟩:=id st'
   refine ⟨_,rfl,yAi (s:={ s with heap:=h',toks:=s.toks+1 }) e c d (by rcases hty with rfl|rfl<;>decide) ⟨.str ⟨#[ch]⟩,H,I1,⟨_,rfl⟩,⟨rfl,_,by simpa using hz,rfl⟩,st',fun b hb=>(hf b hb).1⟩⟩
  rcases hty with rfl|rfl
  .exact wpAny_pyNext_ascii_item st hz fun h' st' sb=>fin h' st' sb
  .exact wpAny_pyNext_wide_item st hz fun h' st' sb=>fin h' st' sb
 done:=by
  intro X hP hw hK hc i pins s σ H E I hf st hg
  subst hP hw hK
  obtain ⟨f0,f1,f2,f3,f4,f5⟩:=hf it (by simp)
  have hg:i=z.length:=hg
  have hz:z.cps[i]?=none:=by simp [hg,Str.length]
  rcases hty with rfl|rfl
  .exact wpAny_pyNext_ascii_end (I.ok.hd hc) st hz fun h' eb=>⟨rfl,I.turned (t':=s.toks) (fun b o hb e=>eb b o hb e) f0 f1 f3 f4 f5⟩
  .exact wpAny_pyNext_wide_end (I.ok.hd hc) st hz fun h' eb=>⟨rfl,I.turned (t':=s.toks) (fun b o hb e=>eb b o hb e) f0 f1 f3 f4 f5⟩
 self:=fun _ _ _ _ _ st h=>by
  rcases hty with rfl|rfl
  .exact wpAny_pyIter_striter_ascii st h
  .exact wpAny_pyIter_striter_wide st h
section
variable {X:Cx}{tg:Expr}
theorem yKd {l:Expr}{tl:TE}(hl:PE X l tl):PI X tg l (yOd tl):=by
 intro pins s σ H R I h
 refine thn (hl pins s σ H _ I h) fun v s1 ⟨x,H1,I1,r1,q1⟩=>?_
 obtain ⟨z,e,hz,q⟩:=q1
 subst e
 obtain ⟨t,rfl⟩:=r1
 have fin:∀ ty,(ty = "str_ascii_iterator"\/ty = "str_iterator")->PIE X pins σ tg R (.ref s1.heap.objs.size) { s1 with heap:=s1.heap.push { cls:=.type ty,data:=.fields #[.str z t,.int 0 0] } }:=fun ty hty=>by
  refine ⟨s1.heap.objs.size,[s1.heap.objs.size],_,_,H1,rfl,I1.kept (t':=s1.toks) fun b o e=>Heap.get?_push_of_some _ e,yDO hty z t _,⟨_,Heap.get?_push_size _ rfl,rfl,rfl⟩,fun b hb=>?_,q⟩
  have e:b=s1.heap.objs.size:=by simpa using hb
  subst e
  exact I1.fpOk (Nat.le_refl _) (I1.hok.fresh (Nat.le_refl _))
 cases ha:z.cps.all (· < 128)
 .exact wpAny_pyIter_wide ha (fin _ (.inr rfl))
 .exact wpAny_pyIter_ascii ha (fin _ (.inl rfl))
theorem ynA (hc:X.calm=true):yjs X (.builtin "sum") yOc:=by
 intro pins s σ H xs us Q I r h
 obtain ⟨p,ns,rfl,hp,q⟩:=h
 obtain ⟨u,rfl,rx⟩:=vals1 r
 cases rx
 obtain ⟨its,n,rv,e,hz⟩:=I.lst hp
 have hi:IntsAre its ns:=intsAre_of rv
 have hl:s.heap.IsList p its.toArray:=⟨_,e,rfl,n,rfl⟩
 obtain ⟨xs,hx⟩:=hi.allInts.items
 have hl':s.heap.IsList p (intItems xs):=hx ▸ hl
 refine sum_intListG (I.ok.hd hc) hl' fun h' tk t' hk=>?_
 have e1:ns=xs.toList.map (·.1):=by
  rw [<- nums_intItems,<- hx]
  exact (show numsOf its.toArray.toList=ns from hi.numsOf).symm
 have e2:preSum (numAt xs) xs.size=ns.sum:=by
  rw [preSum_eq,List.take_of_length_le (by simp),e1]
 rw [e2]
 exact ⟨.int ns.sum,H,I.kept (t':=tk) hk,⟨_,rfl⟩,q⟩
theorem yKe:SlR X yOb:=by
 intro pins s σ H x v vl vu lo hi sl Q I rx hs pl pu h
 obtain ⟨z,rfl,hz,q⟩:=h
 obtain ⟨t,rfl⟩:=rx
 have pv':∀ {w':Value}{o:Option Int},IsPart w' o->∃ p:Option (Int×Tok),w'=partValue p/\p.map (·.1)=o:=fun {w' o} p=>by
  cases p with
  | none=>exact ⟨none,rfl,rfl⟩
  | int i t=>exact ⟨some (i,t),rfl,rfl⟩
 obtain ⟨l,el,ml⟩:=pv' pl
 obtain ⟨u,eu,mu⟩:=pv' pu
 obtain ⟨o,ho,hc,hd⟩:=hs
 refine ⟨"str",_,F.slot_str_getitem.lookup,typeIs_str _ _ _,wpAny_getItem_str_slice (l:=l) (u:=u) (st:=none) ⟨o,ho,hc,by rw [hd,el,eu];rfl⟩ rfl ?_⟩
 have hz':z.length<=sizeLine:=Nat.le_trans hz (by decide)
 have e:∀ t' k,EP X pins σ Q (.str (Txt.slice z lo hi) t') { s with toks:=k }:=fun t' k=>by
  rw [yAE]
  exact ⟨.str _,H,I.tok k,⟨_,rfl⟩,q⟩
 have e2:sliceMade z t l u none=(if ((1:Int) == 1 && (Builtin.Str.strSliceIndices lo hi 1 z.length).length == z.length)=true then Made.val (.str z t) else .str ⟨((Builtin.Str.strSliceIndices lo hi 1 z.length).filterMap (z.cps[·]?)).toArray⟩):=by
  unfold sliceMade slicePicked
  rw [ml,mu]
  rfl
 rw [e2]
 exact post_val_or_str ⟨Nat.le_trans (Txt.slice_le z _ _) hz',e⟩
theorem yDP {C:Addr}{x:Str}{p pos:Pos}(hm:makesIn X.K C=true) (hi:findIn X.K (.ref C) "__init__" = some (some (.builtin "object.__init__"))) (hk:keepIn X.K (.ref C)=true)
  (hg:Gl X x) (hmg:X.mg x=some (.ref C)) (hdb:(x == ("__debug__":Str))=false:=by decide):PE X (.Call (.Name x p) [] [] pos) (yFV C):=by
 intro pins s σ H Q I h
 refine wpAny_Call_Name_kw (ynL I hg hmg ?_ hdb)
 refine PySem.W.callWith_K0 I.kIn hk (wpAny_call ?_)
 have I2:=Inv.made (C:=C) I
 have q:=h (s.heap.objs.size+1) s.heap.objs.size (I.hok.fresh (Nat.le_succ _)) (I.hok.fresh (Nat.le_refl _)) (ne_of_lt (Nat.lt_succ_self _))
 have kin:=I.kIn
 obtain ⟨hh,g,d,t,os⟩:=s
 have Y:=PySem.W.makes_of (M:=model X.prog X.w) kin hm
 refine PySem.W.make_core Y (PySem.W.looks_findIn kin hi) (fun self=>PySem.W.Looks.of_pure (PySem.W.oi_bind self)) (.inr ⟨rfl,rfl⟩) ?_
 have e1:((hh.push emptyDict).push (instObj C hh.objs.size)).get? (hh.objs.size+1)=some (instObj C hh.objs.size):=by
  have:=Heap.get?_push_size (h:=hh.push emptyDict) (o:=instObj C hh.objs.size) rfl
  rwa [Heap.size_push] at this
 have t1:PySem.W.Looks (model X.prog X.w) ((hh.push emptyDict).push (instObj C hh.objs.size)) (typeOf (.ref (hh.objs.size+1))) (.ref C):=(PySem.W.Looks.ld e1).andThen .now
 have t2:PySem.W.Looks (model X.prog X.w) ((hh.push emptyDict).push (instObj C hh.objs.size)) (isInstance (.ref (hh.objs.size+1)) (.type "object")) true:=t1.andThen (Y.top.keeps fun b o e=>Heap.get?_push_of_some _ (Heap.get?_push_of_some _ e))
 refine codeAny_call_builtin PySem.W.oi_plain PySem.W.entry_oi (@PySem.W.check_slot (model X.prog X.w) _ _ _ "object.__init__" "object" "__init__" (.ref (hh.objs.size+1)) [] [] _ PySem.W.oi_kind PySem.W.oi_split t2 (PySem.W.oi_args (.ref (hh.objs.size+1))) ?_)
 show wpAny _ _ (Builtin.«object.__init__» ⟨[.ref (hh.objs.size+1)],[]⟩) _ _ _
 rw [PySem.W.oi_run]
 exact wpAny_pure (And.intro rfl ⟨.ref _,_,I2,rfl,q⟩)
def ywe {κ:Type}(P:Program) (w:World) (K:PySem.W.Frag) (mg:Str->Option Value) (base:Heap) (k:Nat) (A:κ->Addr) (m:Str) (sp:κ->Sp):Prop :=
 ∀ c:κ,Cls K (A c)/\((∀ vs H Q E,¬ sp c vs H Q E)\/∃ f fd ps,ycq K (A c) m f/\FnOk P w K mg base CX0 k f fd ps (sp c)/\Binds K fd ps [])
theorem yAF {κ:Type}{A:κ->Addr}{m:Str}{sp:κ->Sp}{k:Nat}{o:Expr}{ta:TE}{apos pos:Pos}{pl:Sem Bool}(he:PE X o ta) (G:ywe X.prog X.w X.K X.mg X.base k A m sp) (hr:Room k X.A)
  (ht:eval (.Call (.Attribute o m apos) [] [] pos) X.env=(do
   let ov <- eval o X.env
   standAt apos.atName
   let (f,first) <- holding [ov] (getMethod ov m pl)
   callWith pos f first (backTo pos (starEach [] X.env)) (backToKw pos (keywordEach [] X.env))):=by rfl):PE X (.Call (.Attribute o m apos) [] [] pos) (yFW A m sp ta):=by
 intro pins s σ H Q I h
 refine PySem.W.methodCall_KW (pl:=pl) (thn (he pins s σ H _ I h) fun u s1 ⟨x,H1,I1,rx,a,c,dx,fs,ex,ea,l,q⟩=>?_) ht
 subst ex
 obtain rfl:u=Value.ref a:=rx
 obtain ⟨cl,hn|⟨f,fd,ps,hm,F,hb⟩⟩:=G c
 .exact (hn _ _ _ _ q).elim
 refine ylG I1 ea cl hm l ?_
 exact PySem.W.callWith_K0 (first:=[.ref a]) I1.kIn hm.kp (yth (us:=[.ref a]) (vs:=[.ref a]) (dvs:=[]) (ds:=[]) F hr hb .nil yvZ I1 (.cons rfl .nil) q)
end
end L2
namespace L2
open PySem PySem.Spec PyProof.Rows
section
variable {X:Cx}
theorem yz:yjs X (.builtin "isinstance") (yOa X.K):=by
 intro pins s σ H xs us Q I r h
 obtain ⟨x,c,b,rfl,⟨t,u',ty,hc,hk⟩,q⟩:=h
 obtain ⟨u,w',rfl,ru,rc⟩:=vals2 r
 have e:w'=u':=by
  cases c<;>first|(cases hc;exact rc)|cases hc
 subst e
 exact yAs I ru ty hk fun tk=>⟨.bl b,H,I.tok tk,rfl,q⟩
end
end L2
namespace L2
open PySem PySem.Spec PyProof.Rows
theorem yfr:bootBuiltins "len" = some (.builtin "len"):=by rfl'
theorem yxS:bootBuiltins "sum" = some (.builtin "sum"):=by rfl'
theorem yp:bootBuiltins "isinstance" = some (.builtin "isinstance"):=by rfl'
theorem yxT:bootBuiltins "int" = some (.type "int"):=by rfl'
theorem yFX:bootBuiltins "str" = some (.type "str"):=by rfl'
theorem yHt:bootBuiltins "bool" = some (.type "bool"):=by rfl'
theorem ydl:bootBuiltins "list" = some (.type "list"):=by rfl'
theorem yxU:bootBuiltins "tuple" = some (.type "tuple"):=by rfl'
theorem ynT:bootBuiltins "dict" = some (.type "dict"):=by rfl'
section
variable {X:Cx}
theorem yHu {x:Str}{n:Int}{t:Tok}{pos:Pos}(hg:Gl X x) (hm:X.mg x=some (.int n t)) (hd:(x == ("__debug__":Str))=false:=by decide):PE X (.Name x pos) (tC (.int n)):=yvT hg hm ⟨t,rfl⟩ hd
theorem yHv {x:Str}{n:Str}{t:Tok}{pos:Pos}(hg:Gl X x) (hm:X.mg x=some (.str n t)) (hd:(x == ("__debug__":Str))=false:=by decide):PE X (.Name x pos) (tC (.str n)):=yvT hg hm ⟨t,rfl⟩ hd
theorem ywf {x:Str}{a:Addr}{pos:Pos}(hg:Gl X x) (hm:X.mg x=some (.ref a)) (hd:(x == ("__debug__":Str))=false:=by decide):PE X (.Name x pos) (tC (.ref a)):=yvT hg hm rfl hd
theorem yKf {x:Str}{n:String}{pos:Pos}(hg:Gl X x) (hm:X.mg x=none) (hv:bootBuiltins x=some (.type n)) (hn:x≠"__name__":=by decide) (hd:(x == ("__debug__":Str))=false:=by decide):PE X (.Name x pos) (tC (.ty n)):=yGV hg hm hv rfl hn hd
end
end L2
namespace L2
open PySem PySem.Spec PyProof.Rows
theorem ywg {K:PySem.W.Frag}{H:Hp}{i:Int}:IsI K H (.int i) (.ty "str") false:=⟨_,_,.int i,rfl,by with_unfolding_all rfl⟩
theorem ytt {K:PySem.W.Frag}{H:Hp}{i:Int}:IsI K H (.int i) (.ty "list") false:=⟨_,_,.int i,rfl,by with_unfolding_all rfl⟩
theorem yrt {K:PySem.W.Frag}{H:Hp}{i:Int}:IsI K H (.int i) (.ty "tuple") false:=⟨_,_,.int i,rfl,by with_unfolding_all rfl⟩
theorem ytu {K:PySem.W.Frag}{H:Hp}{i:Int}:IsI K H (.int i) (.ty "dict") false:=⟨_,_,.int i,rfl,by with_unfolding_all rfl⟩
theorem yyY {K:PySem.W.Frag}{H:Hp}{i:Bool}:IsI K H (.bl i) (.ty "int") true:=⟨_,_,.bl i,rfl,by with_unfolding_all rfl⟩
theorem yyZ {K:PySem.W.Frag}{H:Hp}{i:Bool}:IsI K H (.bl i) (.ty "str") false:=⟨_,_,.bl i,rfl,by with_unfolding_all rfl⟩
theorem ywh {K:PySem.W.Frag}{H:Hp}{i:Bool}:IsI K H (.bl i) (.ty "list") false:=⟨_,_,.bl i,rfl,by with_unfolding_all rfl⟩
theorem ytv {K:PySem.W.Frag}{H:Hp}{i:Bool}:IsI K H (.bl i) (.ty "tuple") false:=⟨_,_,.bl i,rfl,by with_unfolding_all rfl⟩
theorem ywi {K:PySem.W.Frag}{H:Hp}{i:Bool}:IsI K H (.bl i) (.ty "dict") false:=⟨_,_,.bl i,rfl,by with_unfolding_all rfl⟩
theorem ywj {K:PySem.W.Frag}{H:Hp}{i:Str}:IsI K H (.str i) (.ty "int") false:=⟨_,_,.str i,rfl,by with_unfolding_all rfl⟩
theorem ytw {K:PySem.W.Frag}{H:Hp}{i:Str}:IsI K H (.str i) (.ty "bool") false:=⟨_,_,.str i,rfl,by with_unfolding_all rfl⟩
theorem ytx {K:PySem.W.Frag}{H:Hp}{i:Str}:IsI K H (.str i) (.ty "list") false:=⟨_,_,.str i,rfl,by with_unfolding_all rfl⟩
theorem yru {K:PySem.W.Frag}{H:Hp}{i:Str}:IsI K H (.str i) (.ty "tuple") false:=⟨_,_,.str i,rfl,by with_unfolding_all rfl⟩
theorem yty {K:PySem.W.Frag}{H:Hp}{i:Str}:IsI K H (.str i) (.ty "dict") false:=⟨_,_,.str i,rfl,by with_unfolding_all rfl⟩
theorem ytz {K:PySem.W.Frag}{H:Hp}:IsI K H (.non) (.ty "bool") false:=⟨_,_,.non,rfl,by with_unfolding_all rfl⟩
theorem ywk {K:PySem.W.Frag}{H:Hp}:IsI K H (.non) (.ty "str") false:=⟨_,_,.non,rfl,by with_unfolding_all rfl⟩
theorem ytA {K:PySem.W.Frag}{H:Hp}:IsI K H (.non) (.ty "list") false:=⟨_,_,.non,rfl,by with_unfolding_all rfl⟩
theorem yrv {K:PySem.W.Frag}{H:Hp}:IsI K H (.non) (.ty "tuple") false:=⟨_,_,.non,rfl,by with_unfolding_all rfl⟩
theorem ytB {K:PySem.W.Frag}{H:Hp}:IsI K H (.non) (.ty "dict") false:=⟨_,_,.non,rfl,by with_unfolding_all rfl⟩
theorem ywl {K:PySem.W.Frag}{H:Hp}{a:Addr}{xs:List V}(e:H a=some (.lst xs)):IsI K H (.ref a) (.ty "int") false:=⟨_,_,.lst e,rfl,by with_unfolding_all rfl⟩
theorem ytC {K:PySem.W.Frag}{H:Hp}{a:Addr}{xs:List V}(e:H a=some (.lst xs)):IsI K H (.ref a) (.ty "bool") false:=⟨_,_,.lst e,rfl,by with_unfolding_all rfl⟩
theorem ywm {K:PySem.W.Frag}{H:Hp}{a:Addr}{xs:List V}(e:H a=some (.lst xs)):IsI K H (.ref a) (.ty "str") false:=⟨_,_,.lst e,rfl,by with_unfolding_all rfl⟩
theorem yrw {K:PySem.W.Frag}{H:Hp}{a:Addr}{xs:List V}(e:H a=some (.lst xs)):IsI K H (.ref a) (.ty "tuple") false:=⟨_,_,.lst e,rfl,by with_unfolding_all rfl⟩
theorem ytD {K:PySem.W.Frag}{H:Hp}{a:Addr}{xs:List V}(e:H a=some (.lst xs)):IsI K H (.ref a) (.ty "dict") false:=⟨_,_,.lst e,rfl,by with_unfolding_all rfl⟩
theorem yrx {K:PySem.W.Frag}{H:Hp}{a:Addr}(e:(∃ xs,H a=some (.tup xs))\/∃ o,K.lookup a=some o/\o.cls=.type "tuple"):IsI K H (.ref a) (.ty "tuple") true:=e.elim (fun ⟨_,e⟩=>⟨_,_,.tup e,rfl,by with_unfolding_all rfl⟩) fun ⟨_,e,c⟩=>⟨_,_,.kt e c,rfl,by with_unfolding_all rfl⟩
theorem ywn {K:PySem.W.Frag}{H:Hp}{a:Addr}(e:(∃ xs,H a=some (.tup xs))\/∃ o,K.lookup a=some o/\o.cls=.type "tuple"):IsI K H (.ref a) (.ty "int") false:=e.elim (fun ⟨_,e⟩=>⟨_,_,.tup e,rfl,by with_unfolding_all rfl⟩) fun ⟨_,e,c⟩=>⟨_,_,.kt e c,rfl,by with_unfolding_all rfl⟩
theorem ytE {K:PySem.W.Frag}{H:Hp}{a:Addr}(e:(∃ xs,H a=some (.tup xs))\/∃ o,K.lookup a=some o/\o.cls=.type "tuple"):IsI K H (.ref a) (.ty "bool") false:=e.elim (fun ⟨_,e⟩=>⟨_,_,.tup e,rfl,by with_unfolding_all rfl⟩) fun ⟨_,e,c⟩=>⟨_,_,.kt e c,rfl,by with_unfolding_all rfl⟩
theorem ywo {K:PySem.W.Frag}{H:Hp}{a:Addr}(e:(∃ xs,H a=some (.tup xs))\/∃ o,K.lookup a=some o/\o.cls=.type "tuple"):IsI K H (.ref a) (.ty "str") false:=e.elim (fun ⟨_,e⟩=>⟨_,_,.tup e,rfl,by with_unfolding_all rfl⟩) fun ⟨_,e,c⟩=>⟨_,_,.kt e c,rfl,by with_unfolding_all rfl⟩
theorem ytF {K:PySem.W.Frag}{H:Hp}{a:Addr}(e:(∃ xs,H a=some (.tup xs))\/∃ o,K.lookup a=some o/\o.cls=.type "tuple"):IsI K H (.ref a) (.ty "list") false:=e.elim (fun ⟨_,e⟩=>⟨_,_,.tup e,rfl,by with_unfolding_all rfl⟩) fun ⟨_,e,c⟩=>⟨_,_,.kt e c,rfl,by with_unfolding_all rfl⟩
theorem ytG {K:PySem.W.Frag}{H:Hp}{a:Addr}(e:(∃ xs,H a=some (.tup xs))\/∃ o,K.lookup a=some o/\o.cls=.type "tuple"):IsI K H (.ref a) (.ty "dict") false:=e.elim (fun ⟨_,e⟩=>⟨_,_,.tup e,rfl,by with_unfolding_all rfl⟩) fun ⟨_,e,c⟩=>⟨_,_,.kt e c,rfl,by with_unfolding_all rfl⟩
end L2
namespace L2
open PySem PySem.Spec PyProof.Rows
theorem yDQ {K:PySem.W.Frag}{C:Addr}:PySem.W.kitOne K (.ref C) (.ref C)=some true:=by
 unfold PySem.W.kitOne
 have:((Value.ref C) == (Value.ref C))=true:=by simp
 rw [if_pos this]
theorem yDR {K:PySem.W.Frag}{C C':Addr}{b:Bool}(hm:mroIn K C' (.type "object")=some true) (ht:typeIn K (.ref C')=some (.type "type")) (hs:subIn K (.ref C) (.ref C')=some b):PySem.W.kitCls K (.ref C) (.ref C')=some b:=by
 unfold PySem.W.kitCls
 have h1:(PySem.W.clsIn K C').isSome=true:=by
  unfold mroIn at hm
  cases e:PySem.W.clsIn K C' with
  | none=>rw [e] at hm;cases hm
  | some c=>rfl
 have h2:(typeIn K (.ref C') == some (.type "type"))=true:=by rw [ht];simp
 show (if _ then _ else _)=_
 rw [if_pos (by rw [h1,h2];rfl)]
 exact hs
theorem yDS {K:PySem.W.Frag}{C C':Addr}(hn:(C == C')=false) (hm:mroIn K C' (.type "object")=some true) (ht:typeIn K (.ref C')=some (.type "type")) (hs:subIn K (.ref C) (.ref C')=some false):PySem.W.kitOne K (.ref C) (.ref C')=some false:=by
 unfold PySem.W.kitOne
 have:¬ ((Value.ref C) == (Value.ref C'))=true:=by
  intro z
  have z:=eq_of_beq z
  cases z
  simp at hn
 rw [if_neg this]
 exact yDR hm ht hs
theorem all_cons {α:Type}{p:α->Prop}{a:α}{l:List α}(h:p a) (t:∀ x∈l,p x):∀ x∈a::l,p x:=fun x hx=>by
 rcases mem_cons.mp hx with e|e
 .rw [e];exact h
 .exact t x e
end L2
namespace PX
open PySem L2
structure Ck where
 K:PySem.W.Frag
 A:Nat->Addr
inductive PV where
 | non|bl (b:Bool)|int (i:Int)|str (s:Str)|ty (n:String)|cls (k:Nat)
 | scr (ns:List Int)
 | lst (xs:List PV)|tup (xs:List PV)
 | ins (k:Nat) (ns:List Str) (xs:List PV)
 | loc (n:Nat)
inductive Nd where
 | lst (xs:List PV)|dct (ks:List Key) (xs:List PV)|fz (ks:List Key) (xs:List PV)|ins (k:Nat) (ns:List Str) (xs:List PV)|dead
abbrev AH:=List Nd
inductive PVar where|no|val (x:PV)|own (d:Nd)
abbrev PSt:=List PVar
inductive Out where|nx (ρ:PSt)|rt (x:PV)|bk (ρ:PSt)|ct (ρ:PSt)
abbrev XE:=PSt->AH->Option (PV×AH)
abbrev XT:=PSt->AH->Option (Bool×AH)
abbrev XA:=PSt->AH->Option (List PV×AH)
abbrev XO:=PSt->AH->Option (Nd×AH)
abbrev XS:=PSt->AH->Option (Out×AH)
abbrev Fn:=List PV->AH->Option (PV×AH)
def KTp (K:PySem.W.Frag) (a:Addr) (xs:List V):Prop:=∃ (o:Obj) (its:Array Value) (n:Nat),K.lookup a=some o/\o.cls=.type "tuple"/\o.data=.seq its n/\its.size<=sizeLine/\Vals xs its.toList
def TpAt (K:PySem.W.Frag) (F:Hp) (a:Addr) (xs:List V):Prop:=F a=some (.tup xs)\/KTp K a xs
theorem TpAt.mono {K:PySem.W.Frag}{F F':Hp}{a:Addr}{xs:List V}(s:Same F F') (h:TpAt K F a xs):TpAt K F' a xs:=h.elim (fun h=>.inl (s _ _ h)) .inr
mutual
noncomputable def Rep (K:Ck) (F:Hp) (m:List Addr):PV->V->Prop
 | .non,v=>v=.non
 | .bl b,v=>v=.bl b
 | .int i,v=>v=.int i
 | .str s,v=>v=.str s
 | .ty n,v=>v=.ty n
 | .cls k,v=>v=.ref (K.A k)
 | .scr ns,v=>∃ a,v=.ref a/\SqL K.K F a (ns.map V.int)
 | .lst xs,v=>∃ a vs,v=.ref a/\F a=some (.lst vs)/\RepL K F m xs vs
 | .tup xs,v=>∃ a vs,v=.ref a/\TpAt K.K F a vs/\RepL K F m xs vs
 | .ins k ns xs,v=>∃ a dx vs,v=.ref a/\F a=some (.ins (K.A k) dx (ns.zip vs))/\vs.length=ns.length/\RepL K F m xs vs
 | .loc n,v=>∃ a,v=.ref a/\m[n]?=some a
noncomputable def RepL (K:Ck) (F:Hp) (m:List Addr):List PV->List V->Prop
 | [],vs=>vs=[]
 | x::xs,vs=>∃ v r,vs=v::r/\Rep K F m x v/\RepL K F m xs r
end
section
variable {K:Ck}{F F' H H':Hp}{m m':List Addr}
theorem ylH {n:Nat}{a:Addr}(p:m <+: m') (h:m[n]?=some a):m'[n]?=some a:=by
 obtain ⟨r,rfl⟩:=p
 rw [getElem?_append_left (List.getElem?_eq_some_iff.mp h).1];exact h
mutual
theorem Rep.mono (s:Same F F') (p:m <+: m'):∀ (x:PV) (v:V),Rep K F m x v->Rep K F' m' x v
 | .non,_,h=>h
 | .bl _,_,h=>h
 | .int _,_,h=>h
 | .str _,_,h=>h
 | .ty _,_,h=>h
 | .cls _,_,h=>h
 | .scr _,_,⟨a,e,h⟩=>⟨a,e,s.seq h⟩
 | .lst xs,_,⟨a,vs,e,h,r⟩=>⟨a,vs,e,s _ _ h,RepL.mono s p xs vs r⟩
 | .tup xs,_,⟨a,vs,e,h,r⟩=>⟨a,vs,e,h.mono s,RepL.mono s p xs vs r⟩
 | .ins _ _ xs,_,⟨a,dx,vs,e,h,l,r⟩=>⟨a,dx,vs,e,s _ _ h,l,RepL.mono s p xs vs r⟩
 | .loc _,_,⟨a,e,h⟩=>⟨a,e,ylH p h⟩
theorem RepL.mono (s:Same F F') (p:m <+: m'):∀ (xs:List PV) (vs:List V),RepL K F m xs vs->RepL K F' m' xs vs
 | [],_,h=>h
 | x::xs,_,⟨v,r,e,h,l⟩=>⟨v,r,e,Rep.mono s p x v h,RepL.mono s p xs r l⟩
end
theorem RepL.len:∀ {xs:List PV}{vs:List V},RepL K F m xs vs->vs.length=xs.length
 | [],_,h=>by rw [show _=[] from h];rfl
 | x::xs,_,⟨v,r,e,h,l⟩=>by rw [e,length_cons,length_cons,RepL.len l]
theorem RepL.get:∀ {xs:List PV}{vs:List V}{i:Nat}{x:PV},RepL K F m xs vs->xs[i]?=some x->∃ v,vs[i]?=some v/\Rep K F m x v
 | x::xs,_,0,y,⟨v,r,e,h,l⟩,q=>by
  simp at q;subst q;subst e;exact ⟨v,rfl,h⟩
 | x::xs,_,i+1,y,⟨v,r,e,h,l⟩,q=>by
  subst e
  obtain ⟨w,h1,h2⟩:=RepL.get (i:=i) l (by simpa using q)
  exact ⟨w,by simpa using h1,h2⟩
theorem RepL.get' {xs:List PV}{vs:List V}{i:Nat}{v:V}(h:RepL K F m xs vs) (e:vs[i]?=some v):∃ x,xs[i]?=some x/\Rep K F m x v:=by
 have hl:=h.len
 have hi:i<vs.length:=(List.getElem?_eq_some_iff.mp e).1
 have hx:xs[i]?=some xs[i]:=List.getElem?_eq_getElem (by omega)
 obtain ⟨w,h1,h2⟩:=h.get hx
 rw [e] at h1;cases h1
 exact ⟨_,hx,h2⟩
theorem RepL.app:∀ {xs ys:List PV}{vs us:List V},RepL K F m xs vs->RepL K F m ys us->RepL K F m (xs++ys) (vs++us)
 | [],_,_,_,h,k=>by rw [show _=[] from h];exact k
 | x::xs,ys,_,us,⟨v,r,e,h,l⟩,k=>by subst e;exact ⟨v,r++us,rfl,h,RepL.app l k⟩
theorem RepL.snoc {xs:List PV}{vs:List V}{x:PV}{v:V}(h:RepL K F m xs vs) (k:Rep K F m x v):RepL K F m (xs++[x]) (vs++[v]):=h.app ⟨v,[],rfl,k,rfl⟩
theorem RepL.drop:∀ {xs:List PV}{vs:List V}(n:Nat),RepL K F m xs vs->RepL K F m (xs.drop n) (vs.drop n)
 | _,_,0,h=>by simpa using h
 | [],_,n+1,h=>by rw [show _=[] from h];rfl
 | x::xs,_,n+1,⟨v,r,e,h,l⟩=>by subst e;simpa using RepL.drop n l
theorem RepL.take:∀ {xs:List PV}{vs:List V}(n:Nat),RepL K F m xs vs->RepL K F m (xs.take n) (vs.take n)
 | _,_,0,h=>by simp;rfl
 | [],_,n+1,h=>by rw [show _=[] from h];rfl
 | x::xs,_,n+1,⟨v,r,e,h,l⟩=>by subst e;exact ⟨v,r.take n,rfl,h,RepL.take n l⟩
theorem RepL.set:∀ {xs:List PV}{vs:List V}{x:PV}{v:V}(i:Nat),RepL K F m xs vs->Rep K F m x v->RepL K F m (xs.set i x) (vs.set i v)
 | [],_,_,_,_,h,_=>by rw [show _=[] from h];rfl
 | y::xs,_,x,v,0,⟨w,r,e,h,l⟩,k=>by subst e;exact ⟨v,r,rfl,k,l⟩
 | y::xs,_,x,v,i+1,⟨w,r,e,h,l⟩,k=>by subst e;exact ⟨w,r.set i v,rfl,h,RepL.set i l k⟩
theorem RepL.of_ints:∀ (ns:List Int),RepL K F m (ns.map PV.int) (ns.map V.int)
 | []=>rfl
 | n::ns=>⟨_,_,rfl,rfl,RepL.of_ints ns⟩
end
noncomputable def NdAt (K:Ck) (F H:Hp) (m:List Addr):Nd->Addr->Prop
 | .dead,a=>∃ o,H a=some o
 | .lst xs,a=>F a=none/\∃ vs,H a=some (.lst vs)/\RepL K F m xs vs
 | .dct ks xs,a=>F a=none/\∃ vs,H a=some (.dK (ks.zip vs))/\vs.length=ks.length/\RepL K F m xs vs
 | .fz ks xs,a=>F a=none/\∃ o vs,H a=some (.frz o (.dK (ks.zip vs)))/\vs.length=ks.length/\RepL K F m xs vs
 | .ins k ns xs,a=>F a=none/\∃ dx vs,H a=some (.ins (K.A k) dx (ns.zip vs))/\vs.length=ns.length/\RepL K F m xs vs
structure Wd where
 F:Hp
 H:Hp
 m:List Addr
 h:AH
structure WOk (K:Ck) (W:Wd):Prop where
 le:Same W.F W.H
 len:W.m.length=W.h.length
 nd:W.m.Nodup
 at_:∀ (n:Nat) (d:Nd) (a:Addr),W.h[n]?=some d->W.m[n]?=some a->NdAt K W.F W.H W.m d a
structure Le (K:Ck) (W W':Wd):Prop where
 ok:WOk K W'
 fs:Same W.F W'.F
 pre:W.m <+: W'.m
 keep:∀ b o,W.H b=some o->b∉W.m->W'.H b=some o
 new:∀ b o,W.H b=some o->b∉W.m->W.F b=none->W'.F b=none
 mn:∀ b∈W'.m,b∉W.m->W.H b=none
 fz:∀ (n:Nat) (ks:List Key) (xs:List PV),W.h[n]?=some (.fz ks xs)->W'.h[n]?=some (.fz ks xs)/\∀ a,W.m[n]?=some a->W'.H a=W.H a
theorem Le.refl {K:Ck}{W:Wd}(h:WOk K W):Le K W W:=⟨h,Same.refl _,prefix_refl _,fun _ _ e _=>e,fun _ _ _ _ e=>e,fun _ h h'=>absurd h h',fun _ _ _ e=>⟨e,fun _ _=>rfl⟩⟩
theorem Le.trans {K:Ck}{W W1 W2:Wd}(a:Le K W W1) (b:Le K W1 W2):Le K W W2 where
 ok:=b.ok
 fs:=a.fs.trans b.fs
 pre:=a.pre.trans b.pre
 keep:=fun c o e n=>b.keep c o (a.keep c o e n) fun z=>by rw [a.mn c z n] at e;cases e
 new:=fun c o e n f=>b.new c o (a.keep c o e n) (fun z=>by rw [a.mn c z n] at e;cases e) (a.new c o e n f)
 mn:=fun c z n=>by
  by_cases hc:c∈W1.m
  .exact a.mn c hc n
  .have:=b.mn c z hc
   cases e:W.H c with
   | none=>rfl
   | some o=>rw [a.keep c o e n] at this;cases this
 fz:=fun n ks xs e=>by
  obtain ⟨e1,q1⟩:=a.fz n ks xs e
  obtain ⟨e2,q2⟩:=b.fz n ks xs e1
  exact ⟨e2,fun c em=>(q2 c (ylH a.pre em)).trans (q1 c em)⟩
abbrev ydh (K:Ck) (W:Wd) (x:PV) (v:V):Prop:=Rep K W.F W.m x v
abbrev ydF (K:Ck) (W:Wd) (x:List PV) (v:List V):Prop:=RepL K W.F W.m x v
theorem Le.rep {K:Ck}{W W':Wd}(l:Le K W W') {x:PV}{v:V}(h:ydh K W x v):ydh K W' x v:=Rep.mono l.fs l.pre x v h
theorem Le.repL {K:Ck}{W W':Wd}(l:Le K W W') {x:List PV}{v:List V}(h:ydF K W x v):ydF K W' x v:=RepL.mono l.fs l.pre x v h
theorem NdAt.mono {K:Ck}{F F' H H':Hp}{m m':List Addr}(s:Same F F') (p:m <+: m') {d:Nd}{a:Addr}(hH:∀ o,H a=some o->H' a=some o) (hF:F a=none->F' a=none) (h:NdAt K F H m d a):NdAt K F' H' m' d a:=by
 cases d with
 | dead=>obtain ⟨o,e⟩:=h;exact ⟨o,hH _ e⟩
 | lst xs=>obtain ⟨f,vs,e,r⟩:=h;exact ⟨hF f,vs,hH _ e,RepL.mono s p _ _ r⟩
 | dct ks xs=>obtain ⟨f,vs,e,l,r⟩:=h;exact ⟨hF f,vs,hH _ e,l,RepL.mono s p _ _ r⟩
 | fz ks xs=>obtain ⟨f,o,vs,e,l,r⟩:=h;exact ⟨hF f,o,vs,hH _ e,l,RepL.mono s p _ _ r⟩
 | ins C ns xs=>obtain ⟨f,dx,vs,e,l,r⟩:=h;exact ⟨hF f,dx,vs,hH _ e,l,RepL.mono s p _ _ r⟩
theorem NdAt.some {K:Ck}{F H:Hp}{m:List Addr}{d:Nd}{a:Addr}(h:NdAt K F H m d a):∃ o,H a=some o:=by
 cases d with
 | dead=>exact h
 | lst xs=>obtain ⟨f,vs,e,r⟩:=h;exact ⟨_,e⟩
 | dct ks xs=>obtain ⟨f,vs,e,r⟩:=h;exact ⟨_,e⟩
 | fz ks xs=>obtain ⟨f,o,vs,e,r⟩:=h;exact ⟨_,e⟩
 | ins C ns xs=>obtain ⟨f,dx,vs,e,r⟩:=h;exact ⟨_,e⟩
structure Good (K:Ck) (W0 W:Wd) (ρ:PSt) (σ:St):Prop where
 le:Le K W0 W
 len:σ.length=ρ.length
 val:∀ (i:Nat) (x:PV),ρ[i]?=some (.val x)->∃ v,σ[i]?=some (some v)/\ydh K W x v
 own:∀ (i:Nat) (d:Nd),ρ[i]?=some (.own d)->∃ p,σ[i]?=some (some (.ref p))/\p∉W.m/\W0.H p=none/\d≠.dead/\NdAt K W.F W.H W.m d p
 ne:∀ (i j:Nat) (d d':Nd),i≠j->ρ[i]?=some (.own d)->ρ[j]?=some (.own d')->σ[i]?≠σ[j]?
theorem Good.ok {K:Ck}{W0 W:Wd}{ρ:PSt}{σ:St}(g:Good K W0 W ρ σ):WOk K W:=g.le.ok
theorem Good.step {K:Ck}{W0 W W':Wd}{ρ:PSt}{σ:St}(g:Good K W0 W ρ σ) (l:Le K W W'):Good K W0 W' ρ σ where
 le:=g.le.trans l
 len:=g.len
 val:=fun i x e=>let ⟨v,h1,h2⟩:=g.val i x e;⟨v,h1,l.rep h2⟩
 own:=fun i d e=>by
  obtain ⟨p,h1,h2,h3,h4,h5⟩:=g.own i d e
  obtain ⟨o,ho⟩:=h5.some
  have n':p∉W'.m:=fun z=>by rw [l.mn p z h2] at ho;cases ho
  refine ⟨p,h1,n',h3,h4,h5.mono l.fs l.pre (fun o e=>l.keep p o e h2) fun f=>l.new p o ho h2 f⟩
 ne:=g.ne
theorem WOk.some {K:Ck}{W:Wd}(w:WOk K W) {a:Addr}(h:a∈W.m):∃ o,W.H a=some o:=by
 obtain ⟨n,hn,e⟩:=getElem_of_mem h
 have hl:n<W.h.length:=by rw [<- w.len];exact hn
 exact (w.at_ n W.h[n] a (List.getElem?_eq_getElem hl) (by rw [List.getElem?_eq_getElem hn,e])).some
theorem Le.fresh {K:Ck}{W W':Wd}(l:Le K W W') {p:Addr}(h:W'.H p=none):W.H p=none:=by
 cases e:W.H p with
 | none=>rfl
 | some o =>
  by_cases hm:p∈W.m
  .obtain ⟨o,q⟩:=l.ok.some (l.pre.subset hm)
   rw [h] at q;cases q
  .rw [l.keep p o e hm] at h;cases h
theorem WOk.out {K:Ck}{W:Wd}(w:WOk K W) {p:Addr}(h:W.H p=none):p∉W.m:=fun z=>by
 obtain ⟨o,q⟩:=w.some z
 rw [h] at q;cases q
theorem WOk.ff {K:Ck}{W:Wd}(w:WOk K W) {p:Addr}(h:W.H p=none):W.F p=none:=Same.free w.le h
structure Lf (K:Ck) (W W':Wd):Prop where
 fs:Same W.F W'.F
 pre:W.m <+: W'.m
 fz:∀ (n:Nat) (ks:List Key) (xs:List PV),W.h[n]?=some (.fz ks xs)->W'.h[n]?=some (.fz ks xs)/\∀ a,W.m[n]?=some a->W'.H a=W.H a
theorem Le.lf {K:Ck}{W W':Wd}(l:Le K W W'):Lf K W W':=⟨l.fs,l.pre,l.fz⟩
theorem Lf.refl {K:Ck}{W:Wd}:Lf K W W:=⟨Same.refl _,prefix_refl _,fun _ _ _ e=>⟨e,fun _ _=>rfl⟩⟩
theorem Lf.trans {K:Ck}{W W1 W2:Wd}(a:Lf K W W1) (b:Lf K W1 W2):Lf K W W2:=⟨a.fs.trans b.fs,a.pre.trans b.pre,fun n ks xs e=>by
  obtain ⟨e1,q1⟩:=a.fz n ks xs e
  obtain ⟨e2,q2⟩:=b.fz n ks xs e1
  exact ⟨e2,fun c em=>(q2 c (ylH a.pre em)).trans (q1 c em)⟩⟩
theorem Lf.rep {K:Ck}{W W':Wd}(l:Lf K W W') {x:PV}{v:V}(h:ydh K W x v):ydh K W' x v:=Rep.mono l.fs l.pre x v h
noncomputable def ybZ (K:Ck) (t:TE) (e:XE):Prop:=∀ (W0 W:Wd) (ρ:PSt) (σ:St) (Q:VK) (x:PV) (h':AH),Good K W0 W ρ σ->e ρ W.h=some (x,h') ->
 (∀ v W',W'.h=h'->Le K W W'->ydh K W' x v->Q v W'.H)->t σ W.H Q
noncomputable def yvN (K:Ck) (t:TT) (e:XT):Prop:=∀ (W0 W:Wd) (ρ:PSt) (σ:St) (Q:Bool->Hp->Prop) (x:Bool) (h':AH),Good K W0 W ρ σ->e ρ W.h=some (x,h') ->
 (∀ W',W'.h=h'->Le K W W'->Q x W'.H)->t σ W.H Q
noncomputable def ytH (K:Ck) (t:TA) (e:XA):Prop:=∀ (W0 W:Wd) (ρ:PSt) (σ:St) (Q:List V->Hp->Prop) (x:List PV) (h':AH),Good K W0 W ρ σ->e ρ W.h=some (x,h') ->
 (∀ v W',W'.h=h'->Le K W W'->ydF K W' x v->Q v W'.H)->t σ W.H Q
def yxV (K:Ck) (t:TE) (e:XO):Prop:=∀ (W0 W:Wd) (ρ:PSt) (σ:St) (Q:VK) (d:Nd) (h':AH),Good K W0 W ρ σ->e ρ W.h=some (d,h') ->
 (∀ p W',W'.h=h'->Le K W W'->p∉W'.m->W.H p=none->d≠.dead->NdAt K W'.F W'.H W'.m d p->Q (.ref p) W'.H)->t σ W.H Q
noncomputable def Ends.Ok (K:Ck) (W0 W:Wd) (D:Ends) (h':AH):Out->Prop
 | .nx ρ'=>∀ W' σ',W'.h=h'->Lf K W W'->Good K W0 W' ρ' σ'->D.nx σ' W'.H
 | .bk ρ'=>∀ W' σ',W'.h=h'->Lf K W W'->Good K W0 W' ρ' σ'->D.bk σ' W'.H
 | .ct ρ'=>∀ W' σ',W'.h=h'->Lf K W W'->Good K W0 W' ρ' σ'->D.ct σ' W'.H
 | .rt x=>∀ W' v,W'.h=h'->Le K W0 W'->ydh K W' x v->D.rt v W'.H
def ykB (K:Ck) (t:TS) (s:XS):Prop:=∀ (W0 W:Wd) (ρ:PSt) (σ:St) (D:Ends) (o:Out) (h':AH),Good K W0 W ρ σ->s ρ W.h=some (o,h')->Ends.Ok K W0 W D h' o->t D σ W.H
noncomputable def ob {α β:Type}(o:Option (α×AH)) (f:α->AH->Option β):Option β:=o.bind fun q=>f q.1 q.2
theorem yj {α β:Type}{o:Option (α×AH)}{f:α->AH->Option β}{b:β}(h:ob o f=some b):∃ x h',o=some (x,h')/\f x h'=some b:=by
 obtain ⟨⟨x,h'⟩,e,k⟩:=Option.bind_eq_some_iff.mp h
 exact ⟨x,h',e,k⟩
theorem yKg {α β:Type}{x:α}{h:AH}{f:α->AH->Option β}:ob (some (x,h)) f=f x h:=rfl
end PX
namespace PX
open PySem L2
variable {K:Ck}
def yd (i:Nat):XE:=fun ρ h=>match ρ[i]? with|some (.val x)=>some (x,h)|_=>none
def xC (x:PV):XE:=fun _ h=>some (x,h)
abbrev P2:=PV->PV->AH->Option (PV×AH)
abbrev P2O:=PV->PV->AH->Option (Nd×AH)
def xOp (p:P2) (a b:XE):XE:=fun ρ h=>ob (a ρ h) fun x h1=>ob (b ρ h1) fun y h2=>p x y h2
def yAG (p:P2O) (a b:XE):XO:=fun ρ h=>ob (a ρ h) fun x h1=>ob (b ρ h1) fun y h2=>p x y h2
def xUn (p:PV->AH->Option (PV×AH)) (a:XE):XE:=fun ρ h=>ob (a ρ h) fun x h1=>p x h1
def oB (x:PV) (h:AH):Option (Bool×AH):=match x with|.bl b=>some (b,h)|_=>none
def ytI (p p':P2) (a b c:XE):XE:=fun ρ h=>ob (a ρ h) fun x h1=>ob (b ρ h1) fun y h2=>ob (p x y h2) fun z h3=>ob (oB z h3) fun k h3=>if k=true then ob (c ρ h3) fun w h4=>p' y w h4 else some (.bl false,h3)
def yt (a:XE):XT:=fun ρ h=>ob (a ρ h) oB
def ywp (a b:XE):XE:=fun ρ h=>ob (a ρ h) fun x h1=>ob (oB x h1) fun k h1=>if k=true then b ρ h1 else some (.bl false,h1)
def yDT (a:XE):XE:=fun ρ h=>ob (a ρ h) fun x h1=>ob (oB x h1) fun k h1=>some (.bl (!k),h1)
def yAH (a b:XT):XT:=fun ρ h=>ob (a ρ h) fun k h1=>if k=true then b ρ h1 else some (false,h1)
def xOr (a b:XT):XT:=fun ρ h=>ob (a ρ h) fun k h1=>if k=true then some (true,h1) else b ρ h1
def yDU (a:XT):XT:=fun ρ h=>ob (a ρ h) fun k h1=>some (!k,h1)
def xIf (c:XT) (a b:XE):XE:=fun ρ h=>ob (c ρ h) fun k h1=>if k=true then a ρ h1 else b ρ h1
def yn:XA:=fun _ h=>some ([],h)
def yb (a:XE) (r:XA):XA:=fun ρ h=>ob (a ρ h) fun x h1=>ob (r ρ h1) fun xs h2=>some (x::xs,h2)
def yeD (a:XA):XE:=fun ρ h=>ob (a ρ h) fun xs h1=>if xs.length<=1000 then some (.tup xs,h1) else none
def ygf (a:XA):XO:=fun ρ h=>ob (a ρ h) fun xs h1=>if xs.length<=1000 then some (.lst xs,h1) else none
def xFz (e:XO):XE:=fun ρ h=>ob (e ρ h) fun d h1=>match d with|.lst xs=>some (.lst xs,h1)|.ins k ns xs=>some (.ins k ns xs,h1)|_=>none
def ygw (e:XO):XE:=fun ρ h=>ob (e ρ h) fun d h1=>some (.loc h1.length,h1++[d])
def yba (f:Fn) (a:XA):XE:=fun ρ h=>ob (a ρ h) f
def xCB (p:List PV->AH->Option (PV×AH)) (a:XA):XE:=fun ρ h=>ob (a ρ h) p
def ykC (p:List PV->AH->Option (Nd×AH)) (a:XA):XO:=fun ρ h=>ob (a ρ h) p
abbrev PM:=PV->List PV->AH->Option (PV×AH)
def xBM (c:PV->AH->Bool) (p:PM) (o:XE) (a:XA):XE:=fun ρ h=>ob (o ρ h) fun x h1=>if c x h1=true then ob (a ρ h1) fun xs h2=>p x xs h2 else none
def yhD (e:XE):PSt->AH->Option (Option Int×AH):=fun ρ h=>ob (e ρ h) fun x h1=>match x with|.int i=>some (some i,h1)|_=>none
def yfH:PSt->AH->Option (Option Int×AH):=fun _ h=>some (none,h)
def xSl (p:PV->Option Int->Option Int->AH->Option (PV×AH)) (e:XE) (lo hi:PSt->AH->Option (Option Int×AH)):XE:=fun ρ h=>ob (e ρ h) fun x h1=>ob (lo ρ h1) fun l h2=>ob (hi ρ h2) fun u h3=>p x l u h3
def yza (p:PV->Option Int->Option Int->AH->Option (Nd×AH)) (e:XE) (lo hi:PSt->AH->Option (Option Int×AH)):XO:=fun ρ h=>ob (e ρ h) fun x h1=>ob (lo ρ h1) fun l h2=>ob (hi ρ h2) fun u h3=>p x l u h3
noncomputable def ycQ (K:Ck) (r:R2) (p:P2):Prop:=∀ (W:Wd) (x y:PV) (v u:V) (Q:VK) (z:PV) (h':AH),WOk K W->ydh K W x v->ydh K W y u->p x y W.h=some (z,h')->(∀ w W',W'.h=h'->Le K W W'->ydh K W' z w->Q w W'.H)->r v u W.H Q
def yzb (K:Ck) (W:Wd) (d:Nd) (h':AH) (Q:VK):Prop:=∀ p W',W'.h=h'->Le K W W'->p∉W'.m->W.H p=none->d≠.dead->NdAt K W'.F W'.H W'.m d p->Q (.ref p) W'.H
def yAI (K:Ck) (r:R2) (p:P2O):Prop:=∀ (W:Wd) (x y:PV) (v u:V) (Q:VK) (d:Nd) (h':AH),WOk K W->ydh K W x v->ydh K W y u->p x y W.h=some (d,h')->yzb K W d h' Q->r v u W.H Q
noncomputable def yHw (K:Ck) (r:V->Hp->VK->Prop) (p:PV->AH->Option (PV×AH)):Prop:=∀ (W:Wd) (x:PV) (v:V) (Q:VK) (z:PV) (h':AH),WOk K W->ydh K W x v->p x W.h=some (z,h')->(∀ w W',W'.h=h'->Le K W W'->ydh K W' z w->Q w W'.H)->r v W.H Q
noncomputable def yry (K:Ck) (r:List V->Hp->VK->Prop) (p:List PV->AH->Option (PV×AH)):Prop:=∀ (W:Wd) (xs:List PV) (vs:List V) (Q:VK) (z:PV) (h':AH),WOk K W->ydF K W xs vs->p xs W.h=some (z,h')->(∀ w W',W'.h=h'->Le K W W'->ydh K W' z w->Q w W'.H)->r vs W.H Q
def ytJ (K:Ck) (r:List V->Hp->VK->Prop) (p:List PV->AH->Option (Nd×AH)):Prop:=∀ (W:Wd) (xs:List PV) (vs:List V) (Q:VK) (d:Nd) (h':AH),WOk K W->ydF K W xs vs->p xs W.h=some (d,h')->yzb K W d h' Q->r vs W.H Q
def ytK (K:Ck) (T:String) (c:PV->AH->Bool) (r:V->List V->Hp->VK->Prop) (p:PM):Prop :=
 (∀ (W:Wd) (x:PV) (v:V),WOk K W->ydh K W x v->c x W.h=true->tyV K.K T v W.H) /\
 ∀ (W:Wd) (x:PV) (v:V) (xs:List PV) (vs:List V) (Q:VK) (z:PV) (h':AH),WOk K W->ydh K W x v->ydF K W xs vs->p x xs W.h=some (z,h')->(∀ w W',W'.h=h'->Le K W W'->ydh K W' z w->Q w W'.H)->r v vs W.H Q
theorem yHx (i:Nat):ybZ K (yzX i) (yd i):=by
 intro W0 W ρ σ Q x h' g e q
 unfold yd at e
 split at e
 .rename_i y hy
  cases e
  obtain ⟨v,h1,h2⟩:=g.val i _ hy
  exact ⟨v,h1,q v W rfl (.refl g.ok) h2⟩
 .cases e
theorem yzc {v:V}{x:PV}(h:∀ W:Wd,ydh K W x v):ybZ K (tC v) (xC x):=by
 intro W0 W ρ σ Q y h' g e q
 cases e
 exact q v W rfl (.refl g.ok) (h W)
theorem yAJ {i:Int}:ybZ K (tC (.int i)) (xC (.int i)):=yzc fun _=>rfl
theorem yAK {i:Str}:ybZ K (tC (.str i)) (xC (.str i)):=yzc fun _=>rfl
theorem yKh {i:Bool}:ybZ K (tC (.bl i)) (xC (.bl i)):=yzc fun _=>rfl
theorem yHy:ybZ K (tC .non) (xC .non):=yzc fun _=>rfl
theorem yKi {n:String}:ybZ K (tC (.ty n)) (xC (.ty n)):=yzc fun _=>rfl
theorem yHz {k:Nat}:ybZ K (tC (.ref (K.A k))) (xC (.cls k)):=yzc fun _=>rfl
section
variable {ta tb tc:TE}{ea eb ec:XE}{t:TA}{e:XA}
theorem yxW {r:R2}{p:P2}(o:ycQ K r p) (a:ybZ K ta ea) (b:ybZ K tb eb):ybZ K (tOp r ta tb) (xOp p ea eb):=by
 intro W0 W ρ σ Q z h' g e q
 obtain ⟨x,h1,e1,f1⟩:=yj e
 obtain ⟨y,h2,e2,f2⟩:=yj f1
 refine a W0 W ρ σ _ x h1 g e1 fun v W1 w1 l1 r1=>?_
 subst w1
 refine b W0 W1 ρ σ _ y h2 (g.step l1) e2 fun u W2 w2 l2 r2=>?_
 subst w2
 exact o W2 x y v u Q z h' l2.ok (l2.rep r1) r2 f2 fun w W3 w3 l3 r3=>q w W3 w3 (l1.trans (l2.trans l3)) r3
theorem ylI {W W1:Wd}{d:Nd}{h':AH}{Q:VK}(l:Le K W W1) (q:yzb K W d h' Q):yzb K W1 d h' Q:=fun p W' e l' n f=>q p W' e (l.trans l') n (l.fresh f)
theorem yHA {r:R2}{p:P2O}(o:yAI K r p) (a:ybZ K ta ea) (b:ybZ K tb eb):yxV K (tOp r ta tb) (yAG p ea eb):=by
 intro W0 W ρ σ Q z h' g e q
 obtain ⟨x,h1,e1,f1⟩:=yj e
 obtain ⟨y,h2,e2,f2⟩:=yj f1
 refine a W0 W ρ σ _ x h1 g e1 fun v W1 w1 l1 r1=>?_
 subst w1
 refine b W0 W1 ρ σ _ y h2 (g.step l1) e2 fun u W2 w2 l2 r2=>?_
 subst w2
 exact o W2 x y v u Q z h' l2.ok (l2.rep r1) r2 f2 (ylI (l1.trans l2) q)
theorem yKj {r} {p} (o:yHw K r p) (a:ybZ K ta ea):ybZ K (tUn r ta) (xUn p ea):=by
 intro W0 W ρ σ Q z h' g e q
 obtain ⟨x,h1,e1,f1⟩:=yj e
 refine a W0 W ρ σ _ x h1 g e1 fun v W1 w1 l1 r1=>?_
 subst w1
 exact o W1 x v Q z h' l1.ok r1 f1 fun w W3 w3 l3 r3=>q w W3 w3 (l1.trans l3) r3
theorem yrz {x:PV}{h:AH}{k:Bool}{h':AH}(e:oB x h=some (k,h')):x=.bl k/\h'=h:=by
 unfold oB at e
 split at e
 .cases e;exact ⟨rfl,rfl⟩
 .cases e
theorem yAL {r r':R2}{p p':P2}(o:ycQ K r p) (o':ycQ K r' p') (a:ybZ K ta ea) (b:ybZ K tb eb) (c:ybZ K tc ec):ybZ K (yFP r r' ta tb tc) (ytI p p' ea eb ec):=by
 intro W0 W ρ σ Q z h' g e q
 obtain ⟨x,h1,e1,f1⟩:=yj e
 obtain ⟨y,h2,e2,f2⟩:=yj f1
 obtain ⟨z',h3,e3,f3⟩:=yj f2
 obtain ⟨k,h3',e3',f4⟩:=yj f3
 obtain ⟨rfl,rfl⟩:=yrz e3'
 refine a W0 W ρ σ _ x h1 g e1 fun v W1 w1 l1 r1=>?_
 subst w1
 refine b W0 W1 ρ σ _ y h2 (g.step l1) e2 fun u W2 w2 l2 r2=>?_
 subst w2
 refine o W2 x y v u _ _ _ l2.ok (l2.rep r1) r2 e3 fun w W3 w3 l3 r3=>⟨k,r3,?_⟩
 subst w3
 have l:=l1.trans (l2.trans l3)
 cases k with
 | false =>
  rw [if_neg (by decide)] at f4 ⊢
  cases f4
  exact q _ W3 rfl l rfl
 | true =>
  rw [if_pos rfl] at f4 ⊢
  obtain ⟨w',h4,e4,f5⟩:=yj f4
  refine c W0 W3 ρ σ _ w' h4 (g.step l) e4 fun u' W4 w4 l4 r4=>?_
  subst w4
  exact o' W4 y w' u u' Q z h' l4.ok ((l3.trans l4).rep r2) r4 f5 fun w W5 w5 l5 r5=>q w W5 w5 (l.trans (l4.trans l5)) r5
theorem ykD (a:ybZ K ta ea):yvN K (yHb ta) (yt ea):=by
 intro W0 W ρ σ Q k h' g e q
 obtain ⟨x,h1,e1,f1⟩:=yj e
 obtain ⟨rfl,rfl⟩:=yrz f1
 exact a W0 W ρ σ _ _ _ g e1 fun v W1 w1 l1 r1=>⟨k,r1,q W1 w1 l1⟩
theorem yKk (a:ybZ K ta ea):yvN K (tB ta) (yt ea):=ykD a
theorem yDV (a:ybZ K ta ea) (b:ybZ K tb eb):ybZ K (yJH ta tb) (ywp ea eb):=by
 intro W0 W ρ σ Q z h' g e q
 obtain ⟨x,h1,e1,f1⟩:=yj e
 obtain ⟨k,h1',e1',f2⟩:=yj f1
 obtain ⟨rfl,rfl⟩:=yrz e1'
 refine a W0 W ρ σ _ _ _ g e1 fun v W1 w1 l1 r1=>⟨k,r1,?_⟩
 subst w1
 cases k with
 | false =>
  rw [if_neg (by decide)] at f2 ⊢
  cases f2
  exact q _ W1 rfl l1 rfl
 | true =>
  rw [if_pos rfl] at f2 ⊢
  exact b W0 W1 ρ σ _ z h' (g.step l1) f2 fun v W2 w2 l2 r2=>q v W2 w2 (l1.trans l2) r2
theorem yDW (a:ybZ K ta ea):ybZ K (yJI ta) (yDT ea):=by
 intro W0 W ρ σ Q z h' g e q
 obtain ⟨x,h1,e1,f1⟩:=yj e
 obtain ⟨k,h1',e1',f2⟩:=yj f1
 obtain ⟨rfl,rfl⟩:=yrz e1'
 cases f2
 exact a W0 W ρ σ _ _ _ g e1 fun v W1 w1 l1 r1=>⟨k,r1,q _ W1 w1 l1 rfl⟩
section
variable {tA tB':TT}{eA eB:XT}
theorem yHB (a:yvN K tA eA) (b:yvN K tB' eB):yvN K (yNN tA tB') (yAH eA eB):=by
 intro W0 W ρ σ Q z h' g e q
 obtain ⟨k,h1,e1,f1⟩:=yj e
 refine a W0 W ρ σ _ _ _ g e1 fun W1 w1 l1=>?_
 subst w1
 cases k with
 | false =>
  rw [if_neg (by decide)] at f1 ⊢
  cases f1
  exact q W1 rfl l1
 | true =>
  rw [if_pos rfl] at f1 ⊢
  exact b W0 W1 ρ σ _ z h' (g.step l1) f1 fun W2 w2 l2=>q W2 w2 (l1.trans l2)
theorem yKl (a:yvN K tA eA) (b:yvN K tB' eB):yvN K (tOr tA tB') (xOr eA eB):=by
 intro W0 W ρ σ Q z h' g e q
 obtain ⟨k,h1,e1,f1⟩:=yj e
 refine a W0 W ρ σ _ _ _ g e1 fun W1 w1 l1=>?_
 subst w1
 cases k with
 | true =>
  rw [if_pos rfl] at f1 ⊢
  cases f1
  exact q W1 rfl l1
 | false =>
  rw [if_neg (by decide)] at f1 ⊢
  exact b W0 W1 ρ σ _ z h' (g.step l1) f1 fun W2 w2 l2=>q W2 w2 (l1.trans l2)
theorem yHC (a:yvN K tA eA):yvN K (yMa tA) (yDU eA):=by
 intro W0 W ρ σ Q z h' g e q
 obtain ⟨k,h1,e1,f1⟩:=yj e
 cases f1
 exact a W0 W ρ σ _ _ _ g e1 fun W1 w1 l1=>q W1 w1 l1
theorem yKm (c:yvN K tA eA) (a:ybZ K ta ea) (b:ybZ K tb eb):ybZ K (tIf tA ta tb) (xIf eA ea eb):=by
 intro W0 W ρ σ Q z h' g e q
 obtain ⟨k,h1,e1,f1⟩:=yj e
 refine c W0 W ρ σ _ _ _ g e1 fun W1 w1 l1=>?_
 subst w1
 cases k with
 | true =>
  rw [if_pos rfl] at f1 ⊢
  exact a W0 W1 ρ σ _ z h' (g.step l1) f1 fun v W2 w2 l2 r2=>q v W2 w2 (l1.trans l2) r2
 | false =>
  rw [if_neg (by decide)] at f1 ⊢
  exact b W0 W1 ρ σ _ z h' (g.step l1) f1 fun v W2 w2 l2 r2=>q v W2 w2 (l1.trans l2) r2
end
theorem ynU:ytH K yDG yn:=by
 intro W0 W ρ σ Q z h' g e q
 cases e
 exact q [] W rfl (.refl g.ok) rfl
theorem yxX (a:ybZ K ta ea) (r:ytH K t e):ytH K (yvU ta t) (yb ea e):=by
 intro W0 W ρ σ Q z h' g e q
 obtain ⟨x,h1,e1,f1⟩:=yj e
 obtain ⟨xs,h2,e2,f2⟩:=yj f1
 cases f2
 refine a W0 W ρ σ _ x h1 g e1 fun v W1 w1 l1 r1=>?_
 subst w1
 exact r W0 W1 ρ σ _ xs _ (g.step l1) e2 fun vs W2 w2 l2 r2=>q (v::vs) W2 w2 (l1.trans l2) ⟨v,vs,rfl,l2.rep r1,r2⟩
def yJl (W:Wd) (p:Addr) (o:HO):Wd:=⟨upd W.F p o,upd W.H p o,W.m,W.h⟩
theorem yHD {W:Wd}{p:Addr}{o:HO}(w:WOk K W) (h:W.H p=none):Le K W (yJl W p o):=by
 have hm:=w.out h
 have hf:=w.ff h
 have sF:Same W.F (upd W.F p o):=yfp hf o
 refine ⟨⟨?_,w.len,w.nd,fun n d a e1 e2=>?_⟩,sF,prefix_refl _,fun b u e _=>yfp h o b u e,fun b u e _ f=>?_,fun b z n=>absurd z n,fun n ks xs e1=>⟨e1,fun a e2=>yX fun z=>hm (z ▸ mem_of_getElem? e2)⟩⟩
 .intro b u e
  show upd W.H p o b=some u
  by_cases hb:b=p
  .subst hb;rw [show (yJl W b o).F b=upd W.F b o b from rfl,yP] at e;rw [yP];exact e
  .rw [show (yJl W p o).F b=upd W.F p o b from rfl,yX hb] at e;rw [yX hb];exact w.le _ _ e
 .have ha:a≠p:=fun z=>hm (z ▸ mem_of_getElem? e2)
  exact (w.at_ n d a e1 e2).mono sF (prefix_refl _) (fun u e=>by rw [show (yJl W p o).H a=upd W.H p o a from rfl,yX ha];exact e) fun f=>(yX ha).trans f
 .have:b≠p:=ybN e h
  rw [show (yJl W p o).F b=upd W.F p o b from rfl,yX this];exact f
def yqb (W:Wd) (p:Addr) (o:HO):Wd:=⟨W.F,upd W.H p o,W.m,W.h⟩
theorem yei {W:Wd}{p:Addr}{o:HO}(w:WOk K W) (h:W.H p=none):Le K W (yqb W p o):=by
 have hm:=w.out h
 refine ⟨⟨?_,w.len,w.nd,fun n d a e1 e2=>?_⟩,Same.refl _,prefix_refl _,fun b u e _=>yfp h o b u e,fun b u e _ f=>f,fun b z n=>absurd z n,fun n ks xs e1=>⟨e1,fun a e2=>yX fun z=>hm (z ▸ mem_of_getElem? e2)⟩⟩
 .exact fun b u e=>yfp h o b u (w.le _ _ e)
 .exact (w.at_ n d a e1 e2).mono (Same.refl _) (prefix_refl _) (fun u e=>yfp h o _ _ e) id
theorem small {n:Nat}(h:n<=1000):n<=sizeLine:=le_of_lt (ytq h)
theorem yHE (a:ytH K t e):ybZ K (yNV t) (yeD e):=by
 intro W0 W ρ σ Q z h' g e q
 obtain ⟨xs,h1,e1,f1⟩:=yj e
 split at f1
 .rename_i hl
  cases f1
  refine a W0 W ρ σ _ xs _ g e1 fun vs W1 w1 l1 r1=>⟨small (by rw [r1.len];exact hl),fun p hp=>?_⟩
  have l2:=yHD (o:=.tup vs) l1.ok hp
  exact q (.ref p) (yJl W1 p (.tup vs)) w1 (l1.trans l2) ⟨p,vs,rfl,.inl yP,l2.repL r1⟩
 .cases f1
theorem yHF (a:ytH K t e):yxV K (yNW t) (ygf e):=by
 intro W0 W ρ σ Q z h' g e q
 obtain ⟨xs,h1,e1,f1⟩:=yj e
 split at f1
 .rename_i hl
  cases f1
  refine a W0 W ρ σ _ xs _ g e1 fun vs W1 w1 l1 r1=>⟨small (by rw [r1.len];exact hl),fun p hp=>?_⟩
  have l2:=yei (o:=.lst vs) l1.ok hp
  exact q p (yqb W1 p (.lst vs)) w1 (l1.trans l2) (l1.ok.out hp) (l1.fresh hp) (fun z=>by cases z) ⟨l1.ok.ff hp,vs,yP,r1⟩
 .cases f1
def yDX (W:Wd) (p:Addr) (o:HO):Wd:=⟨upd W.F p o,W.H,W.m,W.h⟩
theorem yAM {W:Wd}{p:Addr}{o:HO}(w:WOk K W) (h:W.H p=some o) (hm:p∉W.m) (hf:W.F p=none):WOk K (yDX W p o)/\Same W.F (upd W.F p o):=by
 have sF:Same W.F (upd W.F p o):=yfp hf o
 refine ⟨⟨?_,w.len,w.nd,fun n d a e1 e2=>?_⟩,sF⟩
 .intro b u e
  by_cases hb:b=p
  .subst hb;rw [show (yDX W b o).F b=upd W.F b o b from rfl,yP] at e;cases e;exact h
  .rw [show (yDX W p o).F b=upd W.F p o b from rfl,yX hb] at e;exact w.le _ _ e
 .have ha:a≠p:=fun z=>hm (z ▸ mem_of_getElem? e2)
  exact (w.at_ n d a e1 e2).mono sF (prefix_refl _) (fun u e=>e) fun f=>(yX ha).trans f
theorem ywq {W W1:Wd}{p:Addr}{o:HO}(l:Le K W W1) (h:W1.H p=some o) (hm:p∉W1.m) (hf:W1.F p=none) (hn:W.H p=none):Le K W (yDX W1 p o):=by
 obtain ⟨k,sF⟩:=yAM l.ok h hm hf
 refine ⟨k,l.fs.trans sF,l.pre,l.keep,fun b u e n f=>?_,l.mn,l.fz⟩
 have:b≠p:=ybN e hn
 rw [show (yDX W1 p o).F b=upd W1.F p o b from rfl,yX this];exact l.new b u e n f
theorem yKn {o:XO}(a:yxV K ta o):ybZ K ta (xFz o):=by
 intro W0 W ρ σ Q z h' g e q
 obtain ⟨d,h1,e1,f1⟩:=yj e
 refine a W0 W ρ σ _ d h1 g e1 fun p W1 w1 l1 hm hn hd at_=>?_
 split at f1
 .rename_i xs
  cases f1
  obtain ⟨hf,vs,hp,r⟩:=at_
  have l2:=ywq l1 hp hm hf hn
  exact q (.ref p) (yDX W1 p (.lst vs)) w1 l2 ⟨p,vs,rfl,yP,RepL.mono (yfp hf _) (prefix_refl _) _ _ r⟩
 .rename_i k ns xs
  cases f1
  obtain ⟨hf,dx,vs,hp,hl,r⟩:=at_
  have l2:=ywq l1 hp hm hf hn
  exact q (.ref p) (yDX W1 p _) w1 l2 ⟨p,dx,vs,rfl,yP,hl,RepL.mono (yfp hf _) (prefix_refl _) _ _ r⟩
 .cases f1
theorem yAN {o:XO}(a:yxV K ta o):ybZ K ta (ygw o):=by
 intro W0 W ρ σ Q z h' g e q
 obtain ⟨d,h1,e1,f1⟩:=yj e
 cases f1
 refine a W0 W ρ σ _ d h1 g e1 fun p W1 w1 l1 hm hn hd at_=>?_
 subst w1
 have pre:W1.m <+: W1.m++[p]:=List.prefix_append _ _
 refine q (.ref p) ⟨W1.F,W1.H,W1.m++[p],W1.h++[d]⟩ rfl ⟨⟨l1.ok.le,?_,?_,fun n d' a e1 e2=>?_⟩,l1.fs,l1.pre.trans pre,l1.keep,l1.new,fun b z n=>?_,fun n ks xs e1=>⟨by
  have:=(l1.fz n ks xs e1).1
  show (W1.h++[d])[n]?=_
  rw [getElem?_append_left (List.getElem?_eq_some_iff.mp this).1];exact this,(l1.fz n ks xs e1).2⟩⟩ ⟨p,rfl,?_⟩
 .show (W1.m++[p]).length=(W1.h++[d]).length
  rw [length_append,length_append,l1.ok.len];rfl
 .show (W1.m++[p]).Nodup
  rw [List.nodup_append]
  refine ⟨l1.ok.nd,by simp,?_⟩
  intro a ha b hb
  simp at hb
  subst hb
  exact fun z=>hm (z ▸ ha)
 .have e1:(W1.h++[d])[n]?=some d':=e1
  have e2:(W1.m++[p])[n]?=some a:=e2
  by_cases hlt:n<W1.h.length
  .rw [getElem?_append_left hlt] at e1
   rw [getElem?_append_left (by rw [l1.ok.len];exact hlt)] at e2
   exact (l1.ok.at_ n d' a e1 e2).mono (Same.refl _) pre (fun _ f1=>f1) id
  .rw [getElem?_append_right (by omega)] at e1
   rw [getElem?_append_right (by rw [l1.ok.len];omega)] at e2
   rw [l1.ok.len] at e2
   cases hk:n-W1.h.length with
   | zero =>
    rw [hk] at e1 e2
    simp at e1 e2
    subst e1 e2
    exact at_.mono (Same.refl _) pre (fun _ f1=>f1) id
   | succ k=>rw [hk] at e1;simp at e1
 .have z:b∈W1.m++[p]:=z
  rcases List.mem_append.mp z with z|z
  .exact l1.mn b z n
  .simp at z;subst z;exact hn
 .show (W1.m++[p])[W1.h.length]?=some p
  rw [<- l1.ok.len];simp
noncomputable def spE (K:Ck) (n:Nat) (f:Fn):Sp:=fun vs H Q _=>∃ (W:Wd) (xs:List PV) (x:PV) (h':AH),W.H=H/\WOk K W/\ydF K W xs vs/\xs.length=n/\f xs W.h=some (x,h')/\∀ v W',W'.h=h'->Le K W W'->ydh K W' x v->Q v W'.H
theorem yDY {n:Nat}{f:Fn}{ex:XK}(a:ytH K t e) (hn:∀ ρ h xs h',e ρ h=some (xs,h')->xs.length=n):ybZ K (yDH (spE K n f) [] ex t) (yba f e):=by
 intro W0 W ρ σ Q z h' g e' q
 obtain ⟨xs,h1,e1,e2⟩:=yj e'
 refine a W0 W ρ σ _ xs h1 g e1 fun vs W1 w1 l1 r1=>?_
 subst w1
 rw [append_nil]
 exact ⟨W1,xs,z,h',rfl,l1.ok,r1,hn _ _ _ _ e1,e2,fun v W2 w2 l2 r2=>q v W2 w2 (l1.trans l2) r2⟩
theorem ywr:∀ ρ h xs h',yn ρ h=some (xs,h')->xs.length=0:=fun ρ h xs h' e=>by cases e;rfl
theorem yDZ {n:Nat}(l:∀ ρ h xs h',e ρ h=some (xs,h')->xs.length=n):∀ ρ h xs h',yb ea e ρ h=some (xs,h')->xs.length=n+1:=fun ρ h xs h' q=>by
 obtain ⟨x,h1,e1,q⟩:=yj q
 obtain ⟨ys,h2,e2,q⟩:=yj q
 cases q
 rw [length_cons,l _ _ _ _ e2]
theorem yFY {r} {p} (o:yry K r p) (a:ytH K t e):ybZ K (tCB r t) (xCB p e):=by
 intro W0 W ρ σ Q z h' g e' q
 obtain ⟨xs,h1,e1,e2⟩:=yj e'
 refine a W0 W ρ σ _ xs h1 g e1 fun vs W1 w1 l1 r1=>?_
 subst w1
 exact o W1 xs vs Q z h' l1.ok r1 e2 fun v W2 w2 l2 r2=>q v W2 w2 (l1.trans l2) r2
theorem yAO {r} {p} (o:ytJ K r p) (a:ytH K t e):yxV K (tCB r t) (ykC p e):=by
 intro W0 W ρ σ Q z h' g e' q
 obtain ⟨xs,h1,e1,e2⟩:=yj e'
 refine a W0 W ρ σ _ xs h1 g e1 fun vs W1 w1 l1 r1=>?_
 subst w1
 exact o W1 xs vs Q z h' l1.ok r1 e2 (ylI l1 q)
theorem yFZ {T:String}{c} {r} {p} (o:ytK K T c r p) (b:ybZ K ta ea) (a:ytH K t e):ybZ K (tBM K.K T r ta t) (xBM c p ea e):=by
 intro W0 W ρ σ Q z h' g e' q
 obtain ⟨x,h1,e1,f1⟩:=yj e'
 split at f1
 .rename_i hc
  obtain ⟨xs,h2,e2,f2⟩:=yj f1
  refine b W0 W ρ σ _ x h1 g e1 fun v W1 w1 l1 r1=>⟨o.1 W1 x v l1.ok r1 (by rw [w1];exact hc),?_⟩
  subst w1
  refine a W0 W1 ρ σ _ xs h2 (g.step l1) e2 fun vs W2 w2 l2 r2=>?_
  subst w2
  exact o.2 W2 x v xs vs Q z h' l2.ok (l2.rep r1) r2 f2 fun w W3 w3 l3 r3=>q w W3 w3 (l1.trans (l2.trans l3)) r3
 .cases f1
theorem yHG {T:String}{c} {r} {p} (o:ytK K T c r p) (b:ybZ K ta ea):ybZ K (yMs K.K T r ta) (xBM c p ea yn):=yFZ (t:=yDG) o b ynU
end
noncomputable def yGa (K:Ck) (t:TO) (e:PSt->AH->Option (Option Int×AH)):Prop:=∀ (W0 W:Wd) (ρ:PSt) (σ:St) (Q:Option Int->Hp->Prop) (x:Option Int) (h':AH),Good K W0 W ρ σ->e ρ W.h=some (x,h') ->
 (∀ W',W'.h=h'->Le K W W'->Q x W'.H)->t σ W.H Q
theorem yzd:yGa K yAu yfH:=by
 intro W0 W ρ σ Q z h' g e q
 cases e
 exact q W rfl (.refl g.ok)
theorem yEa {ta:TE}{ea:XE}(a:ybZ K ta ea):yGa K (yJX ta) (yhD ea):=by
 intro W0 W ρ σ Q z h' g e q
 obtain ⟨x,h1,e1,f1⟩:=yj e
 split at f1
 .rename_i i
  cases f1
  exact a W0 W ρ σ _ _ _ g e1 fun v W1 w1 l1 r1=>⟨i,r1,q W1 w1 l1⟩
 .cases f1
noncomputable def yHH (K:Ck) (r:V->Option Int->Option Int->Hp->VK->Prop) (p:PV->Option Int->Option Int->AH->Option (PV×AH)):Prop:=∀ (W:Wd) (x:PV) (v:V) (lo hi:Option Int) (Q:VK) (z:PV) (h':AH),WOk K W->ydh K W x v->p x lo hi W.h=some (z,h')->(∀ w W',W'.h=h'->Le K W W'->ydh K W' z w->Q w W'.H)->r v lo hi W.H Q
def yAP (K:Ck) (r:V->Option Int->Option Int->Hp->VK->Prop) (p:PV->Option Int->Option Int->AH->Option (Nd×AH)):Prop:=∀ (W:Wd) (x:PV) (v:V) (lo hi:Option Int) (Q:VK) (d:Nd) (h':AH),WOk K W->ydh K W x v->p x lo hi W.h=some (d,h')->yzb K W d h' Q->r v lo hi W.H Q
theorem yKo {r} {p} {ta:TE}{ea:XE}{tl th:TO}{el eh} (o:yHH K r p) (a:ybZ K ta ea) (b:yGa K tl el) (c:yGa K th eh):ybZ K (tSl r ta tl th) (xSl p ea el eh):=by
 intro W0 W ρ σ Q z h' g e q
 obtain ⟨x,h1,e1,f1⟩:=yj e
 obtain ⟨l,h2,e2,f2⟩:=yj f1
 obtain ⟨u,h3,e3,f3⟩:=yj f2
 refine a W0 W ρ σ _ x h1 g e1 fun v W1 w1 l1 r1=>?_
 subst w1
 refine b W0 W1 ρ σ _ l h2 (g.step l1) e2 fun W2 w2 l2=>?_
 subst w2
 refine c W0 W2 ρ σ _ u h3 (g.step (l1.trans l2)) e3 fun W3 w3 l3=>?_
 subst w3
 exact o W3 x v l u Q z h' l3.ok ((l2.trans l3).rep r1) f3 fun w W4 w4 l4 r4=>q w W4 w4 (l1.trans (l2.trans (l3.trans l4))) r4
theorem yHI {r} {p} {ta:TE}{ea:XE}{tl th:TO}{el eh} (o:yAP K r p) (a:ybZ K ta ea) (b:yGa K tl el) (c:yGa K th eh):yxV K (tSl r ta tl th) (yza p ea el eh):=by
 intro W0 W ρ σ Q z h' g e q
 obtain ⟨x,h1,e1,f1⟩:=yj e
 obtain ⟨l,h2,e2,f2⟩:=yj f1
 obtain ⟨u,h3,e3,f3⟩:=yj f2
 refine a W0 W ρ σ _ x h1 g e1 fun v W1 w1 l1 r1=>?_
 subst w1
 refine b W0 W1 ρ σ _ l h2 (g.step l1) e2 fun W2 w2 l2=>?_
 subst w2
 refine c W0 W2 ρ σ _ u h3 (g.step (l1.trans l2)) e3 fun W3 w3 l3=>?_
 subst w3
 exact o W3 x v l u Q z h' l3.ok ((l2.trans l3).rep r1) f3 (ylI (l1.trans (l2.trans l3)) q)
end PX
namespace PX
open PySem L2
variable {K:Ck}
def yV:XS:=fun ρ h=>some (.nx ρ,h)
def yw (s u:XS):XS:=fun ρ h=>ob (s ρ h) fun o h1=>match o with|.nx ρ'=>u ρ' h1|.rt x=>some (.rt x,h1)|.bk ρ'=>some (.bk ρ',h1)|.ct ρ'=>some (.ct ρ',h1)
def ydi (e:XE):XS:=fun ρ h=>ob (e ρ h) fun _ h1=>some (.nx ρ,h1)
def ybg (e:XE):XS:=fun ρ h=>ob (e ρ h) fun x h1=>some (.rt x,h1)
def ybv (c:XT) (s u:XS):XS:=fun ρ h=>ob (c ρ h) fun k h1=>if k=true then s ρ h1 else u ρ h1
abbrev XG:=PV->PSt->Option PSt
abbrev XGs:=List PV->PSt->Option PSt
def yx (i:Nat):XG:=fun x ρ=>some (ρ.set i (.val x))
def yOB (g:XG) (r:XGs):XGs:=fun xs ρ=>match xs with|[]=>none|x::xs=>(g x ρ).bind fun ρ'=>r xs ρ'
def yPh (n:Nat) (g:XGs):XG:=fun x ρ=>match x with|.tup xs=>if xs.length=n then g xs ρ else none|_=>none
def ybA (e:XE) (g:XG):XS:=fun ρ h=>ob (e ρ h) fun x h1=>(g x ρ).bind fun ρ'=>some (.nx ρ',h1)
def yrA (e:XO) (i:Nat):XS:=fun ρ h=>ob (e ρ h) fun d h1=>some (.nx (ρ.set i (.own d)),h1)
def yEb:PVar->PVar
 | .own (.lst xs)=>.val (.lst xs)
 | .own (.ins k ns xs)=>.val (.ins k ns xs)
 | v=>v
def yws (i:Nat) (ρ:PSt):PSt:=ρ.modify i yEb
def yEc (i:Nat) (s:XS):XS:=fun ρ h=>s (yws i ρ) h
def ygx (i:Nat) (e:XE):XS:=fun ρ h=>match ρ[i]? with
 | some (.own (.lst xs))=>ob (e ρ h) fun x h1=>if xs.length<100000 then some (.nx (ρ.set i (.own (.lst (xs++[x])))),h1) else none
 | _=>none
def ymz (g:XG) (s:XS):List PV->PSt->AH->Option (Out×AH)
 | [],ρ,h=>some (.nx ρ,h)
 | x::xs,ρ,h=>(g x ρ).bind fun ρ1=>ob (s ρ1 h) fun o h1=>match o with|.nx ρ'=>ymz g s xs ρ' h1|.ct ρ'=>ymz g s xs ρ' h1|.bk ρ'=>some (.nx ρ',h1)|.rt y=>some (.rt y,h1)
def yxY (it:XA) (g:XG) (s:XS):XS:=fun ρ h=>ob (it ρ h) fun xs h1=>ymz g s xs ρ h1
def whl (c:XT) (s:XS):Nat->PSt->AH->Option (Out×AH)
 | 0,_,_=>none
 | n+1,ρ,h=>ob (c ρ h) fun k h1=>if k=true then ob (s ρ h1) fun o h2=>(match o with|.nx ρ'=>whl c s n ρ' h2|.ct ρ'=>whl c s n ρ' h2|.bk ρ'=>some (.nx ρ',h2)|.rt y=>some (.rt y,h2)) else some (.nx ρ,h1)
def ymA (fuel:Nat) (c:XT) (s:XS):XS:=fun ρ h=>whl c s fuel ρ h
def ycI (N:Nat) (s:XS):Fn:=fun xs h=>ob (s (xs.map .val++replicate (N-xs.length) .no) h) fun o h1=>match o with|.rt x=>some (x,h1)|.nx _=>some (.non,h1)|_=>none
def yDn (ρ:PSt) (i:Nat):PVar:=match ρ[i]? with|some (.val y)=>.val y|_=>.no
def yEd (ix:List Nat) (ρ:PSt) (x:PV):PSt:=.val x::ix.map (yDn ρ)
def yDo (e:XE) (inn:PV->PSt):List PV->AH->Option (List PV×AH)
 | [],h=>some ([],h)
 | x::xs,h=>ob (e (inn x) h) fun y h1=>ob (yDo e inn xs h1) fun ys h2=>some (y::ys,h2)
def ynV (it:XA) (ix:List Nat) (e:XE):XO:=fun ρ h=>ob (it ρ h) fun xs h1=>if xs.length<=100000 then ob (yDo e (yEd ix ρ) xs h1) fun ys h2=>some (.lst ys,h2) else none
theorem Ends.Ok.from_ {W0 W W1:Wd}{D:Ends}{h':AH}{o:Out}(l:Lf K W W1) (k:Ends.Ok K W0 W D h' o):Ends.Ok K W0 W1 D h' o:=by
 cases o with
 | nx ρ=>exact fun W' σ' e l' g=>k W' σ' e (l.trans l') g
 | bk ρ=>exact fun W' σ' e l' g=>k W' σ' e (l.trans l') g
 | ct ρ=>exact fun W' σ' e l' g=>k W' σ' e (l.trans l') g
 | rt x=>exact k
section
variable {ta tb:TE}{ea eb:XE}{t u:TS}{s s':XS}{tA:TT}{eA:XT}
theorem yEe:ykB K yJM yV:=by
 intro W0 W ρ σ D o h' g e q
 cases e
 exact q W σ rfl .refl g
theorem yHJ (a:ykB K t s) (b:ykB K u s'):ykB K (yMc t u) (yw s s'):=by
 intro W0 W ρ σ D o h' g e q
 obtain ⟨o1,h1,e1,f1⟩:=yj e
 refine a W0 W ρ σ _ o1 h1 g e1 ?_
 cases o1 with
 | nx ρ'=>exact fun W' σ' w l g'=>b W0 W' ρ' σ' D o h' g' (by rw [w];exact f1) (q.from_ l)
 | rt x=>cases f1;exact q
 | bk ρ'=>cases f1;exact q
 | ct ρ'=>cases f1;exact q
theorem yEf (a:ybZ K ta ea):ykB K (yAg ta) (ydi ea):=by
 intro W0 W ρ σ D o h' g e q
 obtain ⟨x,h1,e1,f1⟩:=yj e
 cases f1
 exact a W0 W ρ σ _ x _ g e1 fun v W1 w1 l1 r1=>q W1 σ w1 l1.lf (g.step l1)
theorem yHK (a:ybZ K ta ea):ykB K (yNO ta) (ybg ea):=by
 intro W0 W ρ σ D o h' g e q
 obtain ⟨x,h1,e1,f1⟩:=yj e
 cases f1
 exact a W0 W ρ σ _ x _ g e1 fun v W1 w1 l1 r1=>q W1 v w1 (g.le.trans l1) r1
theorem yHL (c:yvN K tA eA) (a:ykB K t s) (b:ykB K u s'):ykB K (yNP tA t u) (ybv eA s s'):=by
 intro W0 W ρ σ D o h' g e q
 obtain ⟨k,h1,e1,f1⟩:=yj e
 refine c W0 W ρ σ _ k h1 g e1 fun W1 w1 l1=>?_
 subst w1
 cases k with
 | true =>
  rw [if_pos rfl] at f1 ⊢
  exact a W0 W1 ρ σ D o h' (g.step l1) f1 (q.from_ l1.lf)
 | false =>
  rw [if_neg (by decide)] at f1 ⊢
  exact b W0 W1 ρ σ D o h' (g.step l1) f1 (q.from_ l1.lf)
theorem Good.set {W0 W:Wd}{ρ:PSt}{σ:St}(g:Good K W0 W ρ σ) (i:Nat) {x:PV}{v:V}(r:ydh K W x v):Good K W0 W (ρ.set i (.val x)) (σ.set i (some v)) where
 le:=g.le
 len:=by simp [g.len]
 val:=fun j y e=>by
  by_cases hj:i=j
  .subst hj
   by_cases hl:i<ρ.length
   .rw [getElem?_set_self hl] at e
    cases e
    exact ⟨v,getElem?_set_self (by rw [g.len];exact hl),r⟩
   .rw [getElem?_eq_none (by simp;omega)] at e;cases e
  .rw [getElem?_set_ne hj] at e
   obtain ⟨w,h1,h2⟩:=g.val j y e
   exact ⟨w,by rw [getElem?_set_ne hj];exact h1,h2⟩
 own:=fun j d e=>by
  by_cases hj:i=j
  .subst hj
   by_cases hl:i<ρ.length
   .rw [getElem?_set_self hl] at e;cases e
   .rw [getElem?_eq_none (by simp;omega)] at e;cases e
  .rw [getElem?_set_ne hj] at e
   obtain ⟨p,h1,h2⟩:=g.own j d e
   exact ⟨p,by rw [getElem?_set_ne hj];exact h1,h2⟩
 ne:=fun j k d d' hjk e1 e2=>by
  have f:∀ {j:Nat}{d:Nd},(ρ.set i (.val x))[j]?=some (.own d)->i≠j/\ρ[j]?=some (.own d):=fun {j d} e=>by
   by_cases hj:i=j
   .subst hj
    by_cases hl:i<ρ.length
    .rw [getElem?_set_self hl] at e;cases e
    .rw [getElem?_eq_none (by simp;omega)] at e;cases e
   .rw [getElem?_set_ne hj] at e;exact ⟨hj,e⟩
  obtain ⟨a1,a2⟩:=f e1
  obtain ⟨b1,b2⟩:=f e2
  rw [getElem?_set_ne a1,getElem?_set_ne b1]
  exact g.ne j k d d' hjk a2 b2
theorem Good.setO {W0 W:Wd}{ρ:PSt}{σ:St}(g:Good K W0 W ρ σ) (i:Nat) {d:Nd}{p:Addr}(hm:p∉W.m) (h0:W0.H p=none) (hd:d≠.dead) (at_:NdAt K W.F W.H W.m d p)
  (ne:∀ j d',i≠j->ρ[j]?=some (.own d')->σ[j]?≠some (some (.ref p))):Good K W0 W (ρ.set i (.own d)) (σ.set i (some (.ref p))) where
 le:=g.le
 len:=by simp [g.len]
 val:=fun j y e=>by
  by_cases hj:i=j
  .subst hj
   by_cases hl:i<ρ.length
   .rw [getElem?_set_self hl] at e;cases e
   .rw [getElem?_eq_none (by simp;omega)] at e;cases e
  .rw [getElem?_set_ne hj] at e
   obtain ⟨w,h1,h2⟩:=g.val j y e
   exact ⟨w,by rw [getElem?_set_ne hj];exact h1,h2⟩
 own:=fun j d' e=>by
  by_cases hj:i=j
  .subst hj
   by_cases hl:i<ρ.length
   .rw [getElem?_set_self hl] at e
    cases e
    exact ⟨p,getElem?_set_self (by rw [g.len];exact hl),hm,h0,hd,at_⟩
   .rw [getElem?_eq_none (by simp;omega)] at e;cases e
  .rw [getElem?_set_ne hj] at e
   obtain ⟨p,h1,h2⟩:=g.own j d' e
   exact ⟨p,by rw [getElem?_set_ne hj];exact h1,h2⟩
 ne:=fun j k d1 d2 hjk e1 e2=>by
  have self:∀ {j:Nat}{d':Nd},i=j->(ρ.set i (.own d))[j]?=some (.own d')->(σ.set i (some (.ref p)))[j]?=some (some (.ref p)):=fun {j d'} hj e=>by
   subst hj
   by_cases hl:i<ρ.length
   .exact getElem?_set_self (by rw [g.len];exact hl)
   .rw [getElem?_eq_none (by simp;omega)] at e;cases e
  by_cases hj:i=j
  .have hk:i≠k:=fun z=>hjk (hj.symm.trans z)
   rw [self hj e1,getElem?_set_ne hk]
   rw [getElem?_set_ne hk] at e2
   exact (ne k d2 hk e2).symm
  .rw [getElem?_set_ne hj]
   rw [getElem?_set_ne hj] at e1
   by_cases hk:i=k
   .rw [self hk e2]
    exact ne j d1 hj e1
   .rw [getElem?_set_ne hk] at e2 ⊢
    exact g.ne j k d1 d2 hjk e1 e2
noncomputable def yHM (K:Ck) (g:TG) (y:XG):Prop:=∀ (W0 W:Wd) (ρ ρ':PSt) (σ:St) (x:PV) (v:V) (Q:St->Hp->Prop),Good K W0 W ρ σ->ydh K W x v->y x ρ=some ρ'->(∀ σ',Good K W0 W ρ' σ'->Q σ' W.H)->g v σ W.H Q
theorem ynW (i:Nat):yHM K (yyP i) (yx i):=by
 intro W0 W ρ ρ' σ x v Q g r e q
 cases e
 exact q _ (g.set i r)
theorem yAQ {g:TG}{y:XG}(a:ybZ K ta ea) (b:yHM K g y):ykB K (yJk ta g) (ybA ea y):=by
 intro W0 W ρ σ D o h' gd e q
 obtain ⟨x,h1,e1,f1⟩:=yj e
 obtain ⟨ρ',e2,f2⟩:=Option.bind_eq_some_iff.mp f1
 cases f2
 exact a W0 W ρ σ _ x _ gd e1 fun v W1 w1 l1 r1=>b W0 W1 ρ ρ' σ x v _ (gd.step l1) r1 e2 fun σ' g'=>q W1 σ' w1 l1.lf g'
theorem yEg {o:XO}(i:Nat) (a:yxV K ta o):ykB K (yJk ta (yyP i)) (yrA o i):=by
 intro W0 W ρ σ D o h' gd e q
 obtain ⟨d,h1,e1,f1⟩:=yj e
 cases f1
 refine a W0 W ρ σ _ d _ gd e1 fun p W1 w1 l1 hm hn hd at_=>q W1 _ w1 l1.lf ((gd.step l1).setO i hm (gd.le.fresh hn) hd at_ fun j d' hj e hs=>?_)
 obtain ⟨p',h1,h2,_,_,h5⟩:=gd.own j d' e
 rw [h1] at hs
 cases hs
 obtain ⟨o,ho⟩:=h5.some
 rw [hn] at ho;cases ho
theorem Good.frz {W0 W:Wd}{ρ:PSt}{σ:St}(g:Good K W0 W ρ σ) (i:Nat):∃ W',W'.h=W.h/\W'.H=W.H/\Lf K W W'/\Good K W0 W' (yws i ρ) σ:=by
 unfold yws
 cases e:ρ[i]? with
 | none=>exact ⟨W,rfl,rfl,.refl,by rw [List.modify_eq_self (by simpa using e)];exact g⟩
 | some v =>
  have hl:i<ρ.length:=(List.getElem?_eq_some_iff.mp e).1
  have em:ρ.modify i yEb=ρ.set i (yEb v):=by
   apply List.ext_getElem?
   intro j
   rw [List.getElem?_modify,List.getElem?_set]
   by_cases hj:i=j
   .subst hj
    obtain ⟨_,ev⟩:=List.getElem?_eq_some_iff.mp e
    simp [hl,ev]
   .simp [hj]
  have same:yEb v=v->∃ W',W'.h=W.h/\W'.H=W.H/\Lf K W W'/\Good K W0 W' (ρ.modify i yEb) σ:=fun z=>⟨W,rfl,rfl,.refl,by
   rw [em,z]
   have:ρ.set i v=ρ:=by
    apply List.ext_getElem?
    intro j
    by_cases hj:i=j
    .subst hj;rw [getElem?_set_self hl,e]
    .rw [getElem?_set_ne hj]
   rw [this];exact g⟩
  have go:∀ (d:Nd) (x:PV) (p:Addr) (o:HO),v=.own d->yEb v=.val x->σ[i]?=some (some (.ref p))->p∉W.m->W0.H p=none->W.H p=some o->W.F p=none->(∀ (F':Hp),Same W.F F'->F' p=some o->Rep K F' W.m x (.ref p)) ->
    ∃ W',W'.h=W.h/\W'.H=W.H/\Lf K W W'/\Good K W0 W' (ρ.modify i yEb) σ:=fun d x p o hv hx hs hm h0 hp hf hr=>by
   obtain ⟨k,sF⟩:=yAM (K:=K) g.ok hp hm hf
   have lf:Lf K W (yDX W p o):=⟨sF,prefix_refl _,fun _ _ _ e=>⟨e,fun _ _=>rfl⟩⟩
   refine ⟨yDX W p o,rfl,rfl,lf,⟨ywq g.le hp hm hf h0,by rw [List.length_modify];exact g.len,fun j y e'=>?_,fun j d' e'=>?_,fun j1 j2 d1 d2 hj e1 e2=>?_⟩⟩
   .rw [em,hx] at e'
    by_cases hj:i=j
    .subst hj
     rw [getElem?_set_self hl] at e'
     cases e'
     exact ⟨_,hs,hr _ sF yP⟩
    .rw [getElem?_set_ne hj] at e'
     obtain ⟨w,a1,a2⟩:=g.val j y e'
     exact ⟨w,a1,lf.rep a2⟩
   .rw [em,hx] at e'
    by_cases hj:i=j
    .subst hj
     rw [getElem?_set_self hl] at e'
     cases e'
    .rw [getElem?_set_ne hj] at e'
     obtain ⟨q,a1,a2,a3,a4,a5⟩:=g.own j d' e'
     have hq:q≠p:=fun z=>g.ne j i d' d (fun z=>hj z.symm) e' (hv ▸ e) (by rw [a1,hs,z])
     exact ⟨q,a1,a2,a3,a4,a5.mono sF (prefix_refl _) (fun _ e=>e) fun f=>(yX hq).trans f⟩
   .rw [em,hx] at e1 e2
    have f:∀ {j:Nat}{d:Nd},(ρ.set i (.val x))[j]?=some (.own d)->ρ[j]?=some (.own d):=fun {j d} e=>by
     by_cases hj:i=j
     .subst hj;rw [getElem?_set_self hl] at e;cases e
     .rw [getElem?_set_ne hj] at e;exact e
    exact g.ne j1 j2 d1 d2 hj (f e1) (f e2)
  cases v with
  | no=>exact same rfl
  | val x=>exact same rfl
  | own d =>
   obtain ⟨p,a1,a2,a3,a4,a5⟩:=g.own i d e
   cases d with
   | lst xs =>
    obtain ⟨hf,vs,hp,r⟩:=a5
    exact go _ (.lst xs) p _ rfl rfl a1 a2 a3 hp hf fun F' s hF=>⟨p,vs,rfl,hF,RepL.mono s (prefix_refl _) _ _ r⟩
   | dct ks xs=>exact same rfl
   | fz ks xs=>exact same rfl
   | ins k ns xs =>
    obtain ⟨hf,dx,vs,hp,hl,r⟩:=a5
    exact go _ (.ins k ns xs) p _ rfl rfl a1 a2 a3 hp hf fun F' s hF=>⟨p,dx,vs,rfl,hF,hl,RepL.mono s (prefix_refl _) _ _ r⟩
   | dead=>exact same rfl
theorem yHN (i:Nat) (a:ykB K t s):ykB K t (yEc i s):=by
 intro W0 W ρ σ D o h' g e q
 obtain ⟨W',e1,e2,l,g'⟩:=g.frz i
 rw [<- e2]
 exact a W0 W' _ σ D o h' g' (by rw [e1];exact e) (q.from_ l)
end
end PX
namespace PX
open PySem L2
variable {K:Ck}
section
variable {ta tb:TE}{ea eb:XE}{t u:TS}{s s':XS}{tA:TT}{eA:XT}
def yGb (W:Wd) (p:Addr) (o:HO):Wd:=⟨W.F,upd W.H p o,W.m,W.h⟩
theorem yHO {W:Wd}{p:Addr}{o:HO}(w:WOk K W) (hm:p∉W.m) (hf:W.F p=none):WOk K (yGb W p o):=by
 refine ⟨fun b u e=>?_,w.len,w.nd,fun n d a e1 e2=>?_⟩
 .have:b≠p:=ybN e hf
  exact (yX this).trans (w.le _ _ e)
 .have ha:a≠p:=fun z=>hm (z ▸ mem_of_getElem? e2)
  exact (w.at_ n d a e1 e2).mono (Same.refl _) (prefix_refl _) (fun u e=>(yX ha).trans e) id
theorem yAR {W W1:Wd}{p:Addr}{o:HO}(l:Le K W W1) (hm:p∉W1.m) (hf:W1.F p=none) (hn:W.H p=none):Le K W (yGb W1 p o) :=
 ⟨yHO l.ok hm hf,l.fs,l.pre,fun b u e n=>(yX (ybN e hn)).trans (l.keep b u e n),l.new,l.mn,fun n ks xs e1=>⟨(l.fz n ks xs e1).1,fun a e2=>(yX (fun (z:a=p)=>hm (z ▸ mem_of_getElem? (ylH l.pre e2)))).trans ((l.fz n ks xs e1).2 a e2)⟩⟩
theorem yAS {W W1:Wd}{p:Addr}{o:HO}(l:Le K W W1) (hm:p∉W1.m):Lf K W (yGb W1 p o) :=
 ⟨l.fs,l.pre,fun n ks xs e1=>⟨(l.fz n ks xs e1).1,fun a e2=>(yX (fun (z:a=p)=>hm (z ▸ mem_of_getElem? (ylH l.pre e2)))).trans ((l.fz n ks xs e1).2 a e2)⟩⟩
theorem Good.mut {W0 W:Wd}{ρ:PSt}{σ:St}(g:Good K W0 W ρ σ) {i:Nat}{d d':Nd}{p:Addr}{o:HO}(e:ρ[i]?=some (.own d)) (hs:σ[i]?=some (some (.ref p))) (hm:p∉W.m) (h0:W0.H p=none) (hf:W.F p=none) (hd:d'≠.dead)
  (at_:NdAt K W.F (upd W.H p o) W.m d' p):Good K W0 (yGb W p o) (ρ.set i (.own d')) σ:=by
 have hl:i<ρ.length:=(List.getElem?_eq_some_iff.mp e).1
 refine ⟨yAR g.le hm hf h0,by rw [length_set];exact g.len,fun j y e'=>?_,fun j d1 e'=>?_,fun j1 j2 d1 d2 hj e1 e2=>?_⟩
 .by_cases hj:i=j
  .subst hj;rw [getElem?_set_self hl] at e';cases e'
  .rw [getElem?_set_ne hj] at e';exact g.val j y e'
 .by_cases hj:i=j
  .subst hj;rw [getElem?_set_self hl] at e';cases e';exact ⟨p,hs,hm,h0,hd,at_⟩
  .rw [getElem?_set_ne hj] at e'
   obtain ⟨q,a1,a2,a3,a4,a5⟩:=g.own j d1 e'
   have hq:q≠p:=fun z=>g.ne j i d1 d (fun z=>hj z.symm) e' e (by rw [a1,hs,z])
   exact ⟨q,a1,a2,a3,a4,a5.mono (Same.refl _) (prefix_refl _) (fun u e=>(yX hq).trans e) id⟩
 .have f:∀ {j:Nat}{d1:Nd},(ρ.set i (.own d'))[j]?=some (.own d1)->∃ d2,ρ[j]?=some (.own d2):=fun {j d1} e'=>by
   by_cases hj:i=j
   .subst hj;exact ⟨d,e⟩
   .rw [getElem?_set_ne hj] at e';exact ⟨_,e'⟩
  obtain ⟨_,f1⟩:=f e1
  obtain ⟨_,f2⟩:=f e2
  exact g.ne j1 j2 _ _ hj f1 f2
theorem big {n:Nat}(h:n<100000):n<sizeLine:=lt_of_lt_of_le h (by decide)
theorem yJm {n:Nat}(h:n<=100000):n<=sizeLine:=Nat.le_trans h (by decide)
theorem yEh (i:Nat) (a:ybZ K ta ea):ykB K (yAg (tBM K.K "list" yvY (yzX i) (yvU ta yDG))) (ygx i ea):=by
 intro W0 W ρ σ D o h' g e q
 unfold ygx at e
 split at e
 .rename_i xs0 hx
  obtain ⟨x,h1,e1,f1⟩:=yj e
  split at f1
  .rename_i hlen
   cases f1
   obtain ⟨p,a1,a2,a3,a4,hf,vs,hp,r⟩:=g.own i _ hx
   refine ⟨.ref p,a1,.inl ⟨rfl,_,SqL.of hp⟩,?_⟩
   refine a W0 W ρ σ _ x _ g e1 fun v W1 w1 l1 r1=>⟨p,vs,v,rfl,rfl,l1.keep _ _ hp a2,by rw [r.len];exact big hlen,?_⟩
   have g1:=g.step l1
   obtain ⟨p',b1,b2,b3,b4,b5,vs',b6,b7⟩:=g1.own i _ hx
   rw [a1] at b1
   cases b1
   rw [l1.keep _ _ hp a2] at b6
   cases b6
   exact q (yGb W1 p (.lst (vs++[v]))) σ w1 (yAS l1 b2) (g1.mut hx a1 b2 b3 b5 (fun z=>by cases z) ⟨b5,_,yP,b7.snoc r1⟩)
  .cases f1
 .cases e
structure yLS (K:Ck) (W:Wd) (J:It) (xs:List PV):Prop where
 go:∀ (i:Nat) (W':Wd),Lf K W W'->WOk K W'->i<xs.length->J.go i W'.H
 yld:∀ (i:Nat) (W':Wd) (v:V) (H2:Hp),Lf K W W'->WOk K W'->i<xs.length->J.yld i W'.H v H2->H2=W'.H/\∃ x,xs[i]?=some x/\ydh K W' x v
 stop:∀ (W':Wd),Lf K W W'->WOk K W'->J.stop xs.length W'.H
noncomputable def yEi (K:Ck) (wi:TI) (e:XA):Prop:=∀ (W0 W:Wd) (ρ:PSt) (σ:St) (R:It->Hp->Prop) (xs:List PV) (h':AH),Good K W0 W ρ σ->e ρ W.h=some (xs,h')->(∀ J W',W'.h=h'->Le K W W'->yLS K W' J xs->R J W'.H)->wi σ W.H R
def xIL (e:XE):XA:=fun ρ h=>ob (e ρ h) fun x h1=>match x with|.lst xs=>some (xs,h1)|.scr ns=>some (ns.map .int,h1)|_=>none
def sgn (c:Nat):PV:=.str ⟨#[c]⟩
def xIS (e:XE):XA:=fun ρ h=>ob (e ρ h) fun x h1=>match x with|.str z=>if z.length<=100000 then some (z.cps.toList.map sgn,h1) else none|_=>none
def yvO (lo:Int) (n:Nat):List PV:=(List.range n).map fun (k:Nat)=>.int (lo+(k:Int))
def yDp (a:XA):XA:=fun ρ h=>ob (a ρ h) fun xs h1=>match xs with|[.int j]=>if -1000000000<=j/\j<=1000000000 then some (yvO 0 j.toNat,h1) else none|_=>none
theorem yju {W:Wd}(w:WOk K W) {a:Addr}{vs:List V}(h:SqL K.K W.F a vs):SqL K.K W.H a vs:=Same.seq w.le h
theorem yej {W:Wd}(w:WOk K W) {a:Addr}{vs:List V}(h:TpAt K.K W.F a vs):SqT K.K W.H a vs:=h.elim (fun h=>SqT.of (w.le _ _ h)) .inr
theorem yAT (a:ybZ K ta ea):yEi K (yJQ K.K ta) (xIL ea):=by
 intro W0 W ρ σ R xs h' g e q
 obtain ⟨x,h1,e1,f1⟩:=yj e
 refine a W0 W ρ σ _ x h1 g e1 fun v W1 w1 l1 r1=>?_
 have key:∀ (a:Addr) (vs:List V),v=.ref a->SqL K.K W1.F a vs->RepL K W1.F W1.m xs vs->h1=h'->∃ a,v=.ref a/\(∃ xs,SqL K.K W1.H a xs)/\R (Itl K.K a) W1.H:=fun a vs ev hs rs eh=>by
  subst eh
  refine ⟨a,ev,⟨vs,yju l1.ok hs⟩,q _ W1 w1 l1 ⟨fun i W' l w hi=>?_,fun i W' v' H2 l w hi hy=>?_,fun W' l w=>?_⟩⟩
  .obtain ⟨v',h1,_⟩:=rs.get (List.getElem?_eq_getElem hi)
   exact ⟨vs,v',yju w (Same.seq l.fs hs),h1⟩
  .obtain ⟨h1,h2⟩:=hy
   have:=h2 vs (yju w (Same.seq l.fs hs))
   obtain ⟨x,h3,h4⟩:=rs.get' this
   exact ⟨h1,x,h3,l.rep h4⟩
  .exact ⟨vs,yju w (Same.seq l.fs hs),by rw [rs.len];exact Nat.le_refl _⟩
 split at f1
 .cases f1
  obtain ⟨a,vs,ev,hs,rs⟩:=r1
  exact key a vs ev (SqL.of hs) rs rfl
 .rename_i ns
  cases f1
  obtain ⟨a,ev,hs⟩:=r1
  exact key a _ ev hs (RepL.of_ints ns) rfl
 .cases f1
theorem yEj (a:ybZ K ta ea):yEi K (yOd ta) (xIS ea):=by
 intro W0 W ρ σ R xs h' g e q
 obtain ⟨x,h1,e1,f1⟩:=yj e
 refine a W0 W ρ σ _ x h1 g e1 fun v W1 w1 l1 r1=>?_
 split at f1
 .rename_i z
  split at f1
  .rename_i hz
   cases f1
   have hl:z.length=z.cps.toList.length:=by simp [Str.length]
   refine ⟨z,r1,yJm hz,q _ W1 w1 l1 ⟨fun i W' l w hi=>?_,fun i W' v' H2 l w hi hy=>?_,fun W' l w=>?_⟩⟩
   .show i<z.length
    rw [hl];simpa using hi
   .obtain ⟨h1,c,h2,h3⟩:=hy
    exact ⟨h1,sgn c,by rw [getElem?_map,h2];rfl,h3⟩
   .show _=z.length
    rw [hl];simp
  .cases f1
 .cases f1
theorem yKp (W:Wd) (lo:Int) (n:Nat):yLS K W (Itr lo n) (yvO lo n):=by
 refine ⟨fun i W' l w hi=>?_,fun i W' v' H2 l w hi hy=>?_,fun W' l w=>?_⟩
 .show i<n
  simpa [yvO] using hi
 .obtain ⟨h1,h2⟩:=hy
  have hi:i<n:=by simpa [yvO] using hi
  exact ⟨h1,.int (lo+(i:Int)),by simp [yvO,hi],h2⟩
 .show n<=_
  simp [yvO]
theorem yAU {t:TA}{e:XA}(a:ytH K t e):yEi K (yJR t) (yDp e):=by
 intro W0 W ρ σ R xs h' g e q
 obtain ⟨ys,h1,e1,f1⟩:=yj e
 split at f1
 .rename_i j
  split at f1
  .rename_i hj
   cases f1
   refine a W0 W ρ σ _ _ _ g e1 fun vs W1 w1 l1 r1=>?_
   obtain ⟨v,r,rfl,rv,rr⟩:=r1
   obtain rfl:r=[]:=rr
   exact ⟨j,by rw [show v=.int j from rv],by omega,by omega,q _ W1 w1 l1 (yKp W1 0 _)⟩
  .cases f1
 .cases f1
theorem yHP {wi:TI}{it:XA}{g:TG}{y:XG}(a:yEi K wi it) (b:yHM K g y) (c:ykB K t s):ykB K (yMf wi g t) (yxY it y s):=by
 intro W0 W ρ σ D o h' gd e q
 obtain ⟨xs,h1,e1,f1⟩:=yj e
 refine a W0 W ρ σ _ xs h1 gd e1 fun J W1 w1 l1 J1=>?_
 subst w1
 have q1:=q.from_ l1.lf
 refine ⟨fun i m σ H=>m=xs.length-i/\i<=xs.length/\∃ W' ρ',W'.H=H/\Lf K W1 W'/\Good K W0 W' ρ' σ/\ymz y s (xs.drop i) ρ' W'.h=some (o,h'),⟨_,rfl,zero_le _,W1,ρ,rfl,.refl,gd.step l1,by simpa using f1⟩,?_⟩
 rintro i m σ _ ⟨rfl,hi,W',ρ',rfl,l,g',f⟩
 by_cases hlt:i<xs.length
 .rw [List.drop_eq_getElem_cons hlt] at f
  obtain ⟨ρ1,k1,f⟩:=Option.bind_eq_some_iff.mp f
  obtain ⟨o1,h2,k2,f3⟩:=yj f
  refine .inr ⟨J1.go i W' l g'.ok hlt,fun σ2 H2=>i+1<=xs.length/\∃ W2 ρ2,W2.H=H2/\Lf K W1 W2/\Good K W0 W2 ρ2 σ2/\ymz y s (xs.drop (i+1)) ρ2 W2.h=some (o,h'),fun σ2 H2 ⟨n1,n2⟩=>⟨xs.length-(i+1),by omega,rfl,n1,n2⟩,fun v H2 hy=>?_⟩
  obtain ⟨rfl,x,hx,rx⟩:=J1.yld i W' v H2 l g'.ok hlt hy
  rw [List.getElem?_eq_getElem hlt] at hx
  cases hx
  refine b W0 W' ρ' ρ1 σ _ v _ g' rx k1 fun σ2 g2=>?_
  refine c W0 W' ρ1 σ2 _ o1 h2 g2 k2 ?_
  cases o1 with
  | nx ρ2=>exact fun W2 σ3 w2 l2 g3=>⟨hlt,W2,ρ2,rfl,l.trans l2,g3,by rw [w2];exact f3⟩
  | ct ρ2=>exact fun W2 σ3 w2 l2 g3=>⟨hlt,W2,ρ2,rfl,l.trans l2,g3,by rw [w2];exact f3⟩
  | bk ρ2=>cases f3;exact fun W2 σ3 w2 l2 g3=>q1 W2 σ3 w2 (l.trans l2) g3
  | rt x=>cases f3;exact q1
 .have ei:i=xs.length:=by omega
  subst ei
  refine .inl ⟨J1.stop W' l g'.ok,?_⟩
  rw [List.drop_length] at f
  cases f
  exact q1 W' σ rfl l g'
theorem yAV (n:Nat) (c:yvN K tA eA) (a:ykB K t s):ykB K (yFL tA t) (ymA n eA s):=by
 intro W0 W ρ σ D o h' gd e q
 refine ⟨fun m σ H=>∃ W' ρ',W'.H=H/\Lf K W W'/\Good K W0 W' ρ' σ/\whl eA s m ρ' W'.h=some (o,h'),⟨n,W,ρ,rfl,.refl,gd,e⟩,?_⟩
 rintro m σ _ ⟨W',ρ',rfl,l,g',f⟩
 cases m with
 | zero=>cases f
 | succ m =>
  obtain ⟨k,h1,e1,f1⟩:=yj f
  refine c W0 W' ρ' σ _ k h1 g' e1 fun W1 w1 l1=>?_
  subst w1
  cases k with
  | false =>
   rw [if_neg (by decide)] at f1 ⊢
   cases f1
   exact q W1 σ rfl (l.trans l1.lf) (g'.step l1)
  | true =>
   rw [if_pos rfl] at f1 ⊢
   obtain ⟨o1,h2,k2,f3⟩:=yj f1
   refine ⟨fun σ2 H2=>∃ W2 ρ2,W2.H=H2/\Lf K W W2/\Good K W0 W2 ρ2 σ2/\whl eA s m ρ2 W2.h=some (o,h'),fun σ2 H2 z=>⟨m,Nat.lt_succ_self _,z⟩,?_⟩
   refine a W0 W1 ρ' σ _ o1 h2 (g'.step l1) k2 ?_
   have l':=l.trans l1.lf
   cases o1 with
   | nx ρ2=>exact fun W2 σ3 w2 l2 g3=>⟨W2,ρ2,rfl,l'.trans l2,g3,by rw [w2];exact f3⟩
   | ct ρ2=>exact fun W2 σ3 w2 l2 g3=>⟨W2,ρ2,rfl,l'.trans l2,g3,by rw [w2];exact f3⟩
   | bk ρ2=>cases f3;exact fun W2 σ3 w2 l2 g3=>q W2 σ3 w2 (l'.trans l2) g3
   | rt x=>cases f3;exact q
theorem yAW {e:XE}{inn:PV->PSt}:∀ {xs:List PV}{h:AH}{ys:List PV}{h':AH},yDo e inn xs h=some (ys,h')->ys.length=xs.length
 | [],_,_,_,e=>by cases e;rfl
 | x::xs,_,_,_,e=>by
  obtain ⟨y,h1,e1,f1⟩:=yj e
  obtain ⟨ys,h2,e2,f2⟩:=yj f1
  cases f2
  rw [length_cons,length_cons,yAW e2]
theorem yEk {W0 W W':Wd}{ρ:PSt}{σ:St}(g:Good K W0 W ρ σ) (l:Le K W W') (ix:List Nat) {x:PV}{v:V}(r:ydh K W' x v):Good K W' W' (yEd ix ρ x) (inner ix σ v) where
 le:=.refl l.ok
 len:=by simp [yEd,inner]
 val:=fun j y e=>by
  cases j with
  | zero=>simp [yEd] at e;subst e;exact ⟨v,rfl,r⟩
  | succ j =>
   have e:(ix.map (yDn ρ))[j]?=some (.val y):=e
   rw [getElem?_map] at e
   cases ei:ix[j]? with
   | none=>rw [ei] at e;cases e
   | some i =>
    rw [ei] at e
    have e:yDn ρ i=.val y:=Option.some.inj e
    unfold yDn at e
    split at e
    .rename_i z hz
     cases e
     obtain ⟨w,h1,h2⟩:=g.val i _ hz
     exact ⟨w,by show (ix.map fun i=>(σ[i]?).getD none)[j]?=_;rw [getElem?_map,ei];simp [h1],l.rep h2⟩
    .cases e
 own:=fun j d e=>by
  cases j with
  | zero=>simp [yEd] at e
  | succ j =>
   have e:(ix.map (yDn ρ))[j]?=some (.own d):=e
   rw [getElem?_map] at e
   cases ei:ix[j]? with
   | none=>rw [ei] at e;cases e
   | some i =>
    rw [ei] at e
    have e:yDn ρ i=.own d:=Option.some.inj e
    unfold yDn at e
    split at e<;>cases e
 ne:=fun j k d d' _ e _=>by
  cases j with
  | zero=>simp [yEd] at e
  | succ j =>
   have e:(ix.map (yDn ρ))[j]?=some (.own d):=e
   rw [getElem?_map] at e
   cases ei:ix[j]? with
   | none=>rw [ei] at e;cases e
   | some i =>
    rw [ei] at e
    have e:yDn ρ i=.own d:=Option.some.inj e
    unfold yDn at e
    split at e<;>cases e
theorem yxZ {wi:TI}{it:XA}(ix:List Nat) (a:yEi K wi it) (b:ybZ K ta ea):yxV K (yHp wi ix ta) (ynV it ix ea):=by
 intro W0 W ρ σ Q d h' gd e q
 obtain ⟨xs,h1,e1,f1⟩:=yj e
 split at f1
 .rename_i hlen
  obtain ⟨zs,h2,e2,f2⟩:=yj f1
  cases f2
  have hz:=yAW e2
  refine a W0 W ρ σ _ xs h1 gd e1 fun J W1 w1 l1 J1=>?_
  subst w1
  intro D hD
  have nm:=l1.ok.out hD
  have nf:=l1.ok.ff hD
  refine ⟨fun i m H=>m=xs.length-i/\i<=xs.length/\∃ W' acc done rest,W'.H=H/\Le K W1 W'/\D∉W'.m/\W'.F D=none/\H D=some (.lst acc)/\ydF K W' done acc/\done.length=i/\zs=done++rest/\yDo ea (yEd ix ρ) (xs.drop i) W'.h=some (rest,h'),⟨_,rfl,zero_le _,yqb W1 D (.lst []),[],[],zs,rfl,yei l1.ok hD,nm,nf,yP,rfl,rfl,rfl,by rw [List.drop_zero];exact e2⟩,?_⟩
  rintro i m _ ⟨rfl,hi,W',acc,done,rest,rfl,l,n1,n2,hd,rd,ld,ez,f⟩
  by_cases hlt:i<xs.length
  .rw [List.drop_eq_getElem_cons hlt] at f
   obtain ⟨y,h3,k1,f3⟩:=yj f
   obtain ⟨ys,h4,k2,f4⟩:=yj f3
   cases f4
   refine .inr ⟨J1.go i W' l.lf l.ok hlt,fun v H2 hy=>?_⟩
   obtain ⟨rfl,x,hx,rx⟩:=J1.yld i W' v H2 l.lf l.ok hlt hy
   rw [List.getElem?_eq_getElem hlt] at hx
   cases hx
   refine b W' W' _ _ _ y h3 (yEk gd (l1.trans l) ix rx) k1 fun w W2 w2 l2 r2=>?_
   obtain ⟨o2,n2'⟩:∃ o,W'.H D=some o:=⟨_,hd⟩
   have nm2:D∉W2.m:=fun z=>by rw [l2.mn D z n1] at hd;cases hd
   have nf2:W2.F D=none:=l2.new D _ hd n1 n2
   refine ⟨acc,l2.keep _ _ hd n1,?_,xs.length-(i+1),by omega,rfl,hlt,yGb W2 D (.lst (acc++[w])),acc++[w],done++[y],ys,rfl,yAR (l.trans l2) nm2 nf2 hD,nm2,nf2,yP,(l2.repL rd).snoc r2,by simp [ld],by simp [ez],?_⟩
   .rw [rd.len,ld];exact big (by omega)
   .show yDo ea (yEd ix ρ) (xs.drop (i+1)) W2.h=some (ys,h')
    rw [w2];exact k2
  .have ei:i=xs.length:=by omega
   subst ei
   rw [List.drop_length] at f
   cases f
   refine .inl ⟨J1.stop W' l.lf l.ok,?_⟩
   rw [append_nil] at ez
   subst ez
   exact q D W' rfl (l1.trans l) n1 (l1.fresh hD) (fun z=>by cases z) ⟨n2,acc,hd,rd⟩
 .cases f1
theorem ylJ {W:Wd}(w:WOk K W) {N:List Str}{xs:List PV}{vs:List V}(r:ydF K W xs vs):Good K W W (xs.map .val++replicate (N.length-xs.length) .no) (L2.start N vs) where
 le:=.refl w
 len:=by simp [L2.start,r.len]
 val:=fun j y e=>by
  by_cases hj:j<xs.length
  .rw [getElem?_append_left (by simpa using hj),getElem?_map,List.getElem?_eq_getElem hj] at e
   cases e
   obtain ⟨v,h1,h2⟩:=r.get (List.getElem?_eq_getElem hj)
   refine ⟨v,?_,h2⟩
   unfold L2.start
   rw [getElem?_append_left (by simp [r.len,hj]),getElem?_map,h1];rfl
  .rw [getElem?_append_right (by simp;omega),getElem?_replicate] at e
   split at e<;>cases e
 own:=fun j d e=>by
  by_cases hj:j<xs.length
  .rw [getElem?_append_left (by simpa using hj),getElem?_map,List.getElem?_eq_getElem hj] at e
   cases e
  .rw [getElem?_append_right (by simp;omega),getElem?_replicate] at e
   split at e<;>cases e
 ne:=fun j k d d' _ e _=>by
  by_cases hj:j<xs.length
  .rw [getElem?_append_left (by simpa using hj),getElem?_map,List.getElem?_eq_getElem hj] at e
   cases e
  .rw [getElem?_append_right (by simp;omega),getElem?_replicate] at e
   split at e<;>cases e
theorem yEl {N:List Str}{n:Nat}{vs:List V}{H:Hp}{Q:VK}{E:XK}{bk ct:St->Hp->Prop}(a:ykB K t s) (h:spE K n (ycI N.length s) vs H Q E):t ⟨fun _ H'=>Q .non H',Q,bk,ct⟩ (L2.start N vs) H:=by
 obtain ⟨W,xs,x,h',rfl,w,r,_,e,q⟩:=h
 obtain ⟨o,h1,e1,f1⟩:=yj e
 refine a W W _ _ _ o h1 (ylJ w r) e1 ?_
 cases o with
 | rt y=>cases f1;exact fun W' v ew l rv=>q v W' ew l rv
 | nx ρ=>cases f1;exact fun W' σ' ew _ g=>q .non W' ew g.le rfl
 | bk ρ=>cases f1
 | ct ρ=>cases f1
theorem yHQ {n:Nat}{f:Fn}{vs:List V}{H:Hp}{Q:VK}{E:XK}(h:spE K n f vs H Q E):vs.length=n:=by
 obtain ⟨W,xs,x,h',rfl,w,r,hn,_⟩:=h
 rw [r.len,hn]
end
end PX
namespace PX
open PySem L2
variable {K:Ck}
def oI (g:Int->Int->PV):P2:=fun x y h=>match x,y with|.int i,.int j=>some (g i j,h)|_,_=>none
noncomputable def oIc (C:Int->Int->Prop) [∀ i j,Decidable (C i j)] (g:Int->Int->PV):P2:=fun x y h=>match x,y with|.int i,.int j=>if C i j then some (g i j,h) else none|_,_=>none
abbrev yiT:P2:=oI fun i j=>.int (i+j)
abbrev yHR:P2:=oI fun i j=>.int (i-j)
noncomputable def MulOk (i j:Int):Prop:=(-18446744073709551616<i/\i<18446744073709551616)\/(-18446744073709551616<j/\j<18446744073709551616)
instance (i j:Int):Decidable (MulOk i j):=by unfold MulOk;infer_instance
def yAX (i j:Int):Prop:=(0<=i/\i<18446744073709551616)/\0<=j/\j<=1000000
instance (i j:Int):Decidable (yAX i j):=by unfold yAX;infer_instance
abbrev yGc:P2:=oIc MulOk fun i j=>.int (i*j)
abbrev oDiv:P2:=oIc (fun _ j=>0<j/\j<1073741824) fun i j=>.int (i/j)
abbrev oMod:P2:=oIc (fun _ j=>0<j) fun i j=>.int (i%j)
abbrev yKq:P2:=oIc yAX fun i j=>.int (i ^ j.toNat)
abbrev oLt:P2:=oI fun i j=>.bl (decide (i<j))
abbrev oLe:P2:=oI fun i j=>.bl (decide (i<=j))
abbrev oGt:P2:=oI fun i j=>.bl (decide (j<i))
abbrev yEm:PV->AH->Option (PV×AH):=fun x h=>match x with|.int i=>some (.int (-i),h)|_=>none
theorem yKr {g:Int->Int->PV}{gV:Int->Int->V}(h:∀ (W:Wd) i j,ydh K W (g i j) (gV i j)):ycQ K (rI0 gV) (oI g):=by
 intro W x y v u Q z h' w rx ry e q
 unfold oI at e
 split at e
 .rename_i i j
  cases e
  exact ⟨i,j,rx,ry,q _ W rfl (.refl w) (h W i j)⟩
 .cases e
theorem yEn {C:Int->Int->Prop} [∀ i j,Decidable (C i j)] {C':Int->Int->Prop}{g:Int->Int->PV}{gV:Int->Int->V}(hc:∀ i j,C i j->C' i j) (h:∀ (W:Wd) i j,ydh K W (g i j) (gV i j)):ycQ K (rI C' gV) (oIc C g):=by
 intro W x y v u Q z h' w rx ry e q
 unfold oIc at e
 split at e
 .rename_i i j
  split at e
  .rename_i c
   cases e
   exact ⟨i,j,rx,ry,hc i j c,q _ W rfl (.refl w) (h W i j)⟩
  .cases e
 .cases e
theorem ycR:ycQ K yMu yiT:=yKr fun _ _ _=>rfl
theorem yze:ycQ K yMv yHR:=yKr fun _ _ _=>rfl
theorem ywt:ycQ K yMw yGc:=yEn (fun i j h=>by unfold CMul;rw [show (2:Int) ^ 64=18446744073709551616 by decide];exact h) fun _ _ _=>rfl
theorem ycS:ycQ K yMx oDiv:=yEn (fun i j h=>h) fun _ _ _=>rfl
theorem ybS:ycQ K yMy oMod:=yEn (fun i j h=>h) fun _ _ _=>rfl
theorem yEo:ycQ K yMz yKq:=yEn (fun i j h=>by unfold yMj;rw [show 2 ^ 64=18446744073709551616 by decide];unfold yAX at h;omega) fun _ _ _=>rfl
theorem yDq:ycQ K yOx oLt:=yKr fun _ _ _=>rfl
theorem yOC:ycQ K yOy oLe:=yKr fun _ _ _=>rfl
theorem yOD:ycQ K yOz oGt:=yKr fun _ _ _=>rfl
theorem yzf:yHw K yMA yEm:=by
 intro W x v Q z h' w rx e q
 unfold yEm at e
 split at e
 .rename_i i
  cases e
  exact ⟨i,rx,q _ W rfl (.refl w) rfl⟩
 .cases e
def sv:PV->Option V
 | .non=>some .non
 | .bl b=>some (.bl b)
 | .int i=>some (.int i)
 | .str s=>some (.str s)
 | _=>none
theorem yjb {W:Wd}{x:PV}{v u:V}(e:sv x=some u) (r:ydh K W x v):v=u:=by
 cases x<;>cases e<;>exact r
def oEq:P2:=fun x y h=>match sv x,sv y with|some v,some u=>if yGZ v u=true then some (.bl (decide (v=u)),h) else none|_,_=>none
def oNe:P2:=fun x y h=>match sv x,sv y with|some v,some u=>if yGZ v u=true then some (.bl (!decide (v=u)),h) else none|_,_=>none
theorem yek:ycQ K rEq oEq:=by
 intro W x y v u Q z h' w rx ry e q
 unfold oEq at e
 split at e
 .rename_i v' u' e1 e2
  obtain rfl:=yjb e1 rx
  obtain rfl:=yjb e2 ry
  split at e
  .rename_i c
   cases e
   exact ⟨c,q _ W rfl (.refl w) rfl⟩
  .cases e
 .cases e
theorem yOe:ycQ K rNe oNe:=by
 intro W x y v u Q z h' w rx ry e q
 unfold oNe at e
 split at e
 .rename_i v' u' e1 e2
  obtain rfl:=yjb e1 rx
  obtain rfl:=yjb e2 ry
  split at e
  .rename_i c
   cases e
   exact ⟨c,q _ W rfl (.refl w) rfl⟩
  .cases e
 .cases e
def isN:PV->Bool
 | .non=>true
 | _=>false
def yKs:P2:=fun x y h=>match y with|.non=>some (.bl (isN x),h)|_=>none
theorem yHS {W:Wd}{x:PV}{v:V}(r:ydh K W x v):decide (v=.non)=isN x:=by
 cases x with
 | non=>rw [show v=.non from r];rfl
 | bl b=>rw [show v=.bl b from r];rfl
 | int b=>rw [show v=.int b from r];rfl
 | str b=>rw [show v=.str b from r];rfl
 | ty b=>rw [show v=.ty b from r];rfl
 | cls b=>rw [show v=.ref _ from r];rfl
 | scr b=>obtain ⟨a,e,_⟩:=r;rw [e];rfl
 | lst b=>obtain ⟨a,_,e,_⟩:=r;rw [e];rfl
 | tup b=>obtain ⟨a,_,e,_⟩:=r;rw [e];rfl
 | ins k n b=>obtain ⟨a,_,_,e,_⟩:=r;rw [e];rfl
 | loc n=>obtain ⟨a,e,_⟩:=r;rw [e];rfl
theorem yKt:ycQ K yOA yKs:=by
 intro W x y v u Q z h' w rx ry e q
 unfold yKs at e
 split at e
 .cases e
  exact ⟨ry,by rw [yHS rx];exact q _ W rfl (.refl w) rfl⟩
 .cases e
noncomputable def yEp:P2:=fun x y h=>match x,y with|.str i,.str j=>if i.length+j.length<=100000 then some (.str (i++j),h) else none|_,_=>none
theorem yKu:ycQ K yMB yEp:=by
 intro W x y v u Q z h' w rx ry e q
 unfold yEp at e
 split at e
 .rename_i i j
  split at e
  .rename_i c
   cases e
   exact ⟨i,j,rx,ry,yJm c,q _ W rfl (.refl w) rfl⟩
  .cases e
 .cases e
noncomputable def yPi:P2:=fun x y h=>match x,y with|.str s,.str j=>(match s.cps.toList with|[c]=>some (.bl (decide (c∈j.cps.toList)),h)|_=>none)|_,_=>none
theorem one_sign {s:Str}{c:Nat}(h:s.cps.toList=[c]):s=⟨#[c]⟩:=by
 obtain ⟨⟨l⟩⟩:=s
 have:l=[c]:=h
 rw [this]
def ydk:P2:=fun x y h=>match y with
 | .int i=>(match x with
  | .lst xs=>(match atI xs i with|some v=>some (v,h)|none=>none)
  | .scr ns=>(match atI ns i with|some v=>some (.int v,h)|none=>none)
  | .loc n=>(match h[n]? with|some (.lst xs)=>(match atI xs i with|some v=>some (v,h)|none=>none)|_=>none)
  | _=>none)
 | _=>none
def ybe:P2:=fun x y h=>match x,y with|.tup xs,.int i=>(match atI xs i with|some v=>some (v,h)|none=>none)|_,_=>none
def yya:P2:=fun x y h=>match x,y with|.str s,.int i=>(match atI s.cps.toList i with|some c=>if s.length<=100000 then some (sgn c,h) else none|none=>none)|_,_=>none
theorem RepL.at {F:Hp}{m:List Addr}{xs:List PV}{vs:List V}(r:RepL K F m xs vs) {i:Int}{x:PV}(e:atI xs i=some x):∃ v,atI vs i=some v/\Rep K F m x v:=by
 unfold atI at e ⊢
 rw [r.len]
 obtain ⟨j,e1,e2⟩:=Option.bind_eq_some_iff.mp e
 rw [e1]
 exact r.get e2
theorem WOk.loc {W:Wd}(w:WOk K W) {n:Nat}{d:Nd}{v:V}(e:W.h[n]?=Option.some d) (r:ydh K W (.loc n) v):∃ a,v=.ref a/\W.m[n]?=Option.some a/\NdAt K W.F W.H W.m d a:=by
 obtain ⟨a,ea,h⟩:=r
 exact ⟨a,ea,h,w.at_ n d a e h⟩
theorem ydB:ycQ K (yMp K.K) ydk:=by
 intro W x y v u Q z h' w rx ry e q
 unfold ydk at e
 split at e
 .rename_i i
  split at e
  .rename_i xs
   split at e
   .rename_i y hy
    cases e
    obtain ⟨a,vs,ev,hs,rs⟩:=rx
    obtain ⟨v',h1,h2⟩:=rs.at hy
    exact ⟨a,vs,i,v',ev,ry,SqL.of (w.le _ _ hs),h1,q _ W rfl (.refl w) h2⟩
   .cases e
  .rename_i ns
   split at e
   .rename_i y hy
    cases e
    obtain ⟨a,ev,hs⟩:=rx
    refine ⟨a,_,i,.int y,ev,ry,yju w hs,?_,q _ W rfl (.refl w) rfl⟩
    unfold atI at hy ⊢
    rw [length_map]
    obtain ⟨j,e1,e2⟩:=Option.bind_eq_some_iff.mp hy
    rw [e1]
    show (ns.map V.int)[j]?=_
    rw [getElem?_map,e2];rfl
   .cases e
  .rename_i n
   split at e
   .rename_i xs hn
    split at e
    .rename_i y hy
     cases e
     obtain ⟨a,ev,hm,hf,vs,hp,rs⟩:=w.loc hn rx
     obtain ⟨v',h1,h2⟩:=rs.at hy
     exact ⟨a,vs,i,v',ev,ry,SqL.of hp,h1,q _ W rfl (.refl w) h2⟩
    .cases e
   .cases e
  .cases e
 .cases e
theorem yR:ycQ K (yMq K.K) ybe:=by
 intro W x y v u Q z h' w rx ry e q
 unfold ybe at e
 split at e
 .rename_i xs i
  split at e
  .rename_i y hy
   cases e
   obtain ⟨a,vs,ev,hs,rs⟩:=rx
   obtain ⟨v',h1,h2⟩:=rs.at hy
   exact ⟨a,vs,i,v',ev,ry,yej w hs,h1,q _ W rfl (.refl w) h2⟩
  .cases e
 .cases e
theorem ytL:ycQ K yMr yya:=by
 intro W x y v u Q z h' w rx ry e q
 unfold yya at e
 split at e
 .rename_i s i
  split at e
  .rename_i c hc
   split at e
   .rename_i hl
    cases e
    exact ⟨s,i,c,rx,ry,yJm hl,hc,q _ W rfl (.refl w) rfl⟩
   .cases e
  .cases e
 .cases e
def yLT:PV->Option Int->Option Int->AH->Option (PV×AH):=fun x lo hi h=>match x with|.str z=>if z.length<=100000 then some (.str (yLR z lo hi),h) else none|_=>none
theorem yMG:yHH K yOb yLT:=by
 intro W x v lo hi Q z h' w rx e q
 unfold yLT at e
 split at e
 .rename_i s
  split at e
  .rename_i hl
   cases e
   exact ⟨s,rx,by omega,q _ W rfl (.refl w) rfl⟩
  .cases e
 .cases e
noncomputable def yqI {α:Type}(xs:List α) (lo hi:Option Int):List α:=(xs.drop (HT.sIx xs.length 0 lo)).take (HT.sIx xs.length xs.length hi-HT.sIx xs.length 0 lo)
noncomputable def listOf (x:PV) (h:AH):Option (List PV):=match x with|.lst xs=>some xs|.scr ns=>some (ns.map .int)|.loc n=>(match h[n]? with|some (.lst xs)=>some xs|_=>none)|_=>none
theorem ylK {W:Wd}(w:WOk K W) {x:PV}{v:V}{xs:List PV}(e:listOf x W.h=some xs) (r:ydh K W x v):∃ a vs,v=.ref a/\SqL K.K W.H a vs/\ydF K W xs vs:=by
 unfold listOf at e
 split at e
 .cases e
  obtain ⟨a,vs,ev,hs,rs⟩:=r
  exact ⟨a,vs,ev,SqL.of (w.le _ _ hs),rs⟩
 .rename_i ns
  cases e
  obtain ⟨a,ev,hs⟩:=r
  exact ⟨a,_,ev,yju w hs,RepL.of_ints ns⟩
 .rename_i n
  split at e
  .rename_i ys hn
   cases e
   obtain ⟨a,ev,hm,hf,vs,hp,rs⟩:=w.loc hn r
   exact ⟨a,vs,ev,SqL.of hp,rs⟩
  .cases e
 .cases e
noncomputable def ydG (x:PV) (h:AH):Option (List PV):=match x with|.lst xs=>some xs|.loc n=>(match h[n]? with|some (.lst xs)=>some xs|_=>none)|_=>none
theorem ybH {W:Wd}(w:WOk K W) {x:PV}{v:V}{xs:List PV}(e:ydG x W.h=some xs) (r:ydh K W x v):∃ a vs,v=.ref a/\W.H a=some (.lst vs)/\ydF K W xs vs:=by
 unfold ydG at e
 split at e
 .cases e
  obtain ⟨a,vs,ev,hs,rs⟩:=r
  exact ⟨a,vs,ev,w.le _ _ hs,rs⟩
 .rename_i n
  split at e
  .rename_i ys hn
   cases e
   obtain ⟨a,ev,hm,hf,vs,hp,rs⟩:=w.loc hn r
   exact ⟨a,vs,ev,hp,rs⟩
  .cases e
 .cases e
theorem yLU {W:Wd}(w:WOk K W) {p:Addr}(hp:W.H p=none) {xs:List PV}{vs:List V}(r:ydF K W xs vs) {Q:VK}(q:yzb K W (.lst xs) W.h Q):Q (.ref p) (upd W.H p (.lst vs)) :=
 q p (yqb W p (.lst vs)) rfl (yei w hp) (w.out hp) hp (fun z=>by cases z) ⟨w.ff hp,vs,yP,r⟩
def yvP:PV->Option Int->Option Int->AH->Option (Nd×AH):=fun x lo hi h=>match listOf x h with|some xs=>some (.lst (yqI xs lo hi),h)|none=>none
theorem ywu:yAP K (yNX K.K) yvP:=by
 intro W x v lo hi Q d h' w rx e q
 unfold yvP at e
 split at e
 .rename_i xs hx
  cases e
  obtain ⟨a,vs,ev,hs,rs⟩:=ylK w hx rx
  refine ⟨a,vs,ev,hs,fun p hp=>yLU w hp ?_ q⟩
  have:=(rs.drop (HT.sIx xs.length 0 lo)).take (HT.sIx xs.length xs.length hi-HT.sIx xs.length 0 lo)
  unfold yqI yJY
  rw [rs.len]
  exact this
 .cases e
def yAY:P2O:=fun x y h=>match ydG x h,ydG y h with|some xs,some ys=>if xs.length+ys.length<=100000 then some (.lst (xs++ys),h) else none|_,_=>none
theorem ytM:yAI K yNZ yAY:=by
 intro W x y v u Q d h' w rx ry e q
 unfold yAY at e
 split at e
 .rename_i xs ys hx hy
  split at e
  .rename_i hl
   cases e
   obtain ⟨a,vs,ev,hs,rs⟩:=ybH w hx rx
   obtain ⟨b,us,eu,ht,ru⟩:=ybH w hy ry
   refine ⟨a,b,vs,us,ev,eu,hs,ht,by rw [rs.len,ru.len];exact yJm hl,fun p hp=>yLU w hp (rs.app ru) q⟩
  .cases e
 .cases e
def repL {α:Type}(k:Nat) (xs:List α):List α:=(replicate k xs).flatten
noncomputable def yAZ (x:PV) (h:AH):Option Nat:=match x with|.tup xs=>some xs.length|.lst xs=>some xs.length|.scr ns=>some ns.length|.loc n=>(match h[n]? with|some (.lst xs)=>some xs.length|_=>none)|_=>none
def yfk:List PV->AH->Option (PV×AH):=fun xs h=>match xs with|[x]=>(match yAZ x h with|some n=>some (.int n,h)|none=>none)|_=>none
noncomputable def yEq:List PV->AH->Option (PV×AH):=fun xs h=>match xs with|[.str z]=>if z.length<=100000 then some (.int z.length,h) else none|_=>none
theorem yzg {W:Wd}{x:PV}{vs:List V}(r:ydF K W [x] vs):∃ v,vs=[v]/\ydh K W x v:=by
 obtain ⟨v,r',e,h,l⟩:=r
 exact ⟨v,by rw [e,show r'=[] from l],h⟩
theorem yOf {W:Wd}{x y:PV}{vs:List V}(r:ydF K W [x,y] vs):∃ v u,vs=[v,u]/\ydh K W x v/\ydh K W y u:=by
 obtain ⟨v,r',e,h,l⟩:=r
 obtain ⟨u,e2,h2⟩:=yzg l
 exact ⟨v,u,by rw [e,e2],h,h2⟩
theorem yhl:yry K (yKa K.K) yfk:=by
 intro W xs vs Q z h' w r e q
 unfold yfk at e
 split at e
 .rename_i x
  split at e
  .rename_i n hn
   cases e
   obtain ⟨v,rfl,rx⟩:=yzg r
   have fin:∀ (ys:List V),ys.length=n->Q (.int ys.length) W.H:=fun ys hl=>by rw [hl];exact q _ W rfl (.refl w) rfl
   unfold yAZ at hn
   split at hn
   .cases hn
    obtain ⟨a,us,rfl,hs,rs⟩:=rx
    exact ⟨a,us,rfl,.inr (yej w hs),fin _ rs.len⟩
   .rename_i ys
    cases hn
    obtain ⟨a,us,rfl,hs,rs⟩:=rx
    exact ⟨a,us,rfl,.inl (SqL.of (w.le _ _ hs)),fin _ rs.len⟩
   .rename_i ns
    cases hn
    obtain ⟨a,rfl,hs⟩:=rx
    exact ⟨a,_,rfl,.inl (yju w hs),fin _ (by simp)⟩
   .split at hn
    .rename_i ys hy
     cases hn
     obtain ⟨a,rfl,hm,hf,us,hp,rs⟩:=w.loc hy rx
     exact ⟨a,us,rfl,.inl (SqL.of hp),fin _ rs.len⟩
    .cases hn
   .cases hn
  .cases e
 .cases e
theorem yKv:yry K yMD yEq:=by
 intro W xs vs Q z h' w r e q
 unfold yEq at e
 split at e
 .rename_i s
  split at e
  .rename_i hl
   cases e
   obtain ⟨v,rfl,rx⟩:=yzg r
   exact ⟨s,by rw [show v=_ from rx],yJm hl,q _ W rfl (.refl w) rfl⟩
  .cases e
 .cases e
noncomputable def yBa:List PV->AH->Option (PV×AH):=fun xs h=>match xs with|[.int i]=>some (.int i,h)|[.bl k]=>some (.int (if k then 1 else 0),h)|_=>none
theorem yGd:yry K yMC yBa:=by
 intro W xs vs Q z h' w r e q
 unfold yBa at e
 split at e
 .rename_i i
  cases e
  obtain ⟨v,rfl,rx⟩:=yzg r
  exact .inl ⟨i,by rw [show v=_ from rx],q _ W rfl (.refl w) rfl⟩
 .rename_i k
  cases e
  obtain ⟨v,rfl,rx⟩:=yzg r
  exact .inr ⟨k,by rw [show v=_ from rx],q _ W rfl (.refl w) rfl⟩
 .cases e
def ybM:List PV->AH->Option (Nd×AH):=fun xs h=>match xs with|[.tup ys]=>some (.lst ys,h)|[x]=>(match listOf x h with|some ys=>some (.lst ys,h)|none=>none)|_=>none
theorem ycB:ytJ K (yHo K.K) ybM:=by
 intro W xs vs Q d h' w r e q
 unfold ybM at e
 split at e
 .rename_i ys
  cases e
  obtain ⟨v,rfl,a,us,rfl,hs,rs⟩:=yzg r
  exact ⟨a,us,rfl,.inr (yej w hs),fun p hp=>yLU w hp rs q⟩
 .rename_i x _
  split at e
  .rename_i ys hy
   cases e
   obtain ⟨v,rfl,rx⟩:=yzg r
   obtain ⟨a,us,rfl,hs,rs⟩:=ylK w hy rx
   exact ⟨a,us,rfl,.inl hs,fun p hp=>yLU w hp rs q⟩
  .cases e
 .cases e
def intsOf:List PV->Option (List Int)
 | []=>some []
 | .int s::r=>(intsOf r).map (s::·)
 | _=>none
theorem ylL:∀ ss:List Int,intsOf (ss.map .int)=some ss
 | []=>rfl
 | s::ss=>by show (intsOf (ss.map .int)).map _=_;rw [ylL ss];rfl
theorem yqJ {F:Hp}{m:List Addr}:∀ {xs:List PV}{ss:List Int}{vs:List V},intsOf xs=some ss->RepL K F m xs vs->vs=ss.map V.int
 | [],_,_,e,r=>by cases e;exact r
 | x::xs,ss,_,e,⟨v,r',ev,h,l⟩=>by
  cases x<;>try cases e
  rename_i s
  obtain ⟨ts,e1,e2⟩:=Option.map_eq_some_iff.mp e
  subst e2
  rw [ev,show v=_ from h,yqJ e1 l];rfl
def yDr:List PV->AH->Option (PV×AH):=fun xs h=>match xs with|[x]=>(match ydG x h with|some ys=>(match intsOf ys with|some ns=>some (.int ns.sum,h)|none=>none)|none=>none)|_=>none
theorem yEr:yry K yOc yDr:=by
 intro W xs vs Q z h' w r e q
 unfold yDr at e
 split at e
 .split at e
  .rename_i ys hy
   split at e
   .rename_i ns hn
    cases e
    obtain ⟨v,rfl,rx⟩:=yzg r
    obtain ⟨a,us,rfl,hs,rs⟩:=ybH w hy rx
    have:=yqJ hn rs
    subst this
    exact ⟨a,ns,rfl,hs,q _ W rfl (.refl w) rfl⟩
   .cases e
  .cases e
 .cases e
def isStr:PV->AH->Bool:=fun x _=>match x with|.str _=>true|_=>false
noncomputable def ynX:PM:=fun x xs h=>match x,xs with|.str z,[.str s]=>(match s.cps.toList with|[c]=>if z.length<=1000/\c∈z.cps.toList then some (.int (z.cps.toList.idxOf c),h) else none|_=>none)|_,_=>none
theorem yEs:ytK K "str" isStr yAC ynX:=by
 refine ⟨fun W x v w r c=>?_,fun W x v xs vs Q z h' w rx r e q=>?_⟩
 .unfold isStr at c
  split at c
  .rw [show v=_ from r];rfl
  .cases c
 .unfold ynX at e
  split at e
  .rename_i z s
   split at e
   .rename_i c hc
    split at e
    .rename_i hl
     cases e
     obtain ⟨u,rfl,ru⟩:=yzg r
     exact ⟨z,c,rx,by rw [show u=_ from ru,one_sign hc],hl.1,hl.2,q _ W rfl (.refl w) rfl⟩
    .cases e
   .cases e
  .cases e
end PX
namespace PX
open PySem L2
variable {K:Ck}
noncomputable def putN (f:Str) (x:PV) (ns:List Str) (xs:List PV):List Str×List PV:=if f∈ns then (ns,xs.set (ns.idxOf f) x) else (ns++[f],xs++[x])
theorem yyb (f:Str) (y:V):∀ (ns:List Str) (vs:List V),vs.length=ns.length->yqH f y (ns.zip vs)=if f∈ns then ns.zip (vs.set (ns.idxOf f) y) else (ns++[f]).zip (vs++[y])
 | [],[],_=>by simp [yqH]
 | n::ns,v::vs,hl=>by
  have ih:=yyb f y ns vs (by simpa using hl)
  show (if n=f then (n,y)::ns.zip vs else (n,v)::yqH f y (ns.zip vs))=_
  by_cases h:n=f
  .subst h
   simp [List.idxOf_cons_self]
  .have h':¬ f=n:=fun z=>h z.symm
   have hb:(n == f)=false:=by simpa using h
   rw [if_neg h,ih]
   by_cases hm:f∈ns
   .simp [hm,h',idxOf_cons,hb]
   .simp [hm,h']
theorem yqK {f:Str}:∀ {ns:List Str}{vs:List V},vs.length=ns.length->f∈ns->(ns.zip vs).lookup f=vs[ns.idxOf f]?
 | [],_,_,h=>by simp at h
 | n::ns,v::vs,hl,h=>by
  show List.lookup f ((n,v)::ns.zip vs)=_
  by_cases hn:f=n
  .subst hn
   rw [yMF,List.idxOf_cons_self];rfl
  .rw [yKb hn,yqK (by simpa using hl) (by simpa [hn] using h)]
   have hb:(n == f)=false:=by simpa using fun z:n=f=>hn z.symm
   simp [idxOf_cons,hb]
theorem yeN {f:Str}:∀ {ns:List Str}{vs:List V},f∉ns->(ns.zip vs).lookup f=none
 | [],_,_=>by simp
 | n::ns,[],_=>by simp
 | n::ns,v::vs,h=>by
  show List.lookup f ((n,v)::ns.zip vs)=_
  rw [yKb (fun z:f=n=>h (by rw [z];exact mem_cons_self)),yeN fun z=>h (mem_cons_of_mem _ z)]
noncomputable def yhE (x:PV) (h:AH):Option (Nat×List Str×List PV):=match x with|.ins k ns xs=>some (k,ns,xs)|.loc n=>(match h[n]? with|some (.ins k ns xs)=>some (k,ns,xs)|_=>none)|_=>none
theorem ykE {W:Wd}(w:WOk K W) {x:PV}{v:V}{k:Nat}{ns:List Str}{xs:List PV}(e:yhE x W.h=some (k,ns,xs)) (r:ydh K W x v):∃ a dx vs,v=.ref a/\W.H a=some (.ins (K.A k) dx (ns.zip vs))/\vs.length=ns.length/\ydF K W xs vs:=by
 unfold yhE at e
 split at e
 .cases e
  obtain ⟨a,dx,vs,ev,hs,hl,rs⟩:=r
  exact ⟨a,dx,vs,ev,w.le _ _ hs,hl,rs⟩
 .rename_i n
  split at e
  .rename_i hn
   cases e
   obtain ⟨a,ev,hm,hf,dx,vs,hp,hl,rs⟩:=w.loc hn r
   exact ⟨a,dx,vs,ev,hp,hl,rs⟩
  .cases e
 .cases e
def ycg (cs:List Nat) (f:Str) (e:XE):XE:=fun ρ h=>ob (e ρ h) fun x h1=>match yhE x h1 with|some (k,ns,xs)=>if k∈cs/\f∈ns then (match xs[ns.idxOf f]? with|some y=>some (y,h1)|none=>none) else none|none=>none
theorem yHT {cs:List Nat}{f:Str}{ta:TE}{ea:XE}(hc:∀ k∈cs,Cls K.K (K.A k)/\NoAttr K.K (K.A k) f) (a:ybZ K ta ea):ybZ K (yNU K.K ta f) (ycg cs f ea):=by
 intro W0 W ρ σ Q z h' g e q
 obtain ⟨x,h1,e1,f1⟩:=yj e
 refine a W0 W ρ σ _ x h1 g e1 fun v W1 w1 l1 r1=>?_
 subst w1
 split at f1
 .rename_i k ns xs hi
  split at f1
  .rename_i c
   split at f1
   .rename_i y hy
    cases f1
    obtain ⟨a,dx,vs,ev,hp,hl,rs⟩:=ykE l1.ok hi r1
    obtain ⟨u,h2,h3⟩:=rs.get hy
    exact ⟨a,_,dx,_,u,ev,hp,(hc k c.1).1,(hc k c.1).2,by rw [yqK hl c.2];exact h2,q _ W1 rfl l1 h3⟩
   .cases f1
  .cases f1
 .cases f1
def ydj (cs:List Nat) (i:Nat) (f:Str) (e:XE):XS:=fun ρ h=>ob (e ρ h) fun x h1=>match ρ[i]? with
 | some (.own (.ins k ns xs))=>if k∈cs/\ns.length<1000 then some (.nx (ρ.set i (.own (.ins k (putN f x ns xs).1 (putN f x ns xs).2))),h1) else none
 | _=>none
theorem RepL.putN {F:Hp}{m:List Addr}{f:Str}{x:PV}{v:V}{ns:List Str}{xs:List PV}{vs:List V}(r:RepL K F m xs vs) (hl:vs.length=ns.length) (rx:Rep K F m x v) :
  ∃ us,yqH f v (ns.zip vs)=(PX.putN f x ns xs).1.zip us/\us.length=(PX.putN f x ns xs).1.length/\RepL K F m (PX.putN f x ns xs).2 us:=by
 rw [yyb f v ns vs hl]
 unfold PX.putN
 by_cases h:f∈ns
 .rw [if_pos h,if_pos h]
  exact ⟨_,rfl,by rw [length_set];exact hl,r.set _ rx⟩
 .rw [if_neg h,if_neg h]
  exact ⟨_,rfl,by rw [length_append,length_append,hl];rfl,r.snoc rx⟩
noncomputable def yDs (K:Ck) (t:TS) (s:XS):Prop:=∀ (W0 W:Wd) (ρ ρ':PSt) (σ:St) (D:Ends) (h':AH),Good K W0 W ρ σ->s ρ W.h=some (.nx ρ',h')->(∀ W',W'.h=h'->Lf K W W'->Good K W0 W' ρ' σ->D.nx σ W'.H)->t D σ W.H
theorem yEt {cs:List Nat}{i:Nat}{f:Str}{ta:TE}{ea:XE}(hc:∀ k∈cs,Cls K.K (K.A k)/\NoAttr K.K (K.A k) f) (a:ybZ K ta ea):yDs K (yMm K.K (yzX i) ta f) (ydj cs i f ea):=by
 intro W0 W ρ ρ' σ D h' g e q
 obtain ⟨x,h1,e1,f1⟩:=yj e
 split at f1
 .rename_i k ns xs hi
  split at f1
  .rename_i c
   cases f1
   refine a W0 W ρ σ _ x _ g e1 fun v W1 w1 l1 r1=>?_
   have g1:=g.step l1
   obtain ⟨p,b1,b2,b3,b4,b5,dx,vs,b6,b7,b8⟩:=g1.own i _ hi
   obtain ⟨us,p1,p2,p3⟩:=b8.putN (f:=f) b7 r1
   refine ⟨_,b1,p,_,dx,_,rfl,b6,(hc k c.1).1,(hc k c.1).2,by rw [length_zip,b7];simpa using c.2,?_⟩
   rw [p1]
   exact q (yGb W1 p _) w1 (yAS l1 b2) (g1.mut hi b1 b2 b3 b5 (fun z=>by cases z) ⟨b5,dx,us,yP,p2,p3⟩)
  .cases f1
 .cases f1
theorem yEu {t u:TS}{s s':XS}(a:yDs K t s) (b:yDs K u s'):yDs K (yMc t u) (yw s s'):=by
 intro W0 W ρ ρ' σ D h' g e q
 obtain ⟨o1,h1,e1,f1⟩:=yj e
 cases o1 with
 | nx ρ1=>exact a W0 W ρ ρ1 σ _ h1 g e1 fun W1 w1 l1 g1=>b W0 W1 ρ1 ρ' σ D h' g1 (by rw [w1];exact f1) fun W2 w2 l2 g2=>q W2 w2 (l1.trans l2) g2
 | rt y=>cases f1
 | bk y=>cases f1
 | ct y=>cases f1
def ytN (N:Nat) (k:Nat) (s:XS):List PV->AH->Option (Nd×AH):=fun xs h=>ob (s (.own (.ins k [] [])::(xs.map .val++replicate (N-(xs.length+1)) .no)) h) fun o h1=>match o with|.nx ρ=>(match ρ[0]? with|some (PVar.own d)=>some (d,h1)|_=>none)|_=>none
def spI (K:Ck) (n k:Nat) (f:List PV->AH->Option (Nd×AH)):Sp:=fun vs H Q _=>∃ (W:Wd) (x dx:Addr) (args:List V) (xs:List PV) (d:Nd) (h':AH),vs=.ref x::args/\W.H x=none/\W.H dx=none/\dx≠x/\H=upd (upd W.H dx (.own x)) x (.ins (K.A k) dx []) /\
 WOk K W/\ydF K W xs args/\xs.length=n/\f xs W.h=some (d,h')/\∀ W',W'.h=h'->Le K W W'->x∉W'.m->d≠.dead->NdAt K W'.F W'.H W'.m d x->Q .non W'.H
theorem yHU {n k:Nat}{f} {vs:List V}{H:Hp}{Q:VK}{E:XK}(h:spI K n k f vs H Q E):vs.length=n+1:=by
 obtain ⟨W,x,dx,args,xs,d,h',rfl,_,_,_,_,w,r,hn,_⟩:=h
 rw [length_cons,r.len,hn]
theorem yEv {N:List Str}{n k:Nat}{t:TS}{s:XS}{vs:List V}{H:Hp}{Q:VK}{E:XK}{bk ct:St->Hp->Prop}(hN:n+1<=N.length) (a:yDs K t s) (h:spI K n k (ytN N.length k s) vs H Q E):t ⟨fun _ H'=>Q .non H',Q,bk,ct⟩ (L2.start N vs) H:=by
 obtain ⟨W,x,dx,args,xs,d,h',rfl,hx,hd,hne,rfl,w,r,hn,e,q⟩:=h
 obtain ⟨o,h1,e1,f1⟩:=yj e
 have l1:Le K W (yqb W dx (.own x)):=yei w hd
 have hx1:(yqb W dx (.own x)).H x=none:=(yX hne.symm).trans hx
 have l2:Le K (yqb W dx (.own x)) (yqb (yqb W dx (.own x)) x (.ins (K.A k) dx [])):=yei l1.ok hx1
 have l:=l1.trans l2
 have gs:=ylJ (K:=K) (N:=N.drop 1) w r
 have g:Good K W (yqb (yqb W dx (.own x)) x (.ins (K.A k) dx [])) (.own (.ins k [] [])::(xs.map .val++replicate (N.length-(xs.length+1)) .no)) (L2.start N (.ref x::args)):=by
  have es:L2.start N (.ref x::args)=some (.ref x)::L2.start (N.drop 1) args:=by
   have e3:N.length-(args.length+1)=(N.drop 1).length-args.length:=by rw [length_drop];omega
   unfold L2.start
   rw [map_cons,List.cons_append,length_cons,e3]
  have eN:N.length-(xs.length+1)=(N.drop 1).length-xs.length:=by rw [length_drop];omega
  rw [es,eN]
  have gs':=gs.step l
  have noown:∀ (j:Nat) (d:Nd),(xs.map PVar.val++replicate ((N.drop 1).length-xs.length) .no)[j]?≠some (.own d):=fun j d z=>by
   by_cases hj:j<xs.length
   .rw [getElem?_append_left (by simpa using hj),getElem?_map,List.getElem?_eq_getElem hj] at z
    cases z
   .rw [getElem?_append_right (by simp;omega),getElem?_replicate] at z
    split at z<;>cases z
  refine ⟨l,by rw [length_cons,length_cons,gs.len],fun j y z=>?_,fun j d z=>?_,fun i j d d' hij z z'=>?_⟩
  .cases j with
   | zero=>cases z
   | succ j=>exact gs'.val j y z
  .cases j with
   | zero=>cases z;exact ⟨x,rfl,w.out hx,hx,(fun z=>by cases z),w.ff hx,dx,[],yP,rfl,rfl⟩
   | succ j=>exact absurd z (noown j d)
  .cases i with
   | zero =>
    cases j with
    | zero=>exact absurd rfl hij
    | succ j=>exact absurd z' (noown j d')
   | succ i=>exact absurd z (noown i d)
 cases o with
 | rt y=>cases f1
 | bk ρ=>cases f1
 | ct ρ=>cases f1
 | nx ρ =>
  refine a W _ _ ρ _ _ h1 g e1 fun W' ew lf g'=>?_
  dsimp only at f1
  split at f1
  .rename_i d' hd'
   cases f1
   obtain ⟨p,b1,b2,b3,b4,b5⟩:=g'.own 0 _ hd'
   have b1:some (some (V.ref x))=some (some (V.ref p)):=b1
   cases b1
   exact q W' ew g'.le b2 b4 b5
  .cases f1
def ykF (f:List PV->AH->Option (Nd×AH)) (a:XA):XO:=fun ρ h=>ob (a ρ h) f
theorem yyc {n k:Nat}{f} {ex:XK}{t:TA}{e:XA}(a:ytH K t e) (hn:∀ ρ h xs h',e ρ h=some (xs,h')->xs.length=n):yxV K (yHh (K.A k) (spI K n k f) [] ex t) (ykF f e):=by
 intro W0 W ρ σ Q d h' g e' q
 obtain ⟨xs,h1,e1,e2⟩:=yj e'
 refine a W0 W ρ σ _ xs h1 g e1 fun vs W1 w1 l1 r1=>?_
 subst w1
 intro x dx hx hd hne
 rw [append_nil]
 exact ⟨W1,x,dx,vs,xs,d,h',rfl,hx,hd,hne,rfl,l1.ok,r1,hn _ _ _ _ e1,e2,fun W2 w2 l2 hm hdd at_=>⟨rfl,q x W2 w2 (l1.trans l2) hm (l1.fresh hx) hdd at_⟩⟩
def yyd (k:Nat):XO:=fun _ h=>some (.ins k [] [],h)
theorem yBb {k:Nat}:yxV K (yFV (K.A k)) (yyd k):=by
 intro W0 W ρ σ Q d h' g e q
 cases e
 intro x dx hx hd hne
 have w:=g.ok
 have l1:Le K W (yqb W dx (.own x)):=yei w hd
 have hx1:(yqb W dx (.own x)).H x=none:=(yX hne.symm).trans hx
 have l2:Le K (yqb W dx (.own x)) (yqb (yqb W dx (.own x)) x (.ins (K.A k) dx [])):=yei l1.ok hx1
 exact q x (yqb (yqb W dx (.own x)) x (.ins (K.A k) dx [])) rfl (l1.trans l2) (w.out hx) hx (fun z=>by cases z) ⟨w.ff hx,dx,[],yP,rfl,rfl⟩
def yzh (m:Str) (f:Nat->Fn) (e:XE):XE:=fun ρ h=>ob (e ρ h) fun x h1=>match yhE x h1 with|some (k,ns,_)=>if m∈ns then none else f k [x] h1|none=>none
theorem yEw {m:Str}{f:Nat->Fn}{ta:TE}{ea:XE}(a:ybZ K ta ea):ybZ K (yFW K.A m (fun k=>spE K 1 (f k)) ta) (yzh m f ea):=by
 intro W0 W ρ σ Q z h' g e q
 obtain ⟨x,h1,e1,f1⟩:=yj e
 refine a W0 W ρ σ _ x h1 g e1 fun v W1 w1 l1 r1=>?_
 subst w1
 split at f1
 .rename_i k ns xs hi
  split at f1
  .cases f1
  .rename_i hm
   obtain ⟨b,dx,vs,ev,hp,hl,rs⟩:=ykE l1.ok hi r1
   exact ⟨b,k,dx,_,ev,hp,yeN hm,W1,[x],z,h',rfl,l1.ok,⟨v,[],rfl,r1,rfl⟩,rfl,f1,fun u W2 w2 l2 r2=>q u W2 w2 (l1.trans l2) r2⟩
 .cases f1
def yHV (tb:List (Nat×Nat×Bool)) (x c:PV) (h:AH):Option Bool:=match c with
 | .ty n=>(match x with
  | .int _=>if n = "int" then some true else if n = "bool"\/n = "str"\/n = "list"\/n = "tuple"\/n = "dict" then some false else none
  | .bl _=>if n = "int"\/n = "bool" then some true else if n = "str"\/n = "list"\/n = "tuple"\/n = "dict" then some false else none
  | .str _=>if n = "str" then some true else if n = "int"\/n = "bool"\/n = "list"\/n = "tuple"\/n = "dict" then some false else none
  | .non=>if n = "int"\/n = "bool"\/n = "str"\/n = "list"\/n = "tuple"\/n = "dict" then some false else none
  | .tup _=>if n = "tuple" then some true else if n = "int"\/n = "bool"\/n = "str"\/n = "list"\/n = "dict" then some false else none
  | _=>(match ydG x h with|some _=>if n = "list" then some true else if n = "int"\/n = "bool"\/n = "str"\/n = "tuple"\/n = "dict" then some false else none|none=>none))
 | .cls c'=>(match yhE x h with|some (k,_)=>(tb.find? fun r=>r.1 == k && r.2.1 == c').map (·.2.2)|none=>none)
 | _=>none
def yfi (tb:List (Nat×Nat×Bool)):List PV->AH->Option (PV×AH):=fun xs h=>match xs with|[x,c]=>(match yHV tb x c h with|some b=>some (.bl b,h)|none=>none)|_=>none
theorem ydm {tb:List (Nat×Nat×Bool)}(ht:∀ r∈tb,∀ (H:Hp) (a dx:Addr) (fs:List (Str×V)),H a=some (.ins (K.A r.1) dx fs)->IsI K.K H (.ref a) (.ref (K.A r.2.1)) r.2.2):yry K (yOa K.K) (yfi tb):=by
 intro W xs vs Q z h' w r e q
 unfold yfi at e
 split at e
 .rename_i x c
  split at e
  .rename_i b hb
   cases e
   obtain ⟨v,u,rfl,rx,ru⟩:=yOf r
   refine ⟨v,u,b,rfl,?_,q _ W rfl (.refl w) rfl⟩
   unfold yHV at hb
   split at hb
   .rename_i n
    obtain rfl:u=.ty n:=ru
    split at hb
    .rw [show v=_ from rx]
     repeat' split at hb
     all_goals cases hb
     .rename_i hn;subst hn;exact ywa
     .rename_i hn;rcases hn with rfl|rfl|rfl|rfl|rfl
      .exact ytr
      .exact ywg
      .exact ytt
      .exact yrt
      .exact ytu
    .rw [show v=_ from rx]
     repeat' split at hb
     all_goals cases hb
     .rename_i hn;rcases hn with rfl|rfl
      .exact yyY
      .exact ywc
     .rename_i hn;rcases hn with rfl|rfl|rfl|rfl
      .exact yyZ
      .exact ywh
      .exact ytv
      .exact ywi
    .rw [show v=_ from rx]
     repeat' split at hb
     all_goals cases hb
     .rename_i hn;subst hn;exact ywd
     .rename_i hn;rcases hn with rfl|rfl|rfl|rfl|rfl
      .exact ywj
      .exact ytw
      .exact ytx
      .exact yru
      .exact yty
    .rw [show v=_ from rx]
     repeat' split at hb
     all_goals cases hb
     .rename_i hn;rcases hn with rfl|rfl|rfl|rfl|rfl|rfl
      .exact ywb
      .exact ytz
      .exact ywk
      .exact ytA
      .exact yrv
      .exact ytB
    .obtain ⟨a,us,rfl,hs,_⟩:=rx
     have hp:(∃ xs,W.H a=some (.tup xs))\/∃ o,K.K.lookup a=some o/\o.cls=.type "tuple":=hs.elim (fun h=>.inl ⟨_,w.le _ _ h⟩) fun ⟨o,its,n,e1,e2,_⟩=>.inr ⟨o,e1,e2⟩
     repeat' split at hb
     all_goals cases hb
     .rename_i hn;subst hn;exact yrx hp
     .rename_i hn;rcases hn with rfl|rfl|rfl|rfl|rfl
      .exact ywn hp
      .exact ytE hp
      .exact ywo hp
      .exact ytF hp
      .exact ytG hp
    .split at hb
     .rename_i ys hy
      obtain ⟨a,us,rfl,hp,_⟩:=ybH w hy rx
      repeat' split at hb
      all_goals cases hb
      .rename_i hn;subst hn;exact yts hp
      .rename_i hn;rcases hn with rfl|rfl|rfl|rfl|rfl
       .exact ywl hp
       .exact ytC hp
       .exact ywm hp
       .exact yrw hp
       .exact ytD hp
     .cases hb
   .rename_i c'
    obtain rfl:u=.ref (K.A c'):=ru
    split at hb
    .rename_i k p hi
     obtain ⟨r',h1,h2⟩:=Option.map_eq_some_iff.mp hb
     have hm:=List.mem_of_find?_eq_some h1
     have hp:=List.find?_some h1
     simp only [and_eq_true,beq_iff_eq] at hp
     obtain ⟨a,dx,us,rfl,hs,_⟩:=ykE w hi rx
     obtain ⟨p1,p2⟩:=hp
     have:=ht r' hm W.H a dx (p.1.zip us) (by rw [p1];exact hs)
     rw [p2,h2] at this
     exact this
    .cases hb
   .cases hb
  .cases e
 .cases e
end PX
namespace PX
open PySem L2
section
variable {ρ:PSt}{h h1:AH}{x y z:PV}{a b c:XE}{ca cb:XT}{aa:XA}{eo:XO}{s u:XS}{i:Nat}{p:P2}
theorem yB {α β:Type}{x:α}{h:AH}{f:α->AH->Option β}:ob (some (x,h)) f=f x h:=id rfl
theorem yMH {α β:Type}{f:α->AH->Option β}:ob (none:Option (α×AH)) f=none:=id rfl
theorem yEx {α β γ:Type}{o:Option (α×AH)}{f:α->AH->Option (β×AH)}{g:β->AH->Option γ}:ob (ob o f) g=ob o fun x h=>ob (f x h) g:=by cases o<;>rfl
theorem yMI {α β:Type}{q:Prop} [Decidable q] {o o':Option (α×AH)}{f:α->AH->Option β}:ob (if q then o else o') f=if q then ob o f else ob o' f:=by split<;>rfl
theorem yBc:yd 0 (.val x::ρ) h=some (x,h):=id rfl
theorem yGe {v:PVar}{n:Nat}:yd (n+1) (v::ρ) h=yd n ρ h:=by simp [yd]
theorem x_c:xC x ρ h=some (x,h):=id rfl
theorem yKw:xOp p a b ρ h=ob (a ρ h) fun x h1=>ob (b ρ h1) fun y h2=>p x y h2:=id rfl
theorem yMJ {p:P2O}:yAG p a b ρ h=ob (a ρ h) fun x h1=>ob (b ρ h1) fun y h2=>p x y h2:=id rfl
theorem yOE {p}:xUn p a ρ h=ob (a ρ h) fun x h1=>p x h1:=id rfl
theorem yOg {k:Bool}:oB (.bl k) h=some (k,h):=id rfl
theorem yHW {p p':P2}:ytI p p' a b c ρ h=ob (a ρ h) fun x h1=>ob (b ρ h1) fun y h2=>ob (p x y h2) fun z h3=>ob (oB z h3) fun k h3=>if k=true then ob (c ρ h3) fun w h4=>p' y w h4 else some (.bl false,h3):=id rfl
theorem yGf:yt a ρ h=ob (a ρ h) oB:=id rfl
theorem yKx:ywp a b ρ h=ob (a ρ h) fun x h1=>ob (oB x h1) fun k h1=>if k=true then b ρ h1 else some (.bl false,h1):=id rfl
theorem yKy:yDT a ρ h=ob (a ρ h) fun x h1=>ob (oB x h1) fun k h1=>some (.bl (!k),h1):=id rfl
theorem yMK:yAH ca cb ρ h=ob (ca ρ h) fun k h1=>if k=true then cb ρ h1 else some (false,h1):=id rfl
theorem yOF:xOr ca cb ρ h=ob (ca ρ h) fun k h1=>if k=true then some (true,h1) else cb ρ h1:=id rfl
theorem yML:yDU ca ρ h=ob (ca ρ h) fun k h1=>some (!k,h1):=id rfl
theorem yOG:xIf ca a b ρ h=ob (ca ρ h) fun k h1=>if k=true then a ρ h1 else b ρ h1:=id rfl
theorem yzi:yn ρ h=some ([],h):=id rfl
theorem ytO:yb a aa ρ h=ob (a ρ h) fun x h1=>ob (aa ρ h1) fun xs h2=>some (x::xs,h2):=id rfl
theorem yKz:yeD aa ρ h=ob (aa ρ h) fun xs h1=>if xs.length<=1000 then some (.tup xs,h1) else none:=id rfl
theorem yMM:ygf aa ρ h=ob (aa ρ h) fun xs h1=>if xs.length<=1000 then some (.lst xs,h1) else none:=id rfl
def fzN:Nd->AH->Option (PV×AH)
 | .lst xs,h=>some (.lst xs,h)
 | .ins k ns xs,h=>some (.ins k ns xs,h)
 | _,_=>none
theorem yMN:xFz eo ρ h=ob (eo ρ h) fzN:=by
 unfold xFz;congr;funext d h1;cases d<;>rfl
theorem yMO {xs:List PV}:fzN (.lst xs) h=some (.lst xs,h):=id rfl
theorem yMP {k:Nat}{ns:List Str}{xs:List PV}:fzN (.ins k ns xs) h=some (.ins k ns xs,h):=id rfl
theorem yHX:ygw eo ρ h=ob (eo ρ h) fun d h1=>some (.loc h1.length,h1++[d]):=id rfl
theorem x_call {f:Fn}:yba f aa ρ h=ob (aa ρ h) f:=id rfl
theorem yOH {f}:xCB f aa ρ h=ob (aa ρ h) f:=id rfl
theorem yKA {f}:ykC f aa ρ h=ob (aa ρ h) f:=id rfl
theorem yKB {q} {p:PM}:xBM q p a aa ρ h=ob (a ρ h) fun x h1=>if q x h1=true then ob (aa ρ h1) fun xs h2=>p x xs h2 else none:=id rfl
theorem yHY {s:Str}:isStr (.str s) h=true:=id rfl
theorem yKC {f}:ykF f aa ρ h=ob (aa ρ h) f:=id rfl
theorem yHZ {k:Nat}:yyd k ρ h=some (.ins k [] [],h):=id rfl
theorem yGg:yV ρ h=some (.nx ρ,h):=id rfl
noncomputable def sqK (u:XS):Out->AH->Option (Out×AH)
 | .nx ρ,h=>u ρ h
 | .rt x,h=>some (.rt x,h)
 | .bk ρ,h=>some (.bk ρ,h)
 | .ct ρ,h=>some (.ct ρ,h)
theorem ykG:yw s u ρ h=ob (s ρ h) (sqK u):=by
 unfold yw;congr;funext o h1;cases o<;>rfl
theorem ywv:sqK u (.nx ρ) h=u ρ h:=id rfl
theorem yMQ:sqK u (.rt x) h=some (.rt x,h):=id rfl
theorem ynY:ydi a ρ h=ob (a ρ h) fun _ h1=>some (.nx ρ,h1):=id rfl
theorem yBd:ybg a ρ h=ob (a ρ h) fun x h1=>some (.rt x,h1):=id rfl
theorem yKD:ybv ca s u ρ h=ob (ca ρ h) fun k h1=>if k=true then s ρ h1 else u ρ h1:=id rfl
theorem yzj {g:XG}:ybA a g ρ h=ob (a ρ h) fun x h1=>(g x ρ).bind fun ρ'=>some (.nx ρ',h1):=id rfl
theorem yKE:yrA eo i ρ h=ob (eo ρ h) fun d h1=>some (.nx (ρ.set i (.own d)),h1):=id rfl
theorem yKF:yx i x ρ=some (ρ.set i (.val x)):=id rfl
theorem yMR:yEc i s ρ h=s (yws i ρ) h:=id rfl
theorem yMS {v:PVar}:yws 0 (v::ρ)=yEb v::ρ:=id rfl
theorem yMT {v:PVar}{n:Nat}:yws (n+1) (v::ρ)=v::yws n ρ:=id rfl
theorem yMU {xs:List PV}:yEb (.own (.lst xs))=.val (.lst xs):=id rfl
theorem yIa {it:XA}{g:XG}:yxY it g s ρ h=ob (it ρ h) fun xs h1=>ymz g s xs ρ h1:=id rfl
def frK (g:XG) (s:XS) (xs:List PV):Out->AH->Option (Out×AH)
 | .nx ρ,h=>ymz g s xs ρ h
 | .ct ρ,h=>ymz g s xs ρ h
 | .bk ρ,h=>some (.nx ρ,h)
 | .rt y,h=>some (.rt y,h)
theorem yBe {g:XG}{xs:List PV}:ymz g s (x::xs) ρ h=(g x ρ).bind fun ρ1=>ob (s ρ1 h) (frK g s xs):=by
 unfold ymz;congr;funext ρ1;congr;funext o h1;cases o<;>rfl
theorem yMV {g:XG}{xs:List PV}:frK g s xs (.nx ρ) h=ymz g s xs ρ h:=id rfl
theorem yMW {g:XG}{xs:List PV}:frK g s xs (.rt x) h=some (.rt x,h):=id rfl
def fnK:Out->AH->Option (PV×AH)
 | .rt x,h=>some (x,h)
 | .nx _,h=>some (.non,h)
 | _,_=>none
theorem yC {N:Nat}{xs:List PV}:ycI N s xs h=ob (s (xs.map .val++replicate (N-xs.length) .no) h) fnK:=by
 unfold ycI;congr;funext o h1;cases o<;>rfl
theorem yMX:fnK (.rt x) h=some (x,h):=id rfl
theorem yMY:fnK (.nx ρ) h=some (.non,h):=id rfl
def inK:Out->AH->Option (Nd×AH)
 | .nx (.own d::_),h=>some (d,h)
 | _,_=>none
theorem yeO {N k:Nat}{xs:List PV}:ytN N k s xs h=ob (s (.own (.ins k [] [])::(xs.map .val++replicate (N-(xs.length+1)) .no)) h) inK:=by
 unfold ytN;congr;funext o h1;cases o with
 | nx ρ=>cases ρ with
  | nil=>rfl
  | cons v ρ=>cases v<;>rfl
 | _=>rfl
theorem yMZ {d:Nd}:inK (.nx (.own d::ρ)) h=some (d,h):=id rfl
def yfl (cs:List Nat) (f:Str) (x:PV) (h:AH):Option (PV×AH):=match yhE x h with|some (k,ns,xs)=>if k∈cs/\f∈ns then (match xs[ns.idxOf f]? with|some y=>some (y,h)|none=>none) else none|none=>none
theorem yqd {cs:List Nat}{f:Str}:ycg cs f a ρ h=ob (a ρ h) (yfl cs f):=id rfl
theorem yIb {cs:List Nat}{f:Str}{k:Nat}{ns:List Str}{xs:List PV}{y:PV}(hk:k∈cs) (hf:f∈ns) (hy:xs[ns.idxOf f]?=some y):yfl cs f (.ins k ns xs) h=some (y,h):=by
 unfold yfl yhE
 simp [hk,hf,hy]
def ykw (cs:List Nat) (i:Nat) (f:Str) (ρ:PSt) (x:PV) (h:AH):Option (Out×AH):=match ρ[i]? with
 | some (.own (.ins k ns xs))=>if k∈cs/\ns.length<1000 then some (.nx (ρ.set i (.own (.ins k (putN f x ns xs).1 (putN f x ns xs).2))),h) else none
 | _=>none
theorem yKG {cs:List Nat}{f:Str}:ydj cs i f a ρ h=ob (a ρ h) (ykw cs i f ρ):=id rfl
theorem yKH {cs:List Nat}{f:Str}{k:Nat}{ns:List Str}{xs:List PV}(hk:k∈cs) (hl:ns.length<1000) (hf:f∉ns):ykw cs 0 f (.own (.ins k ns xs)::ρ) x h=some (.nx (.own (.ins k (ns++[f]) (xs++[x]))::ρ),h):=by
 unfold ykw putN
 simp [hk,hl,hf]
def yBf (m:Str) (f:Nat->Fn) (x:PV) (h:AH):Option (PV×AH):=match yhE x h with|some (k,ns,_)=>if m∈ns then none else f k [x] h|none=>none
theorem yGh {m:Str}{f:Nat->Fn}:yzh m f a ρ h=ob (a ρ h) (yBf m f):=id rfl
theorem yEy {m:Str}{f:Nat->Fn}{k:Nat}{ns:List Str}{xs:List PV}(hm:m∉ns):yBf m f (.ins k ns xs) h=f k [.ins k ns xs] h:=by
 unfold yBf yhE
 simp [hm]
theorem x_i {g:Int->Int->PV}{i j:Int}:oI g (.int i) (.int j) h=some (g i j,h):=id rfl
theorem yOI {C:Int->Int->Prop} [∀ i j,Decidable (C i j)] {g:Int->Int->PV}{i j:Int}:oIc C g (.int i) (.int j) h=if C i j then some (g i j,h) else none:=id rfl
theorem yKI {i j:Int}(h1:-18446744073709551616<j) (h2:j<18446744073709551616):MulOk i j=True:=eq_true (.inr ⟨h1,h2⟩)
theorem yNa {i j:Int}(h1:0<=i) (h2:i<18446744073709551616) (h3:0<=j) (h4:j<=1000000):yAX i j=True:=eq_true ⟨⟨h1,h2⟩,h3,h4⟩
theorem yNb {i j:Int}:oEq (.int i) (.int j) h=some (.bl (decide (i=j)),h):=by simp [oEq,sv,yGZ]
theorem yNc {i j:Str}:oEq (.str i) (.str j) h=some (.bl (decide (i=j)),h):=by simp [oEq,sv,yGZ]
theorem yNd {i j:Int}:oNe (.int i) (.int j) h=some (.bl (!decide (i=j)),h):=by simp [oNe,sv,yGZ]
theorem yNe:yKs x .non h=some (.bl (isN x),h):=id rfl
theorem yGi {i j:Str}:yEp (.str i) (.str j) h=if i.length+j.length<=100000 then some (.str (i++j),h) else none:=id rfl
theorem yNf {xs:List PV}{i:Int}:ydk (.lst xs) (.int i) h=(atI xs i).bind fun v=>some (v,h):=by
 simp only [ydk];cases atI xs i<;>rfl
theorem yNg {xs:List PV}{i:Int}:ybe (.tup xs) (.int i) h=(atI xs i).bind fun v=>some (v,h):=by
 simp only [ybe];cases atI xs i<;>rfl
theorem yNh {s:Str}{i:Int}:yya (.str s) (.int i) h=(atI s.cps.toList i).bind fun c=>if s.length<=100000 then some (sgn c,h) else none:=by
 simp only [yya];cases atI s.cps.toList i<;>rfl
theorem yNi {xs:List PV}{lo hi:Option Int}:yvP (.lst xs) lo hi h=some (.lst (yqI xs lo hi),h):=id rfl
theorem yNj {xs:List Int}{lo hi:Option Int}:yvP (.scr xs) lo hi h=some (.lst (yqI (xs.map .int) lo hi),h):=id rfl
theorem yNk {xs ys:List PV}:yAY (.lst xs) (.lst ys) h=if xs.length+ys.length<=100000 then some (.lst (xs++ys),h) else none:=id rfl
theorem yOJ {p} {lo hi}:xSl p a lo hi ρ h=ob (a ρ h) fun x h1=>ob (lo ρ h1) fun l h2=>ob (hi ρ h2) fun u h3=>p x l u h3:=id rfl
theorem yNl {p} {lo hi}:yza p a lo hi ρ h=ob (a ρ h) fun x h1=>ob (lo ρ h1) fun l h2=>ob (hi ρ h2) fun u h3=>p x l u h3:=id rfl
theorem yKJ:yhD a ρ h=ob (a ρ h) fun x h1=>match x with|.int i=>some (some i,h1)|_=>none:=id rfl
theorem yEz:yfH ρ h=some (none,h):=id rfl
theorem yGj {xs:List PV}:yfk [.lst xs] h=some (.int xs.length,h):=id rfl
theorem yKK {xs:List PV}:yfk [.tup xs] h=some (.int xs.length,h):=id rfl
theorem yKL {xs:List Int}:yfk [.scr xs] h=some (.int xs.length,h):=id rfl
theorem yKM {z:Str}:yEq [.str z] h=if z.length<=100000 then some (.int z.length,h) else none:=id rfl
theorem yIc {k:Bool}:yBa [.bl k] h=some (.int (if k then 1 else 0),h):=id rfl
theorem yww {xs:List PV}:ybM [.lst xs] h=some (.lst xs,h):=id rfl
theorem yOK {xs:List PV}(e:a ρ h=some (.lst xs,h1)):xIL a ρ h=some (xs,h1):=by unfold xIL;rw [e];rfl
theorem yGk {it:XA}{ix:List Nat}:ynV it ix a ρ h=ob (it ρ h) fun xs h1=>if xs.length<=100000 then ob (yDo a (yEd ix ρ) xs h1) fun ys h2=>some (.lst ys,h2) else none:=id rfl
end
end PX
namespace L2
open PySem PySem.Spec PyProof.Rows
end L2
namespace L2
open PySem PySem.Spec PyProof.Rows
section
variable (P:Program) (w:World)
end
section
variable {P:Program}{w:World}{H H':Hp}{h h':Heap}{a:Addr}{o:HO}
end
section
variable {P:Program}{w:World}{H:Hp}{h h':Heap}{x e:Addr}{o':HO}
end
section
variable {fs fs' ex ex':List Addr}{H H1 H2:Hp}{h h1 h2 h':Heap}{a x e:Addr}{o:HO}
end
end L2
namespace L2
open PySem PySem.Spec PyProof.Rows
section
variable {X:Cx}{pins:List (Addr×Obj)}{σ:List (Option V)}{H H':Hp}{s:Shared}{h':Heap}
end
end L2
namespace L2
open PySem PySem.Spec PyProof.Rows
section
variable {X:Cx}
variable {a b:Expr}{ta tb:TE}{pos:Pos}
variable {tA tB':TT}{rest:List Expr}
end
end L2
namespace L2
open PySem PySem.Spec PyProof.Rows
section
variable {X:Cx}{pins:List (Addr×Obj)}{σ:St}{H:Hp}{s:Shared}{a:Addr}{xs ys:List V}
end
section
variable {X:Cx}{pins:List (Addr×Obj)}{σ:St}{H:Hp}{s:Shared}{E:Value->Shared->Prop}
end
section
variable {X:Cx}{st:Stmt}{rest:List Stmt}{t u:TS}{e:Expr}{te:TE}{pos:Pos}
end
section
variable {X:Cx}{pos:Pos}
end
section
variable {X:Cx}{pos:Pos}
end
end L2
namespace L2
open PySem PySem.Spec PyProof.Rows
section
variable {X:Cx}{tg:Expr}
end
end L2
namespace L2
open PySem PySem.Spec PyProof.Rows
section
variable {X:Cx}{a b c:Expr}{ta tb tc:TE}{pos:Pos}
end
section
variable {X:Cx}{a b c:Expr}{ta tb tc:TE}{pos:Pos}
end
end L2
namespace L2
open PySem PySem.Spec PyProof.Rows
section
variable {prog:Program}{w:World}{A:Around}{E:Value->Shared->Prop}{s:Shared}{K:PySem.W.Frag}{x dx C f:Addr}{mA:Str->Option Value}{name:Str}{v:Value}
end
section
variable {P:Program}{w:World}{H H':Hp}{h h':Heap}{a C dx:Addr}{fs fs':List (Str×V)}
end
section
variable {X:Cx}{pins:List (Addr×Obj)}{σ:St}{H:Hp}{s:Shared}{a C dx:Addr}{fs:List (Str×V)}{f:Str}{v:V}{A:Around}{E:Value->Shared->Prop}
end
section
variable {X:Cx}{o e value:Expr}{f:Str}{pos pos' tpos:Pos}{ta tv:TE}
end
section
variable {X:Cx}{pins:List (Addr×Obj)}{σ:St}{H:Hp}{s:Shared}{A:Around}{E:Value->Shared->Prop}{Q:Value->Shared->Prop}{c:Value}{b:Bool}
end
end L2
namespace L2
open PySem PySem.Spec PyProof.Rows
section
variable {X:Cx}{e:Expr}{es:List Expr}{te:TE}{t:TA}{pos:Pos}
end
section
variable {X:Cx}{pins:List (Addr×Obj)}{σ:St}{H:Hp}{s s':Shared}
end
section
variable {X:Cx}{CX:CXT}{k:Nat}{f C:Addr}{fd:FuncData}{ps:List Str}{sp:Sp}{dvs:List V}{ds:List Value}{E:XK}{x m:Str}{p pos apos:Pos}{e o:Expr}{es:List Expr}{ta:TE}{t:TA}
end
section
variable {X:Cx}{CX:CXT}{k:Nat}{f C:Addr}{fd:FuncData}{ps ks:List Str}{sp:Sp}{E:XK}{x m:Str}{p pos apos kpos:Pos}{e o:Expr}{es:List Expr}{kws:List Keyword}{te ta:TE}{t tk:TA}{nm:Option Str}
variable {g:List Value->List Value->List Value}{gV:List V->List V->List V}
end
end L2
namespace L2
open PySem PySem.Spec PyProof.Rows
section
variable {X:Cx}{x:Str}{p pos:Pos}{e:Expr}{es:List Expr}{t:TA}{id T:String}{r:List V->Hp->VK->Prop}
end
end L2
namespace L2
open PySem PySem.Spec PyProof.Rows
section
variable {κ:Type} [DecidableEq κ]
def ytP (kvs:List (κ×V)) (k:κ):Option V:=(kvs.find? fun kv=>decide (kv.1=k)).map (·.2)
noncomputable def putK (kvs:List (κ×V)) (k:κ) (v:V):List (κ×V) :=
 if (kvs.any fun kv=>decide (kv.1=k))=true then kvs.map (fun kv=>if kv.1=k then (kv.1,v) else kv) else kvs++[(k,v)]
theorem yrB {p:κ×V}{r:List (κ×V)}{k:κ}(e:p.1=k):ytP (p::r) k=some p.2:=by simp [ytP,find?_cons,e]
theorem yrC {p:κ×V}{r:List (κ×V)}{k:κ}(e:¬ p.1=k):ytP (p::r) k=ytP r k:=by simp [ytP,find?_cons,e]
theorem yye (k:κ):∀ kvs:List (κ×V),(kvs.any fun kv=>decide (kv.1=k))=(ytP kvs k).isSome
 | []=>rfl
 | p::r=>by
  rw [any_cons]
  by_cases e:p.1=k
  .simp only [yrB e,decide_eq_true e,Bool.true_or,Option.isSome_some]
  .rw [yrC e,decide_eq_false e,Bool.false_or];exact yye k r
theorem yjv (kvs:List (κ×V)) (k:κ) (v:V):(putK kvs k v).length<=kvs.length+1:=by
 unfold putK
 split
 .rw [length_map];omega
 .rw [length_append,length_cons,length_nil];omega
theorem RelO.isSome_eq {o:Option V}{u:Option Value}(r:RelO o u):o.isSome=u.isSome:=by
 cases o with
 | none=>cases u with
  | none=>rfl
  | some _=>exact (show False from r).elim
 | some _=>cases u with
  | none=>exact (show False from r).elim
  | some _=>rfl
theorem RelO.getD {o:Option V}{u:Option Value}{d:V}{d':Value}(r:RelO o u) (rd:RelV d d'):RelV (o.getD d) (u.getD d'):=by
 cases o with
 | none=>cases u with
  | none=>exact rd
  | some _=>exact (show False from r).elim
 | some _=>cases u with
  | none=>exact (show False from r).elim
  | some _=>exact r
theorem KV.val {kvs:List (κ×V)}{vs:List (κ×Value)}(r:KV kvs vs) (k:κ):RelO (ytP kvs k) (valueAt vs k):=by
 unfold KV at r
 induction r with
 | nil=>exact True.intro
 | @cons p q ps qs h t ih =>
  obtain ⟨h1,h2⟩:=h
  by_cases e:p.1=k
  .have e':q.1=k:=h1.symm.trans e
   have b:valueAt (q::qs) k=some q.2:=by simp [valueAt,find?_cons,e']
   rw [yrB e,b];exact h2
  .have e':¬ q.1=k:=fun z=>e (h1.trans z)
   have b:valueAt (q::qs) k=valueAt qs k:=by simp [valueAt,find?_cons,e']
   rw [yrC e,b];exact ih
theorem KV.any {kvs:List (κ×V)}{vs:List (κ×Value)}(r:KV kvs vs) (k:κ):(kvs.any fun kv=>decide (kv.1=k))=vs.any fun kv=>decide (kv.1=k):=by
 unfold KV at r
 induction r with
 | nil=>rfl
 | cons h t ih=>rw [any_cons,any_cons,ih,h.1]
theorem KV.repl {kvs:List (κ×V)}{vs:List (κ×Value)}(r:KV kvs vs) (k:κ) {y:V}{u:Value}(ry:RelV y u) :
  KV (kvs.map fun kv=>if kv.1=k then (kv.1,y) else kv) (vs.map fun kv=>if kv.1=k then (kv.1,u) else kv):=by
 unfold KV at r ⊢
 induction r with
 | nil=>exact .nil
 | @cons p q ps qs h t ih =>
  rw [map_cons,map_cons]
  refine .cons ?_ ih
  obtain ⟨h1,h2⟩:=h
  by_cases e:p.1=k
  .rw [if_pos e,if_pos (h1.symm.trans e)];exact ⟨h1,ry⟩
  .rw [if_neg e,if_neg (fun z=>e (h1.trans z))];exact ⟨h1,h2⟩
theorem KV.put {kvs:List (κ×V)}{vs:List (κ×Value)}(r:KV kvs vs) (k:κ) {y:V}{u:Value}(ry:RelV y u):KV (putK kvs k y) (stored vs k u):=by
 unfold putK stored
 rw [r.any k]
 by_cases e:(vs.any fun kv=>decide (kv.1=k))=true
 .rw [if_pos e,if_pos e];exact r.repl k ry
 .rw [if_neg e,if_neg e];exact Paired.snoc r ⟨rfl,ry⟩
theorem KV.length {kvs:List (κ×V)}{vs:List (κ×Value)}(r:KV kvs vs):kvs.length=vs.length:=Paired.length r
end
theorem yzk {P:Program}{w:World}{k:Key}{u:Value}(r:RelV (kV k) u):(yco P w).is k u=true:=by
 cases k with
 | inl i=>obtain ⟨t,e⟩:=(show ∃ t,u=Value.int i t from r);subst e;exact yvR P w i t
 | inr x=>obtain ⟨t,e⟩:=(show ∃ t,u=Value.str x t from r);subst e;exact yvS P w x t
theorem ytQ {P:Program}{w:World}:∀ {ks:List Key}{us:List Value},Vals (ks.map kV) us->ItemsAre (yco P w) ks us
 | [],_,r=>by rw [map_nil] at r;cases r;exact .nil
 | k::ks,_,r=>by
  rw [map_cons] at r
  cases r with
  | cons h t=>exact .cons (yzk h) (ytQ t)
abbrev KT (H:Hp):List (List Key×V)->List (List Key×Addr×Value)->Prop:=Paired fun p q=>p.1=q.1/\H q.2.1=some (.tup (p.1.map kV))/\RelV p.2 q.2.2
theorem KT.val {H:Hp}{kvs:List (List Key×V)}{xs:List (List Key×Addr×Value)}(r:KT H kvs xs) (k:List Key):RelO (ytP kvs k) ((atKey xs k).map (·.2)):=by
 induction r with
 | nil=>exact True.intro
 | @cons p q ps qs h t ih =>
  obtain ⟨h1,_,h2⟩:=h
  by_cases e:p.1=k
  .have e':q.1=k:=h1.symm.trans e
   have b:atKey (q::qs) k=some q.2:=by simp [atKey,find?_cons,e']
   rw [yrB e,b];exact h2
  .have e':¬ q.1=k:=fun z=>e (h1.trans z)
   have b:atKey (q::qs) k=atKey qs k:=by simp [atKey,find?_cons,e']
   rw [yrC e,b];exact ih
theorem KT.repl {H:Hp}{kvs:List (List Key×V)}{xs:List (List Key×Addr×Value)}(r:KT H kvs xs) (k:List Key) {y:V}{u:Value}(ry:RelV y u) :
  KT H (kvs.map fun kv=>if kv.1=k then (kv.1,y) else kv) (xs.map (putAt k u)):=by
 induction r with
 | nil=>exact .nil
 | @cons p q ps qs h t ih =>
  rw [map_cons,map_cons]
  refine .cons ?_ ih
  obtain ⟨h1,h2,h3⟩:=h
  unfold putAt
  by_cases e:p.1=k
  .rw [if_pos e,if_pos (h1.symm.trans e)];exact ⟨h1,h2,ry⟩
  .rw [if_neg e,if_neg (fun z=>e (h1.trans z))];exact ⟨h1,h2,h3⟩
theorem KT.put {H:Hp}{kvs:List (List Key×V)}{xs:List (List Key×Addr×Value)}(r:KT H kvs xs) (k:List Key) {b:Addr}{y:V}{u:Value}(hb:H b=some (.tup (k.map kV))) (ry:RelV y u) :
  KT H (putK kvs k y) (storedH xs k b u):=by
 have e:(kvs.any fun kv=>decide (kv.1=k))=(atKey xs k).isSome:=by
  rw [yye,(r.val k).isSome_eq,isSome_map]
 unfold putK storedH
 rw [e]
 by_cases q:(atKey xs k).isSome=true
 .rw [if_pos q,if_pos q];exact r.repl k ry
 .rw [if_neg q,if_neg q];exact Paired.snoc r ⟨rfl,hb,ry⟩
theorem KT.keeps {H H':Hp}{kvs:List (List Key×V)}{xs:List (List Key×Addr×Value)}(r:KT H kvs xs) (ht:∀ b ys,H b=some (.tup ys)->H' b=some (.tup ys)):KT H' kvs xs :=
 Paired.mapP r fun _ _ z=>⟨z.1,ht _ _ z.2.1,z.2.2⟩
section
variable {P:Program}{w:World}{H:Hp}{h:Heap}{a:Addr}
theorem yKN {u:HO}(ok:HOk P w H h) (e:Rd H a u):ObjOk P w H h a u:=e.ok ok
theorem ywx {kvs:List (Key×V)}(ok:HOk P w H h) (e:Rd H a (.dK kvs)):kvs.length<=sizeLine/\(a == sysModules)=false/\∃ vs,KV kvs vs/\h.DictOf (yco P w) a vs :=
 show ObjOk P w H h a (.dK kvs) from yKN ok e
theorem yId {kvs:List (Key×V)}(ok:HOk P w H h) (e:H a=some (.dK kvs)):kvs.length<=sizeLine/\(a == sysModules)=false/\∃ vs,KV kvs vs/\h.DictOf (yco P w) a vs:=ywx ok (.inl e)
theorem yqL {ks:List Key}(ok:HOk P w H h) (e:H a=some (.tup (ks.map kV))):(tupleKind (yco P w)).is h ks a:=by
 obtain ⟨_,its,r,o,h1,h2,n,h3⟩:=(show ObjOk P w H h a (.tup (ks.map kV)) from ok a _ e)
 exact ⟨o,its.toArray,n,h1,h2,h3,by simpa using ytQ r⟩
theorem ywy {kvs:List (List Key×V)}(ok:HOk P w H h) (e:Rd H a (.dT kvs)):kvs.length<=sizeLine/\(a == sysModules)=false /\
  ∃ xs,KT H kvs xs/\h.DictOfH (tupleKind (yco P w)) a xs:=by
 obtain ⟨z,y,xs,r,o,es,ep,h1,h2,h3,h4,h5⟩:=(show ObjOk P w H h a (.dT kvs) from yKN ok e)
 refine ⟨z,y,xs,r,o,es,ep,h1,h2,h3,h4,fun x hx=>?_,h5⟩
 have all:∀ {l:List (List Key×V)}{m:List (List Key×Addr×Value)},KT H l m->∀ x∈m,(tupleKind (yco P w)).is h x.1 x.2.1:=by
  intro l m q
  induction q with
  | nil=>intro x hx;exact nomatch hx
  | @cons p q ps qs hq t ih =>
   intro x hx
   rcases mem_cons.mp hx with e|hx
   .subst e
    exact yqL ok (by rw [<- hq.1];exact hq.2.1)
   .exact ih x hx
 exact all r x hx
theorem yNm {kvs:List (List Key×V)}(ok:HOk P w H h) (e:H a=some (.dT kvs)):kvs.length<=sizeLine/\(a == sysModules)=false /\
  ∃ xs,KT H kvs xs/\h.DictOfH (tupleKind (yco P w)) a xs:=ywy ok (.inl e)
end
noncomputable def DGet (H:Hp) (a:Addr) (y:V) (r:Option V):Prop :=
 (∃ kvs k,Rd H a (.dK kvs)/\y=kV k/\r=ytP kvs k)\/∃ kvs k b,Rd H a (.dT kvs)/\y=.ref b/\H b=some (.tup (k.map kV))/\r=ytP kvs k
def DPut (H:Hp) (a:Addr) (y v:V) (H':Hp):Prop :=
 (∃ kvs k,H a=some (.dK kvs)/\y=kV k/\kvs.length<sizeLine/\H'=upd H a (.dK (putK kvs k v))) \/
 ∃ kvs k b,H a=some (.dT kvs)/\y=.ref b/\H b=some (.tup (k.map kV))/\kvs.length<sizeLine/\H'=upd H a (.dT (putK kvs k v))
theorem DPut.k {H:Hp}{a:Addr}{kvs:List (Key×V)}{k:Key}{v:V}(e:H a=some (.dK kvs)) (hl:kvs.length<sizeLine):DPut H a (kV k) v (upd H a (.dK (putK kvs k v))):=.inl ⟨kvs,k,e,rfl,hl,rfl⟩
section
variable {X:Cx}{pins:List (Addr×Obj)}{σ:St}{H:Hp}{s:Shared}{a:Addr}{y v:V}{u r:Value}{o:Option V}{A:Around}{E:Value->Shared->Prop}
theorem Inv.big (I:Inv X pins σ H s):sysModules<s.heap.objs.size:=by
 have h:mainGlobals<s.heap.objs.size:=(I.mod.glob.keeps I.bk).lt
 exact Nat.lt_trans (by decide) h
theorem yBg {Q:Value->Shared->Prop}(hu:A.units+1<cLine) (I:Inv X pins σ H s) (g:DGet H a y (some v)) (ry:RelV y u) (h:∀ w' s',Inv X pins σ H s'->RelV v w'->Q w' s') :
  wpAny (model X.prog X.w) A (getItem (.ref a) u) Q E s:=by
 rcases g with ⟨kvs,k,e,ey,l⟩|⟨kvs,k,b,e,ey,eb,l⟩
 .subst ey
  obtain ⟨z,hd,vs,rel,dd⟩:=ywx I.hok e
  obtain ⟨w',hw,rw'⟩:=RelO.some_of (v:=v) (o:=valueAt vs k) (by rw [l];exact rel.val k)
  exact wpAny_getItem_of (yzk ry) dd.mapOf hw (h w' _ (I.tok _) rw')
 .subst ey
  cases (show u=Value.ref b from ry)
  obtain ⟨z,hd,xs,rel,dd⟩:=ywy I.hok e
  obtain ⟨w',hw,rw'⟩:=RelO.some_of (v:=v) (o:=(atKey xs k).map (·.2)) (by rw [l];exact rel.val k)
  obtain ⟨p,hp,hp2⟩:=Option.map_eq_some_iff.mp hw
  refine wpAny_getItem_heap (tupleKind_room_in1 hu) (yqL I.hok eb) dd hp ?_
  rw [hp2]
  exact h w' _ (I.tok _) rw'
theorem yOL {Q:Value->Shared->Prop}(hu:A.units+1<cLine) (I:Inv X pins σ H s) (g:DGet H a y o) (ry:RelV y u) (h:∀ s',Inv X pins σ H s'->Q (.bool o.isSome) s') :
  wpAny (model X.prog X.w) A (compareOp .In u (.ref a)) Q E s:=by
 rcases g with ⟨kvs,k,e,ey,l⟩|⟨kvs,k,b,e,ey,eb,l⟩
 .subst ey
  obtain ⟨z,hd,vs,rel,dd⟩:=ywx I.hok e
  refine wpAny_in_of (yzk ry) hd dd.mapOf ?_
  rw [<- (rel.val k).isSome_eq,<- l]
  exact h _ (I.tok _)
 .subst ey
  cases (show u=Value.ref b from ry)
  obtain ⟨z,hd,xs,rel,dd⟩:=ywy I.hok e
  refine wpAny_in_heap (tupleKind_room_in1 hu) (yqL I.hok eb) hd dd ?_
  have q:=(rel.val k).isSome_eq
  rw [isSome_map] at q
  rw [<- q,<- l]
  exact h _ (I.tok _)
theorem yIe {Q:Value->Shared->Prop}(hu:A.units+1<cLine) (I:Inv X pins σ H s) (g:DGet H a y o) (ry:RelV y u) (h:∀ s',Inv X pins σ H s'->Q (.bool (!o.isSome)) s') :
  wpAny (model X.prog X.w) A (compareOp .NotIn u (.ref a)) Q E s:=by
 rcases g with ⟨kvs,k,e,ey,l⟩|⟨kvs,k,b,e,ey,eb,l⟩
 .subst ey
  obtain ⟨z,hd,vs,rel,dd⟩:=ywx I.hok e
  refine wpAny_notIn_of (yzk ry) hd dd.mapOf ?_
  rw [<- (rel.val k).isSome_eq,<- l]
  exact h _ (I.tok _)
 .subst ey
  cases (show u=Value.ref b from ry)
  obtain ⟨z,hd,xs,rel,dd⟩:=ywy I.hok e
  refine wpAny_notIn_heap (tupleKind_room_in1 hu) (yqL I.hok eb) hd dd ?_
  have q:=(rel.val k).isSome_eq
  rw [isSome_map] at q
  rw [<- q,<- l]
  exact h _ (I.tok _)
theorem ywz {h':Heap}{t':Nat}{ob:HO}(I:Inv X pins σ H s) (mu:Mut (H a)) (hs:Heap.SameBut a s.heap h') (he:∃ q,h'.get? a=some q) (new:ObjOk X.prog X.w (upd H a ob) h' a ob) :
  Inv X pins σ (upd H a ob) { s with heap:=h',toks:=t' } :=
 I.write (x:=a) (e:=a) mu (.inl rfl) (fun b q hb z=>(hs.2 b hb).trans z) he new
theorem yGl {P:Program}{w:World}{H':Hp}{h':Heap}{kvs:List (Key×V)}{vs:List (Key×Value)}(z:kvs.length<=sizeLine) (hd:(a == sysModules)=false) (rel:KV kvs vs) (dd:h'.DictOf (yco P w) a vs) :
  ObjOk P w H' h' a (.dK kvs):=⟨z,hd,vs,rel,dd⟩
theorem yBh {H':Hp}{Q:Unit->Shared->Prop}(hu:A.units+1<cLine) (I:Inv X pins σ H s) (g:DPut H a y v H') (ry:RelV y u) (rv:RelV v r) (h:∀ s',Inv X pins σ H' s'->Q () s') :
  wpAny (model X.prog X.w) A (setItem (.ref a) u r) Q E s:=by
 rcases g with ⟨kvs,k,e,ey,l,eH⟩|⟨kvs,k,b,e,ey,eb,l,eH⟩
 .subst ey eH
  obtain ⟨z,hd,vs,rel,dd⟩:=yId I.hok e
  have hz:vs.length<=sizeLine:=by rw [<- rel.length];exact z
  have hl:(putK kvs k v).length<=sizeLine:=by have:=yjv kvs k v;omega
  refine wpAny_setItem_pairs (hsz:=hz) (yzk ry) dd fun h' dd' hs=>h _ ?_
  have he:∃ q,h'.get? a=some q:=let ⟨q,_,_,hq,_⟩:=dd';⟨q,hq⟩
  exact ywz I (by rw [e];exact True.intro) hs he (yGl hl hd (rel.put k rv) dd')
 .subst ey eH
  cases (show u=Value.ref b from ry)
  obtain ⟨z,hd,xs,rel,dd⟩:=yNm I.hok e
  have hz:xs.length<=sizeLine:=by rw [<- Paired.length rel];exact z
  have hl:(putK kvs k v).length<=sizeLine:=by have:=yjv kvs k v;omega
  refine wpAny_setItem_heap (hsz:=hz) (tupleKind_room_in1 hu) (yqL I.hok eb) dd fun h' dd' hs=>h _ ?_
  obtain ⟨q,es,ep,hq,h2,h3,h4,_,h5⟩:=dd'
  refine ywz I (by rw [e];exact True.intro) hs ⟨q,hq⟩ ⟨hl,hd,_,(rel.put k eb rv).keeps fun c ys ec=>?_,q,es,ep,hq,h2,h3,h4,h5⟩
  rw [yX (yLY ec e (fun z=>nomatch z))]
  exact ec
end
section
variable {X:Cx}{pins:List (Addr×Obj)}{σ:St}{H:Hp}{s:Shared}{a:Addr}{kvs:List (Key×V)}{k:Key}{u:Value}{A:Around}{E:Value->Shared->Prop}
end
def yNn (i:Expr):Prop:=∀ ov iv,subscripted i false ov iv=operate [ov,iv] (getItem ov iv)
theorem yIf {prog:Program}{w:World}{A:Around}{E:Value->Shared->Prop}{s:Shared}{env:Env}{value slice:Expr}{pos:Pos}{T id:String}{Q:Value->Shared->Prop}
  (hl:typeLookup (.type T) "__getitem__" = pure (some (.builtin id))) (hs:yNn slice)
  (h:wpAny (model prog w) A (eval value env) (fun o s₁=>wpAny (model prog w) A (eval slice env) (fun i s₂=>s₂.TypeIs o T/\wpAny (model prog w) A (getItem o i) Q E s₂) E s₁) E s) :
  wpAny (model prog w) A (eval (.Subscript value slice pos) env) Q E s:=by
 refine Subscript_ (wpAny_mono h (fun o s₁ h₁=>wpAny_mono h₁ (fun i s₂ h₂=>?_) fun _ _ x=>x) fun _ _ x=>x)
 obtain ⟨hT,h₂⟩:=h₂
 unfold subscriptTail
 refine wpAny_bind ?_
 rw [getitemInPython_of_ne hT.not_modules]
 refine wpAny_bind (wpAny_specialOf hT hl ?_)
 have fin:wpAny (model prog w) A (subscripted slice false o i) (fun r s₃=>wpAny (model prog w) A (letTemporaryGo value o r >>= fun _=>pure r) Q E s₃) E s₂:=by
  rw [hs o i]
  exact wpAny_operating (wpAny_mono h₂ (fun r s₃ h₃=>wpAny_bind (wpAny_letTemporaryGo (wpAny_pure h₃))) fun _ _ x=>x)
 first
  | exact wpAny_pure (wpAny_bind fin)
  | exact wpAny_bind (wpAny_pure (wpAny_bind fin))
  | exact wpAny_bind fin
theorem ywA {X:Cx}{pins:List (Addr×Obj)}{σ:St}{H:Hp}{s:Shared}{a:Addr}{y:V}{o:Option V}(I:Inv X pins σ H s) (g:DGet H a y o):s.TypeIs (.ref a) "dict":=by
 rcases g with ⟨kvs,k,e,_,_⟩|⟨kvs,k,b,e,_,_,_⟩
 .obtain ⟨_,_,vs,_,dd⟩:=ywx I.hok e
  exact dd.typeIs
 .obtain ⟨_,_,xs,_,dd⟩:=ywy I.hok e
  exact dd.typeIs
def yKO (td ty:TE):TE:=fun σ H Q=>td σ H fun x H1=>ty σ H1 fun y H2=>∃ a v,x=.ref a/\DGet H2 a y (some v)/\Q v H2
def yOh (ty td:TE):TE:=fun σ H Q=>ty σ H fun y H1=>td σ H1 fun x H2=>∃ a o,x=.ref a/\DGet H2 a y o/\Q (.bl o.isSome) H2
def yBi (ty td:TE):TE:=fun σ H Q=>ty σ H fun y H1=>td σ H1 fun x H2=>∃ a o,x=.ref a/\DGet H2 a y o/\Q (.bl (!o.isSome)) H2
def yKP (td ty tv:TE):TS:=fun D σ H=>tv σ H fun v H1=>td σ H1 fun x H2=>ty σ H2 fun y H3=>∃ a H4,x=.ref a/\DPut H3 a y v H4/\D.nx σ H4
section
variable {X:Cx}{o i e value:Expr}{pos pos' tpos:Pos}{td ty tv:TE}
theorem yIg (hu:X.A.units+1<cLine) (ho:PE X o td) (hi:PE X i ty) (hs:yNn i):PE X (.Subscript o i pos) (yKO td ty):=by
 intro pins s σ H Q I h
 refine yIf PySem.F.slot_dict_getitem.lookup hs (thn (ho pins s σ H _ I h) fun u s1 ⟨x,H1,I1,rx,q1⟩=>thn (hi pins s1 σ H1 _ I1 q1) fun iv s2 ⟨y,H2,I2,ry,a,v,ex,g,q2⟩=>?_)
 subst ex
 obtain rfl:u=Value.ref a:=rx
 exact ⟨ywA I2 g,yBg hu I2 g ry fun w' s3 I3 rw'=>⟨v,H2,I3,rw',q2⟩⟩
theorem yKQ (hu:X.A.units+1<cLine) (hi:PE X i ty) (ho:PE X o td):PC X .In i o (yOh ty td):=by
 intro pins s σ H Q I h
 refine thn (hi pins s σ H _ I h) fun iv s1 ⟨y,H1,I1,ry,q1⟩=>thn (ho pins s1 σ H1 _ I1 q1) fun u s2 ⟨x,H2,I2,rx,a,ov,ex,g,q2⟩=>?_
 subst ex
 obtain rfl:u=Value.ref a:=rx
 exact yOL hu I2 g ry fun s3 I3=>⟨.bl ov.isSome,H2,I3,rfl,q2⟩
theorem yBj (hu:X.A.units+1<cLine) (hi:PE X i ty) (ho:PE X o td):PC X .NotIn i o (yBi ty td):=by
 intro pins s σ H Q I h
 refine thn (hi pins s σ H _ I h) fun iv s1 ⟨y,H1,I1,ry,q1⟩=>thn (ho pins s1 σ H1 _ I1 q1) fun u s2 ⟨x,H2,I2,rx,a,ov,ex,g,q2⟩=>?_
 subst ex
 obtain rfl:u=Value.ref a:=rx
 exact yIe hu I2 g ry fun s3 I3=>⟨.bl (!ov.isSome),H2,I3,rfl,q2⟩
theorem yIh (hu:X.A.units+1<cLine) (ho:PE X o td) (hi:PE X i ty) (hv:PE X value tv) (hs:swapsWith value (some (.Subscript o i pos')) pos.line X.env=pure false) :
  PS X (.Assign [.Subscript o i pos'] value pos) (yKP td ty tv):=by
 intro pins s σ H D I h
 refine wpAny_Assign_Subscript (thn (hv pins s σ H _ I h) fun r s1 ⟨v,H1,I1,rv,q1⟩=>thn (ho pins s1 σ H1 _ I1 q1) fun u s2 ⟨x,H2,I2,rx,q2⟩=>thn (hi pins s2 σ H2 _ I2 q2) fun iv s3 ⟨y,H3,I3,ry,a,H4,ex,g,q3⟩=>?_) hs
 subst ex
 obtain rfl:u=Value.ref a:=rx
 exact yBh hu I3 g ry rv fun s4 I4=>⟨σ,H4,I4,q3⟩
end
theorem yEA {P:Program}{w:World}{H:Hp}(h:Heap) (hb:sysModules<h.objs.size):ObjOk P w H (h.push { cls:=.type "dict",data:=.dict #[] }) h.objs.size (.dK []) :=
 ⟨zero_le _,beq_eq_false_iff_ne.mpr (Ne.symm (ne_of_lt hb)),[],.nil,Heap.DictOf.new h⟩
def yGm:TE:=fun _ H Q=>∀ p,H p=none->Q (.ref p) (upd H p (.dK []))
section
variable {X:Cx}{pos:Pos}
theorem yEB:PE X (.Dict [] [] pos) yGm:=fun pins s σ H Q I h =>
 wpAny_Dict_empty ⟨.ref s.heap.objs.size,_,I.laid (a:=s.heap.objs.size) (o:=.dK []) (t':=s.toks) (fun _ _ q=>Heap.get?_push_of_some _ q) (Nat.le_refl _) (yEA s.heap I.big),rfl,h _ (I.hok.fresh (Nat.le_refl _))⟩
end
def yBk (kvs more:List (Key×V)):List (Key×V):=more.foldl (fun acc kv=>putK acc kv.1 kv.2) kvs
theorem KV.merge:∀ {more:List (Key×V)}{rs:List (Key×Value)}{kvs:List (Key×V)}{vs:List (Key×Value)},KV more rs->KV kvs vs->KV (yBk kvs more) (merged vs rs):=by
 intro more rs kvs vs r
 unfold KV at r
 induction r generalizing kvs vs with
 | nil=>intro q;exact q
 | @cons p q ps qs h t ih =>
  intro r0
  have e:KV (putK kvs p.1 p.2) (stored vs q.1 q.2):=by
   have:=r0.put p.1 h.2
   rw [<- h.1];exact this
  exact ih e
theorem ykH:∀ (more kvs:List (Key×V)),(yBk kvs more).length<=kvs.length+more.length
 | [],kvs=>by show kvs.length<=kvs.length+0;omega
 | p::r,kvs=>by
  have h1:=ykH r (putK kvs p.1 p.2)
  have h2:=yjv kvs p.1 p.2
  show (yBk (putK kvs p.1 p.2) r).length<=_
  rw [length_cons];omega
structure M2 (X:Cx) (o:Expr) (m:Str) (apos:Pos) (e f:Expr) (cpos:Pos):Prop where
 base:attributeBase o m X.env (eval o X.env)=eval o X.env
 few:((backTo cpos (starEach [e,f] X.env)).all (fun x=>!x.1) && (backToKw cpos (keywordEach [] X.env)).all (fun x=>x.1.isSome)
  && decide (([e,f]:List Expr).length+([]:List Keyword).length+(if ([]:List Keyword).isEmpty then 0 else 1)<30))=true
 line:(apos.endLine == cpos.line)=true
 trees:backTo cpos (starEach [e,f] X.env)=[(false,eval e X.env),(false,eval f X.env)]
def IsD (H:Hp) (a:Addr):Prop:=(∃ kvs,Rd H a (.dK kvs))\/∃ kvs,Rd H a (.dT kvs)
theorem yKR {X:Cx}{pins:List (Addr×Obj)}{σ:St}{H:Hp}{s:Shared}{a:Addr}(I:Inv X pins σ H s) (d:IsD H a) :
  s.TypeIs (.ref a) "dict"/\(∀ b,Value.ref a=.ref b->∃ ob,s.heap.get? b=some ob/\ob.dict=none)/\(a == sysModules)=false:=by
 rcases d with ⟨kvs,e⟩|⟨kvs,e⟩
 .obtain ⟨_,hd,vs,_,dd⟩:=ywx I.hok e
  refine ⟨dd.typeIs,fun b q=>?_,hd⟩
  cases q
  obtain ⟨ob,_,_,h1,h2,_⟩:=dd
  exact ⟨ob,h1,h2.2.1⟩
 .obtain ⟨_,hd,xs,_,dd⟩:=ywy I.hok e
  refine ⟨dd.typeIs,fun b q=>?_,hd⟩
  cases q
  obtain ⟨ob,_,_,h1,h2,_⟩:=dd
  exact ⟨ob,h1,h2.2.1⟩
section
variable {X:Cx}{pins:List (Addr×Obj)}{σ:St}{H:Hp}{s:Shared}{a:Addr}{y d:V}{u r:Value}{o:Option V}{A:Around}{E:Value->Shared->Prop}
theorem yKS {Q:Value->Shared->Prop}(hu:A.units+1<cLine) (I:Inv X pins σ H s) (g:DGet H a y o) (ry:RelV y u) (rd:RelV d r) (h:∀ w' s',Inv X pins σ H s'->RelV (o.getD d) w'->Q w' s') :
  wpAny (model X.prog X.w) A (call (.builtin "dict.get") [.ref a,u,r]) Q E s:=by
 rcases g with ⟨kvs,k,e,ey,l⟩|⟨kvs,k,b,e,ey,eb,l⟩
 .subst ey
  obtain ⟨z,hd,vs,rel,dd⟩:=ywx I.hok e
  refine call_meetsIn slot_dict_get dd.typeIs PySem.F.entry_dict_get (PySem.F.args_dict_get_3 _ _ _) (meets_dict_get_default (yco X.prog X.w) a (yzk ry) hd r) ⟨_,dd.mapOf,h _ _ (I.tok _) ?_⟩
  rw [l]
  exact (rel.val k).getD rd
 .subst ey
  cases (show u=Value.ref b from ry)
  obtain ⟨z,hd,xs,rel,dd⟩:=ywy I.hok e
  refine call_meetsIn slot_dict_get dd.typeIs PySem.F.entry_dict_get (PySem.F.args_dict_get_3 _ _ _) (meetsH_dict_get_default (tupleKind (yco X.prog X.w)) a b hd r) ⟨tupleKind_room_in1 hu,k,xs,yqL I.hok eb,dd,h _ _ (I.tok _) ?_⟩
  rw [l]
  exact (rel.val k).getD rd
end
def yGn (td ty tx:TE):TE:=fun σ H Q=>td σ H fun x H1=>∃ a,x=.ref a/\IsD H1 a/\ty σ H1 fun y H2=>tx σ H2 fun z H3=>∃ o,DGet H3 a y o/\Q (o.getD z) H3
section
variable {X:Cx}{o e f:Expr}{apos cpos:Pos}{td ty tx:TE}
theorem yEC (hu:X.A.units+1<cLine) (ho:PE X o td) (he:PE X e ty) (hf:PE X f tx) (m:M2 X o "get" apos e f cpos):PE X (.Call (.Attribute o "get" apos) [e,f] [] cpos) (yGn td ty tx):=by
 intro pins s σ H Q I h
 refine wpAny_Call_method m.base m.few m.line plainAttrs_dict slot_dict_get PySem.F.type_dict_get (thn (ho pins s σ H _ I h) fun u s1 ⟨x,H1,I1,rx,a,ex,d,q1⟩=>?_)
 subst ex
 obtain rfl:u=Value.ref a:=rx
 obtain ⟨t1,t2,_⟩:=yKR I1 d
 refine ⟨t1,t2,?_⟩
 rw [m.trees]
 refine Calls.callWith_builtin rfl (Calls.evalArgs_plain (Calls.spliced_cons (thn (he pins s1 σ H1 _ I1 q1) fun iv s2 ⟨y,H2,I2,ry,q2⟩ =>
  Calls.spliced_cons (thn (hf pins s2 σ H2 _ I2 q2) fun fv s3 ⟨z,H3,I3,rz,ov,g,q3⟩=>Calls.spliced_nil ?_))))
 exact yKS hu I3 g ry rz fun w' s4 I4 rw'=>⟨_,H3,I4,rw',q3⟩
end
section
variable {X:Cx}{pins:List (Addr×Obj)}{σ:St}{H:Hp}{s:Shared}{a:Addr}{kvs:List (Key×V)}{A:Around}{E:Value->Shared->Prop}
end
section
variable {X:Cx}{pins:List (Addr×Obj)}{σ:St}{H:Hp}{s:Shared}{a:Addr}{y:V}{u:Value}{A:Around}{E:Value->Shared->Prop}
end
end L2
namespace Att
open PySem PySem.W PySem.Calls PyProof.Rows
section
variable {prog:Program}{w:World}{A:Around}{E:Value->Shared->Prop}{s:Shared}{K:Frag}
end
end Att
namespace L2
open PySem PySem.Spec PyProof.Rows
end L2
namespace L2
open PySem PySem.Spec PyProof.Rows
end L2
namespace L2
open PySem PySem.Spec PyProof.Rows
section
variable {P:Program}{w:World}{K:PySem.W.Frag}{mg:Str->Option Value}{base:Heap}
end
section
variable {X:Cx}
end
section
variable {κ:Type} [DecidableEq κ]
end
end L2
namespace PX
open PySem L2
variable {K:Ck}
theorem yyf {α:Type}{l:List α}(h:l.Nodup) {i j:Nat}(hi:i<l.length) (hj:j<l.length) (e:l[i]=l[j]):i=j:=by
 have p:=List.pairwise_iff_getElem.mp h
 rcases Nat.lt_trichotomy i j with z|z|z
 .exact absurd e (p i j hi hj z)
 .exact z
 .exact absurd e.symm (p j i hj hi z)
def yIi (W:Wd) (n:Nat) (a:Addr) (o:HO) (d:Nd):Wd:=⟨W.F,upd W.H a o,W.m,W.h.set n d⟩
theorem ylM {W:Wd}(w:WOk K W) {n:Nat}{d d':Nd}{a:Addr}{o:HO}(e:W.h[n]?=some d) (hm:W.m[n]?=some a) (hF:W.F a=none) (at':NdAt K W.F (upd W.H a o) W.m d' a) (nf:∀ ks xs,d≠.fz ks xs:=by intro _ _ z;cases z):Le K W (yIi W n a o d'):=by
 have hn:n<W.h.length:=(List.getElem?_eq_some_iff.mp e).1
 have ham:a∈W.m:=mem_of_getElem? hm
 refine ⟨⟨fun b u q=>?_,by show W.m.length=(W.h.set n d').length;rw [length_set];exact w.len,w.nd,fun j dj b e1 e2=>?_⟩,Same.refl _,prefix_refl _,fun b u q hb=>?_,fun b u _ _ f=>f,fun b z z'=>absurd z z',fun j ks xs e1=>?_⟩
 .have:b≠a:=ybN q hF
  exact (yX this).trans (w.le _ _ q)
 .have e1:(W.h.set n d')[j]?=some dj:=e1
  by_cases hj:n=j
  .subst hj
   rw [getElem?_set_self hn] at e1
   cases e1
   have e2:W.m[n]?=some b:=e2
   rw [hm] at e2
   cases e2
   exact at'
  .rw [getElem?_set_ne hj] at e1
   have e2:W.m[j]?=some b:=e2
   have hb:b≠a:=fun z=>by
    subst z
    have h1:=(List.getElem?_eq_some_iff.mp hm)
    have h2:=(List.getElem?_eq_some_iff.mp e2)
    obtain ⟨l1,q1⟩:=h1
    obtain ⟨l2,q2⟩:=h2
    exact hj (yyf w.nd l1 l2 (q1.trans q2.symm))
   exact (w.at_ j dj b e1 e2).mono (Same.refl _) (prefix_refl _) (fun u q=>(yX hb).trans q) id
 .have:b≠a:=fun z=>hb (z ▸ ham)
  exact (yX this).trans q
 .have hj:n≠j:=fun z=>by
   subst z
   rw [e] at e1
   cases e1
   exact nf _ _ rfl
  refine ⟨(getElem?_set_ne hj).trans e1,fun b e2=>yX fun z=>?_⟩
  subst z
  obtain ⟨l1,q1⟩:=List.getElem?_eq_some_iff.mp hm
  obtain ⟨l2,q2⟩:=List.getElem?_eq_some_iff.mp e2
  exact hj (yyf w.nd l1 l2 (q1.trans q2.symm))
def ylN:PV->AH->Bool:=fun x h=>match ydG x h with|some _=>true|none=>false
theorem yyg {W:Wd}{x:PV}{v:V}(w:WOk K W) (r:ydh K W x v) (c:ylN x W.h=true):tyV K.K "list" v W.H:=by
 unfold ylN at c
 split at c
 .rename_i xs hx
  obtain ⟨a,vs,rfl,hs,_⟩:=ybH w hx r
  exact .inl ⟨rfl,vs,SqL.of hs⟩
 .cases c
noncomputable def ytR:PM:=fun x ys h=>match x,ys with|.loc n,[y]=>(match h[n]? with|some (.lst xs)=>if xs.length<100000 then some (.non,h.set n (.lst (xs++[y]))) else none|_=>none)|_,_=>none
theorem yGo:ytK K "list" ylN yvY ytR:=by
 refine ⟨fun W x v w r c=>yyg w r c,fun W x v xs vs Q z h' w rx r e q=>?_⟩
 unfold ytR at e
 split at e
 .rename_i n y
  split at e
  .rename_i ys hn
   split at e
   .rename_i hl
    cases e
    obtain ⟨u,rfl,ru⟩:=yzg r
    obtain ⟨a,ev,hm,hf,us,hp,rs⟩:=w.loc hn rx
    refine ⟨a,us,u,ev,rfl,hp,by rw [rs.len];exact big hl,?_⟩
    exact q .non (yIi W n a (.lst (us++[u])) (.lst (ys++[y]))) rfl (ylM w hn hm hf ⟨hf,_,yP,rs.snoc ru⟩) rfl
   .cases e
  .cases e
 .cases e
noncomputable def yqe:PM:=fun x ys h=>match x,ys with|.loc n,[]=>(match h[n]? with|some (.lst xs)=>(match xs[xs.length-1]? with|some y=>some (y,h.set n (.lst xs.dropLast))|none=>none)|_=>none)|_,_=>none
theorem RepL.dropLast {F:Hp}{m:List Addr}{xs:List PV}{vs:List V}(r:RepL K F m xs vs):RepL K F m xs.dropLast vs.dropLast:=by
 rw [List.dropLast_eq_take,List.dropLast_eq_take,r.len]
 exact r.take _
theorem yBl:ytK K "list" ylN yNY yqe:=by
 refine ⟨fun W x v w r c=>yyg w r c,fun W x v xs vs Q z h' w rx r e q=>?_⟩
 unfold yqe at e
 split at e
 .rename_i n
  split at e
  .rename_i ys hn
   split at e
   .rename_i y hy
    cases e
    obtain rfl:vs=[]:=r
    obtain ⟨a,ev,hm,hf,us,hp,rs⟩:=w.loc hn rx
    obtain ⟨u,hu,ru⟩:=rs.get hy
    refine ⟨a,us,u,ev,rfl,hp,by rw [rs.len];exact hu,?_⟩
    exact q u (yIi W n a (.lst us.dropLast) (.lst ys.dropLast)) rfl (ylM w hn hm hf ⟨hf,_,yP,rs.dropLast⟩) ru
   .cases e
  .cases e
 .cases e
def ytS (eo ei ev:XE):XS:=fun ρ h=>ob (ev ρ h) fun v h1=>ob (eo ρ h1) fun o h2=>ob (ei ρ h2) fun i h3=>match o,i with
 | .loc n,.int k=>(match h3[n]? with|some (.lst xs)=>(match ixN xs.length k with|some j=>some (.nx ρ,h3.set n (.lst (xs.set j v)))|none=>none)|_=>none)
 | _,_=>none
theorem yED {to ti tv:TE}{eo ei ev:XE}(a:ybZ K to eo) (b:ybZ K ti ei) (c:ybZ K tv ev):ykB K (yJk tv (yNR to ti yJZ)) (ytS eo ei ev):=by
 intro W0 W ρ σ D o h' g e q
 obtain ⟨v,h1,e1,f1⟩:=yj e
 obtain ⟨x,h2,e2,f2⟩:=yj f1
 obtain ⟨i,h3,e3,f3⟩:=yj f2
 refine c W0 W ρ σ _ v h1 g e1 fun vv W1 w1 l1 r1=>?_
 subst w1
 refine a W0 W1 ρ σ _ x h2 (g.step l1) e2 fun vx W2 w2 l2 r2=>?_
 subst w2
 refine b W0 W2 ρ σ _ i h3 (g.step (l1.trans l2)) e3 fun vi W3 w3 l3 r3=>?_
 subst w3
 have w:=l3.ok
 split at f3
 .rename_i n k
  split at f3
  .rename_i xs hn
   split at f3
   .rename_i j hj
    cases f3
    obtain ⟨p,ep,hm,hf,us,hp,rs⟩:=w.loc hn (l3.rep r2)
    refine ⟨p,us,k,j,ep,r3,hp,by rw [rs.len];exact hj,?_⟩
    have l4:Le K W3 (yIi W3 n p (.lst (us.set j vv)) (.lst (xs.set j v))):=ylM w hn hm hf ⟨hf,_,yP,rs.set j ((l2.trans l3).rep r1)⟩
    have l:=l1.trans (l2.trans (l3.trans l4))
    exact q _ σ rfl l.lf (g.step l)
   .cases f3
  .cases f3
 .cases f3
def keyOf:PV->Option Key
 | .int i=>some (.inl i)
 | .str s=>some (.inr s)
 | _=>none
theorem yhJ {W:Wd}{x:PV}{v:V}{k:Key}(e:keyOf x=some k) (r:ydh K W x v):v=kV k:=by
 cases x<;>cases e<;>exact r
noncomputable def yni (x:PV) (h:AH):Option (List Key×List PV):=match x with|.loc n=>(match h[n]? with|some (.dct ks xs)=>some (ks,xs)|_=>none)|_=>none
def yfj:List Key->List PV->Key->Option PV
 | k::ks,x::xs,j=>if k=j then some x else yfj ks xs j
 | _,_,_=>none
def ynB:List Key->Key->Bool
 | [],_=>false
 | k::ks,j=>if k=j then true else ynB ks j
noncomputable def setK {α:Type}:List Key->List α->Key->α->List α
 | k::ks,x::xs,j,y=>if k=j then y::setK ks xs j y else x::setK ks xs j y
 | _,xs,_,_=>xs
def yct (ks:List Key) (xs:List PV) (k:Key) (x:PV):List Key×List PV:=if ynB ks k=true then (ks,setK ks xs k x) else (ks++[k],xs++[x])
theorem yrD {α:Type}:∀ (ks:List Key) (xs:List α) (j:Key) (y:α),(setK ks xs j y).length=xs.length
 | [],_,_,_=>by simp [setK]
 | _::_,[],_,_=>by simp [setK]
 | k::ks,x::xs,j,y=>by
  show (if k=j then y::setK ks xs j y else x::setK ks xs j y).length=_
  split<;>simp [yrD ks xs j y]
theorem RepL.setK {F:Hp}{m:List Addr}:∀ {xs:List PV}{vs:List V}(ks:List Key) (j:Key) {y:PV}{u:V},RepL K F m xs vs->Rep K F m y u->RepL K F m (PX.setK ks xs j y) (PX.setK ks vs j u)
 | [],_,ks,j,y,u,h,_=>by rw [show _=[] from h];cases ks<;>exact rfl
 | x::xs,_,[],j,y,u,h,_=>by
  obtain ⟨v,r,e,h1,l⟩:=h
  subst e
  exact ⟨v,r,rfl,h1,l⟩
 | x::xs,_,k::ks,j,y,u,⟨v,r,e,h1,l⟩,ru=>by
  subst e
  show RepL K F m (if k=j then y::PX.setK ks xs j y else x::PX.setK ks xs j y) (if k=j then u::PX.setK ks r j u else v::PX.setK ks r j u)
  have ih:=RepL.setK ks j l ru
  split
  .exact ⟨u,_,rfl,ru,ih⟩
  .exact ⟨v,_,rfl,h1,ih⟩
theorem ynC {F:Hp}{m:List Addr}:∀ {ks:List Key}{xs:List PV}{vs:List V}(j:Key),RepL K F m xs vs->vs.length=ks.length->(∀ x,yfj ks xs j=some x->∃ v,ytP (ks.zip vs) j=some v/\Rep K F m x v)/\(yfj ks xs j=none->ytP (ks.zip vs) j=none)
 | [],xs,vs,j,r,hl=>by
  refine ⟨fun x e=>?_,fun _=>rfl⟩
  cases xs<;>cases e
 | k::ks,[],vs,j,r,hl=>by rw [show vs=[] from r] at hl;cases hl
 | k::ks,x::xs,_,j,⟨v,r',e,h,l⟩,hl=>by
  subst e
  have ih:=ynC j l (by simpa using hl)
  have hz:ytP ((k::ks).zip (v::r')) j=if k=j then some v else ytP (ks.zip r') j:=by
   unfold ytP
   rw [zip_cons_cons,find?_cons]
   by_cases hk:k=j
   .simp [hk]
   .simp [hk]
  rw [hz]
  show (∀ y,(if k=j then some x else yfj ks xs j)=some y->_)/\((if k=j then some x else yfj ks xs j)=none->_)
  by_cases hk:k=j
  .rw [if_pos hk,if_pos hk]
   exact ⟨fun y e=>by cases e;exact ⟨v,rfl,h⟩,fun e=>by cases e⟩
  .rw [if_neg hk,if_neg hk]
   exact ih
theorem yBm (j:Key):∀ (ks:List Key) (vs:List V),vs.length=ks.length->((ks.zip vs).any fun kv=>decide (kv.1=j))=ynB ks j
 | [],_,_=>by simp [ynB]
 | k::ks,[],h=>by cases h
 | k::ks,v::vs,h=>by
  rw [zip_cons_cons,any_cons,yBm j ks vs (by simpa using h)]
  show (decide (k=j) || ynB ks j)=if k=j then true else ynB ks j
  by_cases hk:k=j<;>simp [hk]
theorem yBn (j:Key) (y:V):∀ (ks:List Key) (vs:List V),vs.length=ks.length->(ks.zip vs).map (fun kv=>if kv.1=j then (kv.1,y) else kv)=ks.zip (setK ks vs j y)
 | [],_,_=>by simp
 | k::ks,[],h=>by cases h
 | k::ks,v::vs,h=>by
  rw [zip_cons_cons,map_cons,yBn j y ks vs (by simpa using h)]
  show (if k=j then (k,y) else (k,v))::_=(k::ks).zip (if k=j then y::setK ks vs j y else v::setK ks vs j y)
  by_cases hk:k=j
  .rw [if_pos hk,if_pos hk];rfl
  .rw [if_neg hk,if_neg hk];rfl
theorem yyh (j:Key) (y:V) (ks:List Key) (vs:List V) (hl:vs.length=ks.length):putK (ks.zip vs) j y=if ynB ks j=true then ks.zip (setK ks vs j y) else (ks++[j]).zip (vs++[y]):=by
 unfold putK
 rw [yBm j ks vs hl,yBn j y ks vs hl,List.zip_append hl.symm]
 rfl
theorem ykI {W:Wd}(w:WOk K W) {x:PV}{v:V}{ks:List Key}{xs:List PV}(e:yni x W.h=some (ks,xs)) (r:ydh K W x v):∃ a vs,v=.ref a/\W.H a=some (.dK (ks.zip vs))/\vs.length=ks.length/\ydF K W xs vs:=by
 unfold yni at e
 split at e
 .split at e
  .rename_i hn
   cases e
   obtain ⟨a,ev,hm,hf,vs,hp,hl,rs⟩:=w.loc hn r
   exact ⟨a,vs,ev,hp,hl,rs⟩
  .cases e
 .cases e
noncomputable def yzY (x:PV) (h:AH):Option (List Key×List PV):=match x with|.loc n=>(match h[n]? with|some (.dct ks xs)=>some (ks,xs)|some (.fz ks xs)=>some (ks,xs)|_=>none)|_=>none
theorem ykJ {W:Wd}(w:WOk K W) {x:PV}{v:V}{ks:List Key}{xs:List PV}(e:yzY x W.h=some (ks,xs)) (r:ydh K W x v):∃ a vs,v=.ref a/\Rd W.H a (.dK (ks.zip vs))/\vs.length=ks.length/\ydF K W xs vs:=by
 unfold yzY at e
 split at e
 .split at e
  .rename_i hn
   cases e
   obtain ⟨a,ev,hm,hf,vs,hp,hl,rs⟩:=w.loc hn r
   exact ⟨a,vs,ev,.inl hp,hl,rs⟩
  .rename_i hn
   cases e
   obtain ⟨a,ev,hm,hf,o,vs,hp,hl,rs⟩:=w.loc hn r
   exact ⟨a,vs,ev,.inr ⟨o,hp⟩,hl,rs⟩
  .cases e
 .cases e
theorem DGet.r {H:Hp}{a:Addr}{kvs:List (Key×V)}{k:Key}(e:Rd H a (.dK kvs)):DGet H a (kV k) (ytP kvs k):=.inl ⟨kvs,k,e,rfl,rfl⟩
def yfm (ed ek:XE):XE:=fun ρ h=>ob (ed ρ h) fun d h1=>ob (ek ρ h1) fun k h2=>match yzY d h2,keyOf k with|some (ks,xs),some j=>(match yfj ks xs j with|some x=>some (x,h2)|none=>none)|_,_=>none
theorem yEE {td ty:TE}{ed ek:XE}(a:ybZ K td ed) (b:ybZ K ty ek):ybZ K (yKO td ty) (yfm ed ek):=by
 intro W0 W ρ σ Q z h' g e q
 obtain ⟨d,h1,e1,f1⟩:=yj e
 obtain ⟨k,h2,e2,f2⟩:=yj f1
 refine a W0 W ρ σ _ d h1 g e1 fun vd W1 w1 l1 r1=>?_
 subst w1
 refine b W0 W1 ρ σ _ k h2 (g.step l1) e2 fun vk W2 w2 l2 r2=>?_
 subst w2
 split at f2
 .rename_i ks xs j hd hk
  split at f2
  .rename_i x hx
   cases f2
   obtain ⟨p,vs,ev,hp,hl,rs⟩:=ykJ l2.ok hd (l2.rep r1)
   obtain ⟨v,h3,h4⟩:=(ynC j rs hl).1 _ hx
   have:=yhJ hk r2
   subst this
   exact ⟨p,v,ev,by rw [<- h3];exact DGet.r hp,q _ W2 rfl (l1.trans l2) h4⟩
  .cases f2
 .cases f2
def yBo (neg:Bool) (ek ed:XE):XE:=fun ρ h=>ob (ek ρ h) fun k h1=>ob (ed ρ h1) fun d h2=>match yzY d h2,keyOf k with|some (ks,xs),some j=>some (.bl (if neg then !(yfj ks xs j).isSome else (yfj ks xs j).isSome),h2)|_,_=>none
theorem yqM {F:Hp}{m:List Addr}{ks:List Key}{xs:List PV}{vs:List V}(j:Key) (r:RepL K F m xs vs) (hl:vs.length=ks.length):(ytP (ks.zip vs) j).isSome=(yfj ks xs j).isSome:=by
 have h:=ynC j r hl
 cases e:yfj ks xs j with
 | none=>rw [h.2 e];rfl
 | some x=>obtain ⟨v,h1,_⟩:=h.1 x e;rw [h1];rfl
theorem yIj {td ty:TE}{ed ek:XE}(b:ybZ K ty ek) (a:ybZ K td ed):ybZ K (yOh ty td) (yBo false ek ed):=by
 intro W0 W ρ σ Q z h' g e q
 obtain ⟨k,h1,e1,f1⟩:=yj e
 obtain ⟨d,h2,e2,f2⟩:=yj f1
 refine b W0 W ρ σ _ k h1 g e1 fun vk W1 w1 l1 r1=>?_
 subst w1
 refine a W0 W1 ρ σ _ d h2 (g.step l1) e2 fun vd W2 w2 l2 r2=>?_
 subst w2
 split at f2
 .rename_i ks xs j hd hk
  cases f2
  obtain ⟨p,vs,ev,hp,hl,rs⟩:=ykJ l2.ok hd r2
  have:=yhJ hk (l2.rep r1)
  subst this
  exact ⟨p,_,ev,DGet.r hp,q _ W2 rfl (l1.trans l2) (by rw [yqM j rs hl];rfl)⟩
 .cases f2
theorem yzl {td ty:TE}{ed ek:XE}(b:ybZ K ty ek) (a:ybZ K td ed):ybZ K (yBi ty td) (yBo true ek ed):=by
 intro W0 W ρ σ Q z h' g e q
 obtain ⟨k,h1,e1,f1⟩:=yj e
 obtain ⟨d,h2,e2,f2⟩:=yj f1
 refine b W0 W ρ σ _ k h1 g e1 fun vk W1 w1 l1 r1=>?_
 subst w1
 refine a W0 W1 ρ σ _ d h2 (g.step l1) e2 fun vd W2 w2 l2 r2=>?_
 subst w2
 split at f2
 .rename_i ks xs j hd hk
  cases f2
  obtain ⟨p,vs,ev,hp,hl,rs⟩:=ykJ l2.ok hd r2
  have:=yhJ hk (l2.rep r1)
  subst this
  exact ⟨p,_,ev,DGet.r hp,q _ W2 rfl (l1.trans l2) (by rw [yqM j rs hl];rfl)⟩
 .cases f2
def yfn (ed ek ev:XE):XS:=fun ρ h=>ob (ev ρ h) fun v h1=>ob (ed ρ h1) fun d h2=>ob (ek ρ h2) fun k h3=>match d,keyOf k with
 | .loc n,some j=>(match h3[n]? with|some (.dct ks xs)=>if ks.length<1000 then some (.nx ρ,h3.set n (.dct (yct ks xs j v).1 (yct ks xs j v).2)) else none|_=>none)
 | _,_=>none
theorem yEF {td ty tv:TE}{ed ek ev:XE}(a:ybZ K td ed) (b:ybZ K ty ek) (c:ybZ K tv ev):ykB K (yKP td ty tv) (yfn ed ek ev):=by
 intro W0 W ρ σ D o h' g e q
 obtain ⟨v,h1,e1,f1⟩:=yj e
 obtain ⟨x,h2,e2,f2⟩:=yj f1
 obtain ⟨i,h3,e3,f3⟩:=yj f2
 refine c W0 W ρ σ _ v h1 g e1 fun vv W1 w1 l1 r1=>?_
 subst w1
 refine a W0 W1 ρ σ _ x h2 (g.step l1) e2 fun vx W2 w2 l2 r2=>?_
 subst w2
 refine b W0 W2 ρ σ _ i h3 (g.step (l1.trans l2)) e3 fun vi W3 w3 l3 r3=>?_
 subst w3
 have w:=l3.ok
 split at f3
 .rename_i n j hk
  split at f3
  .rename_i ks xs hn
   split at f3
   .rename_i hc
    cases f3
    obtain ⟨p,ep,hm,hf,us,hp,hl,rs⟩:=w.loc hn (l3.rep r2)
    have:=yhJ hk r3
    subst this
    have hput:=yyh j vv ks us hl
    have rv:=(l2.trans l3).rep r1
    have key:∃ us',putK (ks.zip us) j vv=(yct ks xs j v).1.zip us'/\us'.length=(yct ks xs j v).1.length/\ydF K W3 (yct ks xs j v).2 us':=by
     unfold yct
     by_cases hj:ynB ks j=true
     .rw [if_pos hj] at hput ⊢
      exact ⟨_,hput,by rw [yrD];exact hl,rs.setK ks j rv⟩
     .rw [if_neg hj] at hput ⊢
      exact ⟨_,hput,by rw [length_append,length_append,hl];rfl,rs.snoc rv⟩
    obtain ⟨us',p1,p2,p3⟩:=key
    refine ⟨p,_,ep,DPut.k hp (by rw [length_zip,hl];exact ytq (by omega)),?_⟩
    rw [p1]
    have l4:Le K W3 (yIi W3 n p (.dK ((yct ks xs j v).1.zip us')) (.dct (yct ks xs j v).1 (yct ks xs j v).2)):=ylM w hn hm hf ⟨hf,us',yP,p2,p3⟩
    have l:=l1.trans (l2.trans (l3.trans l4))
    exact q _ σ rfl l.lf (g.step l)
   .cases f3
  .cases f3
 .cases f3
def ynZ:XO:=fun _ h=>some (.dct [] [],h)
theorem yEG:yxV K yGm ynZ:=by
 intro W0 W ρ σ Q d h' g e q
 cases e
 intro p hp
 exact q p (yqb W p (.dK [])) rfl (yei g.ok hp) (g.ok.out hp) hp (fun z=>by cases z) ⟨g.ok.ff hp,[],yP,rfl,rfl⟩
def ytT (ed ek ex:XE):XE:=fun ρ h=>ob (ed ρ h) fun d h1=>if (yzY d h1).isSome=true then ob (ek ρ h1) fun k h2=>ob (ex ρ h2) fun y h3=>(match yzY d h3,keyOf k with|some (ks,xs),some j=>some ((yfj ks xs j).getD y,h3)|_,_=>none) else none
theorem yBp {td ty tx:TE}{ed ek ex:XE}(a:ybZ K td ed) (b:ybZ K ty ek) (c:ybZ K tx ex):ybZ K (yGn td ty tx) (ytT ed ek ex):=by
 intro W0 W ρ σ Q z h' g e q
 obtain ⟨d,h1,e1,f1⟩:=yj e
 refine a W0 W ρ σ _ d h1 g e1 fun vd W1 w1 l1 r1=>?_
 subst w1
 split at f1
 .rename_i hs
  obtain ⟨⟨ks0,xs0⟩,hd0⟩:=Option.isSome_iff_exists.mp hs
  obtain ⟨p,vs0,ev,hp0,_,_⟩:=ykJ l1.ok hd0 r1
  subst ev
  refine ⟨p,rfl,.inl ⟨_,hp0⟩,?_⟩
  obtain ⟨k,h2,e2,f2⟩:=yj f1
  obtain ⟨y,h3,e3,f3⟩:=yj f2
  refine b W0 W1 ρ σ _ k h2 (g.step l1) e2 fun vk W2 w2 l2 r2=>?_
  subst w2
  refine c W0 W2 ρ σ _ y h3 (g.step (l1.trans l2)) e3 fun vy W3 w3 l3 r3=>?_
  subst w3
  split at f3
  .rename_i ks xs j hd hk
   cases f3
   obtain ⟨p',vs,ev,hp,hl,rs⟩:=ykJ l3.ok hd ((l2.trans l3).rep r1)
   cases ev
   have:=yhJ hk (l3.rep r2)
   subst this
   refine ⟨_,DGet.r hp,q _ W3 rfl (l1.trans (l2.trans l3)) ?_⟩
   have hv:=ynC j rs hl
   cases eg:yfj ks xs j with
   | none=>rw [hv.2 eg];exact r3
   | some x=>obtain ⟨v,h3,h4⟩:=hv.1 x eg;rw [h3];exact h4
  .cases f3
 .cases f1
end PX
namespace PX
open PySem L2
variable {K:Ck}
def itemsOf (x:PV) (h:AH):Option (List PV):=match x with|.tup xs=>some xs|_=>listOf x h
theorem ywB {W:Wd}(w:WOk K W) {x:PV}{v:V}{xs:List PV}(e:itemsOf x W.h=some xs) (r:ydh K W x v):∃ a vs,v=.ref a/\(SqL K.K W.H a vs\/SqT K.K W.H a vs)/\ydF K W xs vs:=by
 unfold itemsOf at e
 split at e
 .cases e
  obtain ⟨a,vs,ev,hs,rs⟩:=r
  exact ⟨a,vs,ev,.inr (yej w hs),rs⟩
 .obtain ⟨a,vs,ev,hs,rs⟩:=ylK w e r
  exact ⟨a,vs,ev,.inl hs,rs⟩
def svs:List PV->Option (List V)
 | []=>some []
 | x::xs=>match sv x,svs xs with|some v,some vs=>some (v::vs)|_,_=>none
theorem yBq {F:Hp}{m:List Addr}:∀ {xs:List PV}{us vs:List V},svs xs=some us->RepL K F m xs vs->vs=us/\us.all ykz=true
 | [],_,_,e,r=>by cases e;exact ⟨r,rfl⟩
 | x::xs,us,_,e,⟨v,r,ev,h,l⟩=>by
  unfold svs at e
  split at e
  .rename_i u us' e1 e2
   cases e
   obtain ⟨h1,h2⟩:=yBq e2 l
   have hv:v=u:=by cases x<;>cases e1<;>exact h
   have hf:ykz u=true:=by cases x<;>cases e1<;>rfl
   exact ⟨by rw [ev,hv,h1],by rw [List.all_cons,hf,h2];rfl⟩
  .cases e
theorem yrE {x:PV}{u:V}(e:sv x=some u):ykz u=true:=by cases x<;>cases e<;>rfl
def yGp (neg:Bool):P2:=fun x y h=>match sv x,itemsOf y h with|some v,some ys=>(match svs ys with|some us=>some (.bl (if neg then !inV v us else inV v us),h)|none=>none)|_,_=>none
theorem yKT {neg:Bool}:ycQ K (rIn K.K neg) (yGp neg):=by
 intro W x y v u Q z h' w rx ry e q
 unfold yGp at e
 split at e
 .rename_i v' ys ev ey
  split at e
  .rename_i us hu
   cases e
   obtain rfl:=yjb ev rx
   obtain ⟨a,vs,rfl,hs,rs⟩:=ywB w ey ry
   obtain ⟨rfl,hf⟩:=yBq hu rs
   exact ⟨a,vs,rfl,hs,yrE ev,hf,q _ W rfl (.refl w) rfl⟩
  .cases e
 .cases e
def yNo:List V->Hp->VK->Prop:=fun xs H Q=>∃ i j,xs=[.int i,.int j]/\Q (.int (if j>i then j else i)) H
noncomputable def yBr:List PV->AH->Option (PV×AH):=fun xs h=>match xs with|[.int i,.int j]=>some (.int (if j>i then j else i),h)|_=>none
theorem yKU:yry K yNo yBr:=by
 intro W xs vs Q z h' w r e q
 unfold yBr at e
 split at e
 .rename_i i j
  cases e
  obtain ⟨v,u,rfl,rv,ru⟩:=yOf r
  exact ⟨i,j,by rw [show v=_ from rv,show u=_ from ru],q _ W rfl (.refl w) rfl⟩
 .cases e
end PX
namespace PX
open PySem L2
theorem yNp [i:Decidable True]:decide True=true:=by simp
theorem yNq [i:Decidable False]:decide False=false:=by simp
theorem yNr:(false=true)=False:=by simp
theorem yNs:(true=false)=False:=by simp
theorem ywC {n:Nat}:(n<=n)=True:=eq_true (Nat.le_refl n)
theorem yyi {g:XG}{s:XS}{xs:List PV}(I:Nat->PSt->AH->Prop) (R:PV->AH->Prop) {ρ:PSt}{h:AH}(h0:I 0 ρ h)
  (step:∀ (i:Nat) (x:PV) (ρ:PSt) (h:AH),xs[i]?=some x->I i ρ h->∃ ρ1 o h',g x ρ=some ρ1/\s ρ1 h=some (o,h')/\(match o with|.nx ρ'=>I (i+1) ρ' h'|.ct ρ'=>I (i+1) ρ' h'|.bk _=>False|.rt y=>R y h')) :
  (∃ ρ' h',ymz g s xs ρ h=some (.nx ρ',h')/\I xs.length ρ' h')\/∃ y h',ymz g s xs ρ h=some (.rt y,h')/\R y h':=by
 have key:∀ (n i:Nat) (ρ:PSt) (h:AH),i+n=xs.length->I i ρ h->(∃ ρ' h',ymz g s (xs.drop i) ρ h=some (.nx ρ',h')/\I xs.length ρ' h')\/∃ y h',ymz g s (xs.drop i) ρ h=some (.rt y,h')/\R y h':=by
  intro n
  induction n with
  | zero =>
   intro i ρ h hi hI
   have:i=xs.length:=by omega
   subst this
   rw [List.drop_length]
   exact .inl ⟨ρ,h,rfl,hI⟩
  | succ n ih =>
   intro i ρ h hi hI
   have hlt:i<xs.length:=by omega
   obtain ⟨ρ1,o,h',e1,e2,e3⟩:=step i xs[i] ρ h (List.getElem?_eq_getElem hlt) hI
   rw [List.drop_eq_getElem_cons hlt,yBe,e1,bind_some,e2,yB]
   cases o with
   | nx ρ'=>exact ih (i+1) ρ' h' (by omega) e3
   | ct ρ'=>exact ih (i+1) ρ' h' (by omega) e3
   | bk ρ'=>exact e3.elim
   | rt y=>exact .inr ⟨y,h',rfl,e3⟩
 simpa using key xs.length 0 ρ h (by omega) h0
theorem yBs {g:XG}{s:XS}{xs:List PV}(I:Nat->PSt->AH->Prop) {ρ:PSt}{h:AH}(h0:I 0 ρ h)
  (step:∀ (i:Nat) (x:PV) (ρ:PSt) (h:AH),xs[i]?=some x->I i ρ h->∃ ρ1 ρ' h',g x ρ=some ρ1/\(s ρ1 h=some (.nx ρ',h')\/s ρ1 h=some (.ct ρ',h'))/\I (i+1) ρ' h') :
  ∃ ρ' h',ymz g s xs ρ h=some (.nx ρ',h')/\I xs.length ρ' h':=by
 rcases yyi I (fun _ _=>False) h0 (fun i x ρ h hx hI=>by
  obtain ⟨ρ1,ρ',h',e1,e2,e3⟩:=step i x ρ h hx hI
  rcases e2 with e2|e2
  .exact ⟨ρ1,.nx ρ',h',e1,e2,e3⟩
  .exact ⟨ρ1,.ct ρ',h',e1,e2,e3⟩) with q|⟨_,_,_,q⟩
 .exact q
 .exact q.elim
theorem ygg {β:Type}{g:XG}{s:XS}{xs:List PV}(I:Nat->PSt->AH->Prop) {ρ:PSt}{h:AH}{f:Out->AH->Option β}{r:Option β}(h0:I 0 ρ h)
  (step:∀ (i:Nat) (x:PV) (ρ:PSt) (h:AH),xs[i]?=some x->I i ρ h->∃ ρ1 ρ' h',g x ρ=some ρ1/\(s ρ1 h=some (.nx ρ',h')\/s ρ1 h=some (.ct ρ',h'))/\I (i+1) ρ' h')
  (fin:∀ ρ' h',I xs.length ρ' h'->f (.nx ρ') h'=r):ob (ymz g s xs ρ h) f=r:=by
 obtain ⟨ρ',h',e,hI⟩:=yBs I h0 step
 rw [e]
 exact fin ρ' h' hI
theorem yrF {β:Type}{g:XG}{s:XS}{xs:List PV}(I:Nat->PSt->AH->Prop) (R:PV->AH->Prop) {ρ:PSt}{h:AH}{f:Out->AH->Option β}{P:Option β->Prop}(h0:I 0 ρ h)
  (step:∀ (i:Nat) (x:PV) (ρ:PSt) (h:AH),xs[i]?=some x->I i ρ h->∃ ρ1 o h',g x ρ=some ρ1/\s ρ1 h=some (o,h')/\(match o with|.nx ρ'=>I (i+1) ρ' h'|.ct ρ'=>I (i+1) ρ' h'|.bk _=>False|.rt y=>R y h'))
  (fin:∀ ρ' h',I xs.length ρ' h'->P (f (.nx ρ') h')) (out:∀ y h',R y h'->P (f (.rt y) h')):P (ob (ymz g s xs ρ h) f):=by
 rcases yyi I R h0 step with ⟨ρ',h',e,hI⟩|⟨y,h',e,hR⟩
 .rw [e];exact fin ρ' h' hI
 .rw [e];exact out y h' hR
theorem yrG {c:XT}{s:XS}{n:Nat}{ρ:PSt}{h:AH}:whl c s (n+1) ρ h=ob (c ρ h) fun k h1=>if k=true then ob (s ρ h1) fun o h2=>(match o with|.nx ρ'=>whl c s n ρ' h2|.ct ρ'=>whl c s n ρ' h2|.bk ρ'=>some (.nx ρ',h2)|.rt y=>some (.rt y,h2)) else some (.nx ρ,h1):=rfl
theorem yIk (lo:Int) (n:Nat):(yvO lo n).length=n:=by simp [yvO]
theorem yhK {lo:Int}{n i:Nat}{x:PV}(h:(yvO lo n)[i]?=some x):i<n/\x=.int (lo+i):=by
 have hl:=(List.getElem?_eq_some_iff.mp h).1
 rw [yIk] at hl
 refine ⟨hl,?_⟩
 simp [yvO,hl] at h
 exact h.symm
theorem ykK {a:XA}{ρ:PSt}{h h1:AH}{j:Int}(e:a ρ h=some ([.int j],h1)) (h0:-1000000000<=j) (h2:j<=1000000000):yDp a ρ h=some (yvO 0 j.toNat,h1):=by
 unfold yDp
 rw [e,yB]
 show (if _ then _ else _)=_
 rw [if_pos ⟨h0,h2⟩]
theorem yoa {α:Type}{e:XE}{inn:PV->PSt}(f g:α->PV):∀ {ts:List α}{h:AH},(∀ t∈ts,e (inn (f t)) h=some (g t,h))->yDo e inn (ts.map f) h=some (ts.map g,h)
 | [],_,_=>rfl
 | t::ts,h,k=>by
  show ob (e (inn (f t)) h) (fun y h1=>ob (yDo e inn (ts.map f) h1) fun ys h2=>some (y::ys,h2))=_
  rw [k t mem_cons_self,yB,yoa f g fun y hy=>k y (mem_cons_of_mem _ hy),yB]
  rfl
theorem yhm {i:Nat}{e:XE}{ρ:PSt}{h:AH}{xs:List PV}(hx:ρ[i]?=some (.own (.lst xs))):ygx i e ρ h=ob (e ρ h) fun x h1=>if xs.length<100000 then some (.nx (ρ.set i (.own (.lst (xs++[x])))),h1) else none:=by
 unfold ygx
 rw [hx]
theorem ytf {α:Type}{a0:α}{xs:List α}:atI (a0::xs) 0=some a0:=ycb (j:=0) rfl
theorem yDt {α:Type}{a0 a1:α}{xs:List α}:atI (a0::a1::xs) 1=some a1:=ycb (j:=1) rfl
theorem yIl {α:Type}{a0 a1 a2:α}{xs:List α}:atI (a0::a1::a2::xs) 2=some a2:=ycb (j:=2) rfl
theorem yNt {α:Type}{a0 a1 a2 a3:α}{xs:List α}:atI (a0::a1::a2::a3::xs) 3=some a3:=ycb (j:=3) rfl
theorem yOi {α:Type}{a0 a1 a2 a3 a4:α}{xs:List α}:atI (a0::a1::a2::a3::a4::xs) 4=some a4:=ycb (j:=4) rfl
theorem yrH {h:AH}{n:Nat}{xs:List PV}(e:h[n]?=some (.lst xs)):ybM [.loc n] h=some (.lst xs,h):=by
 unfold ybM listOf
 simp only [e]
theorem ywD {h:AH}{n:Nat}{xs:List PV}(e:h[n]?=some (.lst xs)):yfk [.loc n] h=some (.int xs.length,h):=by
 unfold yfk yAZ
 simp only [e]
theorem yBt {h:AH}{n:Nat}{xs:List PV}{y:PV}(e:h[n]?=some (.lst xs)) (hl:xs.length<100000):ytR (.loc n) [y] h=some (.non,h.set n (.lst (xs++[y]))):=by
 unfold ytR
 simp only [e]
 rw [if_pos hl]
theorem yhL {h:AH}{n:Nat}{xs:List PV}(e:h[n]?=some (.lst xs)):ylN (.loc n) h=true:=by
 unfold ylN ydG
 simp only [e]
end PX
namespace PX
open PySem L2
variable {K:Ck}
def yDu:P2:=fun x y h=>match x with|.tup xs=>ybe (.tup xs) y h|x=>ydk x y h
theorem yKV:ycQ K (rIx K.K) yDu:=by
 intro W x y v u Q z h' w rx ry e q
 unfold yDu at e
 split at e
 .exact .inr (.inl (yR W _ y v u Q z h' w rx ry e q))
 .exact .inl (ydB W _ y v u Q z h' w rx ry e q)
theorem yIm {xs:List PV}{i:Int}{h:AH}:yDu (.tup xs) (.int i) h=(atI xs i).bind fun v=>some (v,h):=id (by simp only [yDu,ybe];cases atI xs i<;>rfl)
theorem yIn {xs:List PV}{i:Int}{h:AH}:yDu (.lst xs) (.int i) h=(atI xs i).bind fun v=>some (v,h):=id (by simp only [yDu,ydk];cases atI xs i<;>rfl)
section
variable {ta:TE}{ea:XE}
def yzm (i:Nat) (e:XE):XS:=fun ρ h=>match ρ[i]? with
 | some (.own (.lst xs))=>ob (e ρ h) fun x h1=>(match x with|.lst ys=>if xs.length+ys.length<=100000 then some (.nx (ρ.set i (.own (.lst (xs++ys)))),h1) else none|_=>none)
 | _=>none
theorem yEH (i:Nat) (a:ybZ K ta ea):ykB K (yAg (tBM K.K "list" yAx (yzX i) (yvU ta yDG))) (yzm i ea):=by
 intro W0 W ρ σ D o h' g e q
 unfold yzm at e
 split at e
 .rename_i xs0 hx
  obtain ⟨x,h1,e1,f1⟩:=yj e
  split at f1
  .rename_i ys
   split at f1
   .rename_i hlen
    cases f1
    obtain ⟨p,a1,a2,a3,a4,hf,vs,hp,r⟩:=g.own i _ hx
    refine ⟨.ref p,a1,.inl ⟨rfl,_,SqL.of hp⟩,?_⟩
    refine a W0 W ρ σ _ _ _ g e1 fun v W1 w1 l1 r1=>?_
    obtain ⟨b,us,rfl,hb,rb⟩:=r1
    refine ⟨p,b,vs,us,rfl,rfl,l1.keep _ _ hp a2,l1.ok.le _ _ hb,by rw [r.len,rb.len];exact yJm hlen,?_⟩
    have g1:=g.step l1
    obtain ⟨p',b1,b2,b3,b4,b5,vs',b6,b7⟩:=g1.own i _ hx
    rw [a1] at b1
    cases b1
    rw [l1.keep _ _ hp a2] at b6
    cases b6
    exact q (yGb W1 p (.lst (vs++us))) σ w1 (yAS l1 b2) (g1.mut hx a1 b2 b3 b5 (fun z=>by cases z) ⟨b5,_,yP,b7.app rb⟩)
   .cases f1
  .cases f1
 .cases e
def yBu (i:Nat):XE:=fun ρ h=>match ρ[i]? with|some (.own (.lst xs))=>some (.int xs.length,h)|_=>none
theorem yEI (i:Nat):ybZ K (tCB (yKa K.K) (yvU (yzX i) yDG)) (yBu i):=by
 intro W0 W ρ σ Q x h' g e q
 unfold yBu at e
 split at e
 .rename_i xs hx
  cases e
  obtain ⟨p,a1,a2,a3,a4,hf,vs,hp,r⟩:=g.own i _ hx
  refine ⟨.ref p,a1,p,vs,rfl,.inl (SqL.of hp),?_⟩
  rw [r.len]
  exact q _ W rfl (.refl g.ok) rfl
 .cases e
end
end PX
namespace PX
open PySem L2
variable {K:Ck}
def yJn (lo st:Int) (n:Nat):It:=⟨fun i _=>i<n,fun i H x H'=>H'=H/\x=.int (lo+i*st),fun i _=>n<=i⟩
def szR (a b c:Int):Nat:=if a<b then ((b-a-1)/c+1).toNat else 0
noncomputable def yKW (ta:TA):TI:=fun σ H R=>ta σ H fun vs H1=>∃ i j c:Int,vs=[.int i,.int j,.int c]/\(0<=i/\i<1000000000/\0<=j/\j<1000000000/\0<c/\c<1000000)/\R (yJn i c (szR i j c)) H1
def yzZ (lo st:Int) (n:Nat):List PV:=(List.range n).map fun (k:Nat)=>.int (lo+(k:Int)*st)
def yKX (a:XA):XA:=fun ρ h=>ob (a ρ h) fun xs h1=>match xs with|[.int i,.int j,.int c]=>if 0<=i/\i<1000000000/\0<=j/\j<1000000000/\0<c/\c<1000000 then some (yzZ i c (szR i j c),h1) else none|_=>none
theorem yBv (W:Wd) (lo st:Int) (n:Nat):yLS K W (yJn lo st n) (yzZ lo st n):=by
 refine ⟨fun i W' l w hi=>?_,fun i W' v' H2 l w hi hy=>?_,fun W' l w=>?_⟩
 .show i<n
  simpa [yzZ] using hi
 .obtain ⟨h1,h2⟩:=hy
  have hi:i<n:=by simpa [yzZ] using hi
  exact ⟨h1,.int (lo+(i:Int)*st),by simp [yzZ,hi],h2⟩
 .show n<=_
  simp [yzZ]
theorem yBw {t:TA}{e:XA}(a:ytH K t e):yEi K (yKW t) (yKX e):=by
 intro W0 W ρ σ R xs h' g e q
 obtain ⟨ys,h1,e1,f1⟩:=yj e
 split at f1
 .rename_i i j c
  split at f1
  .rename_i hj
   cases f1
   refine a W0 W ρ σ _ _ _ g e1 fun vs W1 w1 l1 r1=>?_
   obtain ⟨v,r,rfl,rv,v2,r2,rfl,rv2,v3,r3,rfl,rv3,rr⟩:=r1
   obtain rfl:r3=[]:=rr
   exact ⟨i,j,c,by rw [show v=.int i from rv,show v2=.int j from rv2,show v3=.int c from rv3],hj,q _ W1 w1 l1 (yBv W1 i c _)⟩
  .cases f1
 .cases f1
theorem yKY {a:XA}{ρ:PSt}{h h1:AH}{i j c:Int}(e:a ρ h=some ([.int i,.int j,.int c],h1)) (hc:0<=i/\i<1000000000/\0<=j/\j<1000000000/\0<c/\c<1000000):yKX a ρ h=some (yzZ i c (szR i j c),h1):=by
 unfold yKX
 rw [e,yKg]
 show (if _ then _ else _)=_
 rw [if_pos hc]
end PX
namespace PX
open PySem L2
variable {K:Ck}
def Odd (K:PySem.W.Frag) (H:Hp):Prop:=∃ a o ob,H a=some o/\K.lookup a=some ob
inductive EqR (K:PySem.W.Frag) (H:Hp):Nat->V->V->Bool->Prop where
 | flat {n:Nat}{x y:V}(fx:ykz x=true) (fy:ykz y=true):EqR K H n x y (eqV x y)
 | same {n:Nat}{a:Addr}:EqR K H n (.ref a) (.ref a) true
 | odd {n:Nat}{x y:V}{b:Bool}(h:Odd K H):EqR K H n x y b
 | nt {n:Nat}{b:Addr}{ys:List V}(hb:SqT K H b ys):EqR K H (n+1) .non (.ref b) false
 | tn {n:Nat}{b:Addr}{ys:List V}(hb:SqT K H b ys):EqR K H (n+1) (.ref b) .non false
 | lst {n:Nat}{a b:Addr}{xs ys:List V}{e:Nat->Bool}(ha:H a=some (.lst xs)) (hb:H b=some (.lst ys)) (hl:xs.length=ys.length) (hne:a≠b) (he:∀ j x y,xs[j]?=some x->ys[j]?=some y->EqR K H n x y (e j)):EqR K H (n+1) (.ref a) (.ref b) ((List.range xs.length).all e)
 | lstN {n:Nat}{a b:Addr}{xs ys:List V}(ha:H a=some (.lst xs)) (hb:H b=some (.lst ys)) (hl:xs.length≠ys.length):EqR K H (n+1) (.ref a) (.ref b) false
 | tup {n:Nat}{a b:Addr}{xs ys:List V}{e:Nat->Bool}(ha:SqT K H a xs) (hb:SqT K H b ys) (hne:a≠b) (he:∀ j x y,xs[j]?=some x->ys[j]?=some y->EqR K H n x y (e j)):EqR K H (n+1) (.ref a) (.ref b) ((List.range (min xs.length ys.length)).all e && xs.length == ys.length)
inductive RcR (K:PySem.W.Frag) (H:Hp):V->V->Bool->Prop where
 | nt {b:Addr}{ys:List V}(hb:SqT K H b ys):RcR K H .non (.ref b) false
 | tn {b:Addr}{ys:List V}(hb:SqT K H b ys):RcR K H (.ref b) .non false
 | lst {a b:Addr}{xs ys:List V}{e:Nat->Bool}(ha:H a=some (.lst xs)) (hb:H b=some (.lst ys)) (hl:xs.length=ys.length) (he:∀ j x y,xs[j]?=some x->ys[j]?=some y->EqR K H 40 x y (e j)):RcR K H (.ref a) (.ref b) ((List.range xs.length).all e)
 | lstN {a b:Addr}{xs ys:List V}(ha:H a=some (.lst xs)) (hb:H b=some (.lst ys)) (hl:xs.length≠ys.length):RcR K H (.ref a) (.ref b) false
 | tup {a b:Addr}{xs ys:List V}{e:Nat->Bool}(ha:SqT K H a xs) (hb:SqT K H b ys) (he:∀ j x y,xs[j]?=some x->ys[j]?=some y->EqR K H 40 x y (e j)):RcR K H (.ref a) (.ref b) ((List.range (min xs.length ys.length)).all e && xs.length == ys.length)
def yOj (K:PySem.W.Frag):R2:=fun x y H Q=>∃ b,RcR K H x y b/\Q (.bl b) H
def yOk (K:PySem.W.Frag):R2:=fun x y H Q=>∃ b,RcR K H x y b/\Q (.bl (!b)) H
noncomputable def ynj (f:PV->PV->Option Bool):List PV->List PV->Option Bool
 | x::xs,y::ys=>(match f x y,ynj f xs ys with|some b,some c=>some (b && c)|_,_=>none)
 | _,_=>some true
def pairE (f:PV->PV->Option Bool) (h:AH) (x y:PV):Option Bool:=match x,y with
 | .tup xs,.tup ys=>(match ynj f xs ys with|some b=>some (b && xs.length == ys.length)|none=>none)
 | .non,.tup _=>some false
 | .tup _,.non=>some false
 | x,y=>(match ydG x h,ydG y h with|some xs,some ys=>if xs.length=ys.length then ynj f xs ys else some false|_,_=>none)
def eqP:Nat->AH->PV->PV->Option Bool
 | 0,_,_,_=>none
 | n+1,h,x,y=>match sv x,sv y with
  | some u,some v=>some (eqV u v)
  | _,_=>pairE (eqP n h) h x y
theorem yEJ:∀ {v:V},ykz v=true->eqV v v=true
 | .non,_=>rfl
 | .bl b,_=>by cases b<;>rfl
 | .int i,_=>by simp [eqV]
 | .str s,_=>by simp [eqV]
noncomputable def unV:Value->Option V
 | .none=>some .non
 | .bool b=>some (.bl b)
 | .int i _=>some (.int i)
 | .str x _=>some (.str x)
 | .bytes b _=>some (.byt b)
 | .float b _=>some (.flt b)
 | .ref a=>some (.ref a)
 | .type n=>some (.ty n)
 | _=>none
theorem yGq:∀ {v:V}{u:Value},RelV v u->unV u=some v
 | .non,_,h=>by rw [show _=Value.none from h];rfl
 | .bl _,_,h=>by rw [show _=Value.bool _ from h];rfl
 | .int _,_,⟨_,h⟩=>by rw [h];rfl
 | .str _,_,⟨_,h⟩=>by rw [h];rfl
 | .byt _,_,⟨_,h⟩=>by rw [h];rfl
 | .flt _,_,⟨_,h⟩=>by rw [h];rfl
 | .ref _,_,h=>by rw [show _=Value.ref _ from h];rfl
 | .ty _,_,h=>by rw [show _=Value.type _ from h];rfl
theorem yIo {v w:V}{u:Value}(h1:RelV v u) (h2:RelV w u):v=w:=Option.some.inj ((yGq h1).symm.trans (yGq h2))
theorem yEK {vs ws:List V}{us:List Value}(h1:Vals vs us):Vals ws us->vs=ws:=by
 induction h1 generalizing ws with
 | nil=>intro h2;cases h2;rfl
 | cons r _ ih=>intro h2;cases h2 with|cons r2 t2=>rw [yIo r r2,ih t2]
theorem yKZ {F H:Hp}{a:Addr}{vs ws:List V}(s:Same F H) (h1:TpAt K.K F a vs) (h2:TpAt K.K F a ws):vs=ws\/Odd K.K H:=by
 rcases h1 with h1|⟨o,its,n,e1,e2,e3,e4,e5⟩
 .rcases h2 with h2|⟨o,its,n,e1,e2,e3,e4,e5⟩
  .rw [h1] at h2;cases h2;exact .inl rfl
  .exact .inr ⟨a,_,o,s _ _ h1,e1⟩
 .rcases h2 with h2|⟨o',its',n',e1',e2',e3',e4',e5'⟩
  .exact .inr ⟨a,_,o,s _ _ h2,e1⟩
  .rw [e1] at e1';cases e1'
   rw [e3] at e3';cases e3'
   exact .inl (yEK e5 e5')
theorem yob {f:PV->PV->Option Bool}{W:Wd}(hf:∀ x y v b,f x y=some b->ydh K W x v->ydh K W y v->b=true\/Odd K.K W.H):∀ {xs ys:List PV}{vs:List V}{c:Bool},ydF K W xs vs->ydF K W ys vs->ynj f xs ys=some c->c=true\/Odd K.K W.H
 | [],_,_,_,_,_,e=>by simp [ynj] at e;exact .inl e
 | _::_,[],_,_,_,_,e=>by simp [ynj] at e;exact .inl e
 | x::xs,y::ys,_,c,⟨v,r,e1,h1,l1⟩,⟨u,q,e2,h2,l2⟩,e=>by
  rw [e1] at e2
  cases e2
  unfold ynj at e
  cases eb:f x y with
  | none=>rw [eb] at e;cases e
  | some b =>
   cases ec:ynj f xs ys with
   | none=>rw [eb,ec] at e;cases e
   | some c' =>
    rw [eb,ec] at e
    cases e
    rcases hf x y _ b eb h1 h2 with z|z
    .rcases yob hf l1 l2 ec with z'|z'
     .exact .inl (by rw [z,z'];rfl)
     .exact .inr z'
    .exact .inr z
theorem yzn {f:PV->PV->Option Bool}{W:Wd}(w:WOk K W) (hf:∀ x y v b,f x y=some b->ydh K W x v->ydh K W y v->b=true\/Odd K.K W.H) {x y:PV}{v:V}{b:Bool}(e:pairE f W.h x y=some b) (rx:ydh K W x v) (ry:ydh K W y v):b=true\/Odd K.K W.H:=by
 unfold pairE at e
 split at e
 .rename_i xs ys
  obtain ⟨a,vs,ev,ha,ra⟩:=rx
  obtain ⟨a',vs',ev',ha',ra'⟩:=ry
  rw [ev] at ev'
  cases ev'
  rcases yKZ w.le ha ha' with z|z
  .subst z
   cases ec:ynj f xs ys with
   | none=>rw [ec] at e;cases e
   | some c =>
    rw [ec] at e
    cases e
    rcases yob hf ra ra' ec with z|z
    .left
     rw [z,<- ra.len,<- ra'.len]
     simp
    .exact .inr z
  .exact .inr z
 .obtain ⟨a',vs',ev',ha',ra'⟩:=ry
  have rx:v=.non:=rx
  rw [rx] at ev';cases ev'
 .obtain ⟨a',vs',ev',ha',ra'⟩:=rx
  have ry:v=.non:=ry
  rw [ry] at ev';cases ev'
 .split at e
  .rename_i xs ys hx hy
   obtain ⟨a,vs,ev,ha,ra⟩:=ybH w hx rx
   obtain ⟨a',vs',ev',ha',ra'⟩:=ybH w hy ry
   rw [ev] at ev'
   cases ev'
   rw [ha] at ha'
   cases ha'
   rw [if_pos (by rw [<- ra.len,<- ra'.len])] at e
   exact yob hf ra ra' e
  .cases e
theorem yrI {W:Wd}(w:WOk K W):∀ (n:Nat) (x y:PV) (v:V) (b:Bool),eqP n W.h x y=some b->ydh K W x v->ydh K W y v->b=true\/Odd K.K W.H
 | 0,_,_,_,_,e,_,_=>by cases e
 | n+1,x,y,v,b,e,rx,ry=>by
  unfold eqP at e
  split at e
  .rename_i u u' hu hu'
   cases e
   rw [<- yjb hu rx,<- yjb hu' ry]
   exact .inl (yEJ (by rw [yjb hu rx];exact yrE hu))
  .exact yzn w (yrI w n) e rx ry
theorem yoc {f:PV->PV->Option Bool}{W:Wd}{n:Nat}(hf:∀ x y v u b,f x y=some b->ydh K W x v->ydh K W y u->EqR K.K W.H n v u b):∀ {xs ys:List PV}{vs us:List V}{c:Bool},ydF K W xs vs->ydF K W ys us->ynj f xs ys=some c ->
  ∃ e:Nat->Bool,(∀ j v u,vs[j]?=some v->us[j]?=some u->EqR K.K W.H n v u (e j))/\c=(List.range (min vs.length us.length)).all e
 | [],_,_,_,c,h1,_,e=>by
  rw [show _=[] from h1]
  simp [ynj] at e
  exact ⟨fun _=>true,fun j v u hv=>by simp at hv,by simp [e]⟩
 | _::_,[],_,_,c,_,h2,e=>by
  rw [show _=[] from h2]
  simp [ynj] at e
  exact ⟨fun _=>true,fun j v u _ hu=>by simp at hu,by simp [e]⟩
 | x::xs,y::ys,_,_,c,⟨v,r,e1,h1,l1⟩,⟨u,q,e2,h2,l2⟩,e=>by
  subst e1 e2
  unfold ynj at e
  cases eb:f x y with
  | none=>rw [eb] at e;cases e
  | some b =>
   cases ec:ynj f xs ys with
   | none=>rw [eb,ec] at e;cases e
   | some c' =>
    rw [eb,ec] at e
    cases e
    obtain ⟨e',k1,k2⟩:=yoc hf l1 l2 ec
    refine ⟨fun j=>match j with|0=>b|j+1=>e' j,fun j v' u' hv hu=>?_,?_⟩
    .cases j with
     | zero =>
      simp at hv hu
      subst hv hu
      exact hf x y _ _ b eb h1 h2
     | succ j=>exact k1 j v' u' (by simpa using hv) (by simpa using hu)
    .rw [k2,length_cons,length_cons,show min (r.length+1) (q.length+1)=min r.length q.length+1 by omega,List.range_succ_eq_map,List.all_cons,List.all_map]
     rfl
theorem yyj {W:Wd}(w:WOk K W):∀ (n:Nat) (x y:PV) (v u:V) (b:Bool),eqP n W.h x y=some b->ydh K W x v->ydh K W y u->EqR K.K W.H n v u b
 | 0,_,_,_,_,_,e,_,_=>by cases e
 | n+1,x,y,v,u,b,e,rx,ry=>by
  have e0:=e
  unfold eqP at e
  split at e
  .rename_i v' u' hv hu
   cases e
   rw [yjb hv rx,yjb hu ry]
   exact .flat (yrE hv) (yrE hu)
  .unfold pairE at e
   split at e
   .rename_i xs ys _
    obtain ⟨a,vs,ev,ha,ra⟩:=rx
    obtain ⟨a',us,eu,ha',ra'⟩:=ry
    by_cases hab:a=a'
    .subst hab
     rcases yrI w (n+1) _ _ v b e0 ⟨a,vs,ev,ha,ra⟩ (by rw [ev,<- eu];exact ⟨a,us,eu,ha',ra'⟩) with this|z
     .rw [this,ev,eu]
      exact .same
     .exact .odd z
    .cases ec:ynj (eqP n W.h) xs ys with
     | none=>rw [ec] at e;cases e
     | some c =>
      rw [ec] at e
      cases e
      obtain ⟨e',k1,k2⟩:=yoc (yyj w n) ra ra' ec
      rw [ev,eu,k2,<- ra.len,<- ra'.len]
      exact .tup (yej w ha) (yej w ha') hab k1
   .obtain ⟨a',us,eu,ha',ra'⟩:=ry
    cases e
    rw [show v=.non from rx,eu]
    exact .nt (yej w ha')
   .obtain ⟨a',us,eu,ha',ra'⟩:=rx
    cases e
    rw [show u=.non from ry,eu]
    exact .tn (yej w ha')
   .split at e
    .rename_i xs ys hx hy
     obtain ⟨a,vs,ev,ha,ra⟩:=ybH w hx rx
     obtain ⟨a',us,eu,ha',ra'⟩:=ybH w hy ry
     by_cases hab:a=a'
     .subst hab
      rcases yrI w (n+1) _ _ v b e0 rx (by rw [ev,<- eu];exact ry) with this|z
      .rw [this,ev,eu]
       exact .same
      .exact .odd z
     .split at e
      .rename_i hl
       obtain ⟨e',k1,k2⟩:=yoc (yyj w n) ra ra' e
       have hl':vs.length=us.length:=by rw [ra.len,ra'.len,hl]
       rw [ev,eu,k2,<- hl',Nat.min_self]
       exact .lst ha ha' hl' hab k1
      .rename_i hl
       cases e
       rw [ev,eu]
       exact .lstN ha ha' (by rw [ra.len,ra'.len];exact hl)
    .cases e
def yzo:P2:=fun x y h=>match pairE (eqP 40 h) h x y with|some b=>some (.bl b,h)|none=>none
def yGr:P2:=fun x y h=>match pairE (eqP 40 h) h x y with|some b=>some (.bl (!b),h)|none=>none
theorem yyk {W:Wd}(w:WOk K W) {x y:PV}{v u:V}{b:Bool}(e:pairE (eqP 40 W.h) W.h x y=some b) (rx:ydh K W x v) (ry:ydh K W y u):RcR K.K W.H v u b:=by
 unfold pairE at e
 split at e
 .rename_i xs ys
  obtain ⟨a,vs,ev,ha,ra⟩:=rx
  obtain ⟨a',us,eu,ha',ra'⟩:=ry
  cases ec:ynj (eqP 40 W.h) xs ys with
  | none=>rw [ec] at e;cases e
  | some c =>
   rw [ec] at e
   cases e
   obtain ⟨e',k1,k2⟩:=yoc (yyj w 40) ra ra' ec
   rw [ev,eu,k2,<- ra.len,<- ra'.len]
   exact .tup (yej w ha) (yej w ha') k1
 .obtain ⟨a',us,eu,ha',ra'⟩:=ry
  cases e
  rw [show v=.non from rx,eu]
  exact .nt (yej w ha')
 .obtain ⟨a',us,eu,ha',ra'⟩:=rx
  cases e
  rw [show u=.non from ry,eu]
  exact .tn (yej w ha')
 .split at e
  .rename_i xs ys hx hy
   obtain ⟨a,vs,ev,ha,ra⟩:=ybH w hx rx
   obtain ⟨a',us,eu,ha',ra'⟩:=ybH w hy ry
   split at e
   .rename_i hl
    obtain ⟨e',k1,k2⟩:=yoc (yyj w 40) ra ra' e
    have hl':vs.length=us.length:=by rw [ra.len,ra'.len,hl]
    rw [ev,eu,k2,<- hl',Nat.min_self]
    exact .lst ha ha' hl' k1
   .rename_i hl
    cases e
    rw [ev,eu]
    exact .lstN ha ha' (by rw [ra.len,ra'.len];exact hl)
  .cases e
theorem yIp:ycQ K (yOj K.K) yzo:=by
 intro W x y v u Q z h' w rx ry e q
 unfold yzo at e
 split at e
 .rename_i b hb
  cases e
  exact ⟨b,yyk w hb rx ry,q _ W rfl (.refl w) rfl⟩
 .cases e
theorem yNu:ycQ K (yOk K.K) yGr:=by
 intro W x y v u Q z h' w rx ry e q
 unfold yGr at e
 split at e
 .rename_i b hb
  cases e
  exact ⟨b,yyk w hb rx ry,q _ W rfl (.refl w) rfl⟩
 .cases e
end PX
namespace PX
open PySem L2
variable {K:Ck}
def yK (k:Nat) (m:Str) (f:Fn) (e:XE) (as:XA):XE:=fun ρ h=>ob (e ρ h) fun x h1=>match yhE x h1 with
 | some (k',ns,_)=>if k'=k/\m∉ns then ob (as ρ h1) fun ys h2=>f (x::ys) h2 else none
 | none=>none
theorem ytU {k n:Nat}{m:Str}{f:Fn}{ex:XK}{ta:TE}{t:TA}{ea:XE}{as:XA}(a:ybZ K ta ea) (b:ytH K t as) (hn:∀ ρ h xs h',as ρ h=some (xs,h')->xs.length=n) :
  ybZ K (yHg (K.A k) m (spE K (n+1) f) [] ex ta t) (yK k m f ea as):=by
 intro W0 W ρ σ Q z h' g e q
 obtain ⟨x,h1,e1,f1⟩:=yj e
 refine a W0 W ρ σ _ x h1 g e1 fun v W1 w1 l1 r1=>?_
 subst w1
 split at f1
 .rename_i k' ns xs hi
  split at f1
  .rename_i hc
   obtain ⟨ys,h2,e2,f2⟩:=yj f1
   obtain ⟨p,dx,vs,ev,hp,hl,rs⟩:=ykE l1.ok hi r1
   rw [hc.1] at hp
   refine ⟨p,dx,_,ev,hp,yeN hc.2,?_⟩
   refine b W0 W1 ρ σ _ ys h2 (g.step l1) e2 fun us W2 w2 l2 r2=>?_
   subst w2
   rw [append_nil]
   exact ⟨W2,x::ys,z,h',rfl,l2.ok,⟨v,us,rfl,l2.rep r1,r2⟩,by rw [length_cons,hn _ _ _ _ e2],f2,fun u W3 w3 l3 r3=>q u W3 w3 ((l1.trans l2).trans l3) r3⟩
  .cases f1
 .cases f1
def yBx (cs:List Nat) (f:Str) (eo ev:XE):XS:=fun ρ h=>ob (ev ρ h) fun y h1=>ob (eo ρ h1) fun x h2=>match x with
 | .loc n=>(match h2[n]? with|some (.ins k ns xs)=>if k∈cs/\ns.length<1000 then some (.nx ρ,h2.set n (.ins k (putN f y ns xs).1 (putN f y ns xs).2)) else none|_=>none)
 | _=>none
theorem yEL {cs:List Nat}{f:Str}{ta tv:TE}{ea ev:XE}(hc:∀ k∈cs,Cls K.K (K.A k)/\NoAttr K.K (K.A k) f) (a:ybZ K ta ea) (c:ybZ K tv ev):ykB K (yMm K.K ta tv f) (yBx cs f ea ev):=by
 intro W0 W ρ σ D o h' g e q
 obtain ⟨y,h1,e1,f1⟩:=yj e
 obtain ⟨x,h2,e2,f2⟩:=yj f1
 refine c W0 W ρ σ _ y h1 g e1 fun vy W1 w1 l1 r1=>?_
 subst w1
 refine a W0 W1 ρ σ _ x h2 (g.step l1) e2 fun vx W2 w2 l2 r2=>?_
 subst w2
 have w:=l2.ok
 split at f2
 .rename_i n
  split at f2
  .rename_i k ns xs hn
   split at f2
   .rename_i hk
    cases f2
    obtain ⟨p,ep,hm,hf,dx,us,hp,hl,rs⟩:=w.loc hn r2
    obtain ⟨us',p1,p2,p3⟩:=rs.putN (f:=f) hl (l2.rep r1)
    refine ⟨p,_,dx,_,ep,hp,(hc k hk.1).1,(hc k hk.1).2,by rw [length_zip,hl];simpa using hk.2,?_⟩
    rw [p1]
    have l4:Le K W2 (yIi W2 n p (.ins (K.A k) dx ((putN f y ns xs).1.zip us')) (.ins k (putN f y ns xs).1 (putN f y ns xs).2)):=ylM w hn hm hf ⟨hf,dx,us',yP,p2,p3⟩
    have l:=l1.trans (l2.trans l4)
    exact q _ σ rfl l.lf (g.step l)
   .cases f2
  .cases f2
 .cases f2
end PX
namespace PX
open PySem L2
variable {K:Ck}
def ywE (r d:Addr):HO:=.ext fun h=>h.get? r=some { cls:=.type "dict_items",data:=.fields #[.ref d] }
noncomputable def yGs:V->List V->Hp->VK->Prop:=fun x vs H Q=>∃ d kvs,x=.ref d/\vs=[]/\H d=some (.dK kvs)/\∀ r,H r=none->Q (.ref r) (upd H r (ywE r d))
noncomputable def yyl (H:Hp) (as:List Addr) (ts:List (List V)):Hp:=fun b=>match (as.zip ts).lookup b with|some t=>some (.tup t)|none=>H b
def yLV (H:Hp) (p:Addr) (as:List Addr) (ts:List (List V)):Hp:=upd (yyl H as ts) p (.lst (as.map V.ref))
def rSI:List V->Hp->VK->Prop:=fun xs H Q=>∃ (r d:Addr) (kvs:List (Key×V)) (ns:List Int),xs=[.ref r]/\H r=some (ywE r d)/\H d=some (.dK kvs)/\kvs.map (·.1)=ns.map .inl/\kvs.length<64 /\
 ∀ (p:Addr) (as:List Addr) (q:List Nat),q.Perm (List.range ns.length)->q.Pairwise (fun i j=>ns.getD i 0<=ns.getD j 0)->ns.Nodup->as.length=q.length->(∀ a∈p::as,H a=none)->(p::as).Nodup ->
  Q (.ref p) (yLV H p as (q.map fun i=>[V.int (ns.getD i 0),(kvs.map (·.2)).getD i .non]))
def yJo (p:Int×PV):List (Int×PV)->List (Int×PV)
 | []=>[p]
 | q::r=>if p.1<=q.1 then p::q::r else q::yJo p r
def yrJ:List (Int×PV)->List (Int×PV)
 | []=>[]
 | p::r=>yJo p (yrJ r)
def yzp:List Key->Option (List Int)
 | []=>some []
 | .inl i::r=>(yzp r).map (i::·)
 | .inr _::_=>none
theorem yrK:∀ {ks:List Key}{ns:List Int},yzp ks=some ns->ks=ns.map .inl
 | [],ns,h=>by cases h;rfl
 | .inl i::r,ns,h=>by
  obtain ⟨m,e,rfl⟩:=Option.map_eq_some_iff.mp h
  rw [map_cons,<- yrK e]
 | .inr _::_,_,h=>by cases h
theorem yod (p:Int×PV):∀ l,(yJo p l).Perm (p::l)
 | []=>.refl _
 | q::r=>by
  unfold yJo
  split
  .exact .refl _
  .exact ((yod p r).cons q).trans (.swap _ _ _)
theorem ydH:∀ l,(yrJ l).Perm l
 | []=>.refl _
 | p::r=>(yod p _).trans ((ydH r).cons p)
theorem yBy {p:Int×PV}:∀ {l:List (Int×PV)},l.Pairwise (fun a b=>a.1<=b.1)->(yJo p l).Pairwise (fun a b=>a.1<=b.1)
 | [],_=>List.pairwise_singleton _ _
 | q::r,h=>by
  obtain ⟨h1,h2⟩:=List.pairwise_cons.mp h
  unfold yJo
  split
  .rename_i hc
   exact List.pairwise_cons.mpr ⟨fun b hb=>by
    rcases mem_cons.mp hb with rfl|hb
    .exact hc
    .exact Int.le_trans hc (h1 b hb),h⟩
  .rename_i hc
   refine List.pairwise_cons.mpr ⟨fun b hb=>?_,yBy h2⟩
   rcases mem_cons.mp ((yod p r).mem_iff.mp hb) with rfl|hb
   .omega
   .exact h1 b hb
theorem ynD:∀ l,(yrJ l).Pairwise (fun a b=>a.1<=b.1)
 | []=>.nil
 | _::r=>yBy (ynD r)
theorem yEM {ns:List Int}{xs:List PV}{q:List Nat}(hl:xs.length=ns.length) (hp:q.Perm (List.range ns.length)) (hs:q.Pairwise fun i j=>ns.getD i 0<=ns.getD j 0) (nd:ns.Nodup) :
  (q.map fun i=>(ns.getD i 0,xs.getD i .non))=yrJ (ns.zip xs):=by
 have hz:((List.range ns.length).map fun i=>(ns.getD i 0,xs.getD i .non))=ns.zip xs:=by
  apply List.ext_getElem
  .simp [hl]
  .intro i h1 h2
   have h3:i<ns.length:=by simpa using h1
   simp [getD,List.getElem?_eq_getElem h3,List.getElem?_eq_getElem (show i<xs.length by omega)]
 have hm:(q.map fun i=>(ns.getD i 0,xs.getD i .non)).Perm (ns.zip xs):=by rw [<- hz];exact hp.map _
 have hk:(ns.zip xs).map (·.1)=ns:=map_fst_zip (by omega)
 refine List.Perm.eq_of_pairwise (le:=fun a b=>a.1<=b.1) (fun a b ha hb h1 h2=>?_) (List.pairwise_map.mpr hs) (ynD _) (hm.trans (ydH _).symm)
 have ha:=hm.mem_iff.mp ha
 have hb:=(ydH _).mem_iff.mp hb
 obtain ⟨i,hi,rfl⟩:=getElem_of_mem ha
 obtain ⟨j,hj,rfl⟩:=getElem_of_mem hb
 have hi':i<ns.length:=by rw [length_zip] at hi;omega
 have hj':j<ns.length:=by rw [length_zip] at hj;omega
 have e:ns[i]=ns[j]:=by
  have:((ns.zip xs)[i]).1=((ns.zip xs)[j]).1:=Int.le_antisymm h1 h2
  simpa using this
 have:=yyf nd hi' hj' e
 subst this
 rfl
def yOl (W:Wd) (as:List Addr) (ts:List (List V)):Wd:=⟨yyl W.F as ts,yyl W.H as ts,W.m,W.h⟩
theorem lookup_mem {α:Type}:∀ {as:List Addr}{ts:List α}{b:Addr}{t:α},(as.zip ts).lookup b=some t->b∈as
 | [],_,_,_,h=>by simp at h
 | _::_,[],_,_,h=>by simp at h
 | a::as,u::ts,b,t,h=>by
  rw [zip_cons_cons,lookup_cons] at h
  split at h
  .rename_i hb;rw [eq_of_beq hb];exact mem_cons_self
  .exact mem_cons_of_mem _ (lookup_mem h)
theorem ylO {H:Hp}{as:List Addr}{ts:List (List V)}{b:Addr}(h:b∉as):yyl H as ts b=H b:=by
 unfold yyl
 split
 .rename_i e;exact absurd (lookup_mem e) h
 .rfl
theorem yIq {W:Wd}{as:List Addr}{ts:List (List V)}(w:WOk K W) (h:∀ a∈as,W.H a=none):Le K W (yOl W as ts):=by
 have nm:∀ a∈as,a∉W.m:=fun a ha=>w.out (h a ha)
 have sF:Same W.F (yyl W.F as ts):=fun b o e=>by
  rw [ylO fun z=>by rw [w.ff (h b z)] at e;cases e];exact e
 have sH:Same W.H (yyl W.H as ts):=fun b o e=>by
  rw [ylO fun z=>by rw [h b z] at e;cases e];exact e
 refine ⟨⟨?_,w.len,w.nd,fun n d a e1 e2=>?_⟩,sF,prefix_refl _,fun b u e _=>sH b u e,fun b u e _ f=>?_,fun b z n=>absurd z n,fun n ks xs e1=>⟨e1,fun a e2=>ylO fun z=>nm a z (mem_of_getElem? e2)⟩⟩
 .intro b u e
  have e:yyl W.F as ts b=some u:=e
  show yyl W.H as ts b=some u
  unfold yyl at e ⊢
  split at e
  .exact e
  .exact w.le _ _ e
 .have ha:a∉as:=fun z=>nm a z (mem_of_getElem? e2)
  exact (w.at_ n d a e1 e2).mono sF (prefix_refl _) (fun u e=>sH _ _ e) fun f=>(ylO ha).trans f
 .exact (ylO fun z=>by rw [h b z] at e;cases e).trans f
theorem ytV {F:Hp}{m:List Addr}{Y:Nat->PV}{T:Nat->List V}{Z:Nat->List PV}(hY:∀ i,Y i=.tup (Z i)):∀ (as:List Addr) (q:List Nat),as.length=q.length->as.Nodup->(∀ a∈as,∀ i,i∈q->(as.zip (q.map T)).lookup a=some (T i)->F a=some (.tup (T i))) ->
  (∀ i∈q,RepL K F m (Z i) (T i))->RepL K F m (q.map Y) (as.map V.ref)
 | [],[],_,_,_,_=>rfl
 | [],_::_,h,_,_,_=>by cases h
 | _::_,[],h,_,_,_=>by cases h
 | a::as,i::q,hl,hn,hF,hR=>by
  obtain ⟨n1,n2⟩:=List.nodup_cons.mp hn
  refine ⟨.ref a,_,rfl,?_,ytV hY as q (by simpa using hl) n2 (fun b hb j hj e=>?_) fun j hj=>hR j (mem_cons_of_mem _ hj)⟩
  .rw [hY]
   exact ⟨a,T i,rfl,.inl (hF a mem_cons_self i mem_cons_self (by simp)),hR i mem_cons_self⟩
  .refine hF b (mem_cons_of_mem _ hb) j (mem_cons_of_mem _ hj) ?_
   rw [map_cons,zip_cons_cons,lookup_cons]
   have:(b == a)=false:=beq_eq_false_iff_ne.mpr fun z=>n1 (z ▸ hb)
   rw [this]
   exact e
noncomputable def sortI (ks:List Key) (xs:List PV):Option (List PV):=match yzp ks with|some ns=>if ns.length<64 then some ((yrJ (ns.zip xs)).map fun p=>.tup [.int p.1,p.2]) else none|none=>none
def yoe (e:XE):XO:=fun ρ h=>ob (e ρ h) fun x h1=>match yni x h1 with|some (ks,xs)=>(match sortI ks xs with|some l=>some (.lst l,h1)|none=>none)|none=>none
theorem yGt {W:Wd}{x:PV}{v:V}{ks:List Key}{xs:List PV}(w:WOk K W) (e:yni x W.h=some (ks,xs)) (r:ydh K W x v):tyV K.K "dict" v W.H:=by
 obtain ⟨a,vs,rfl,hp,_⟩:=ykI w e r
 exact .inr (.inr (.inl ⟨rfl,.inl ⟨_,hp⟩⟩))
theorem yBz {ta:TE}{ea:XE}(a:ybZ K ta ea):yxV K (tCB rSI (yvU (yMs K.K "dict" yGs ta) yDG)) (yoe ea):=by
 intro W0 W ρ σ Q z h' g e q
 obtain ⟨x,h1,e1,f1⟩:=yj e
 refine a W0 W ρ σ _ x h1 g e1 fun v W1 w1 l1 r1=>?_
 subst w1
 split at f1
 .rename_i ks xs hd
  split at f1
  .rename_i l hl
   cases f1
   refine ⟨yGt l1.ok hd r1,?_⟩
   obtain ⟨d,vs,ev,hp,hvl,rs⟩:=ykI l1.ok hd r1
   subst ev
   refine ⟨d,_,rfl,rfl,hp,fun r hr=>?_⟩
   unfold sortI at hl
   split at hl
   .rename_i ns hk
    split at hl
    .rename_i h64
     cases hl
     have hk:=yrK hk
     have l2:=yei (o:=ywE r d) l1.ok hr
     have hnl:ks.length=ns.length:=by rw [hk,length_map]
     have hxl:xs.length=ns.length:=by rw [<- rs.len];omega
     show rSI [.ref r] (upd W1.H r (ywE r d)) Q
     refine ⟨r,d,ks.zip vs,ns,rfl,yP,(yX (ybN hp hr)).trans hp,by rw [map_fst_zip (by omega),hk],by rw [length_zip];omega,fun p as o hperm hs nd hal hfree hnd=>?_⟩
     rw [List.map_snd_zip (by omega)]
     generalize hW2:yqb W1 r (ywE r d)=W2 at l2
     have hH2:W2.H=upd W1.H r (ywE r d):=by rw [<- hW2];rfl
     rw [<- hH2] at hfree ⊢
     have l3:=yIq (ts:=o.map fun i=>[V.int (ns.getD i 0),vs.getD i .non]) l2.ok fun a ha=>hfree a (mem_cons_of_mem _ ha)
     obtain ⟨n1,n2⟩:=List.nodup_cons.mp hnd
     have hp3:(yOl W2 as (o.map fun i=>[V.int (ns.getD i 0),vs.getD i .non])).H p=none:=(ylO n1).trans (hfree p mem_cons_self)
     have l4:=yei (o:=.lst (as.map V.ref)) l3.ok hp3
     have l:=l2.trans (l3.trans l4)
     have inq:∀ i∈o,i<ns.length:=fun i hi=>by have:=hperm.mem_iff.mp hi;simpa using this
     refine q p _ (by rw [<- hW2];rfl) (l1.trans l) (l3.ok.out hp3) ((l1.trans l2).fresh (hfree p mem_cons_self)) (fun z=>by cases z) ⟨l3.ok.ff hp3,_,yP,?_⟩
     rw [<- yEM hxl hperm hs nd,map_map]
     refine ytV (T:=fun i=>[V.int (ns.getD i 0),vs.getD i .non]) (Z:=fun i=>[.int (ns.getD i 0),xs.getD i .non]) (fun i=>rfl) as o hal n2 (fun a ha i hi e=>?_) fun i hi=>⟨_,_,rfl,rfl,_,_,rfl,?_,rfl⟩
     .show yyl W2.F as _ a=_
      unfold yyl
      rw [e]
     .have hi':=inq i hi
      obtain ⟨u,h3,h4⟩:=(l2.trans (l3.trans l4)).repL rs |>.get (List.getElem?_eq_getElem (show i<xs.length by omega))
      have e5:xs.getD i .non=xs[i]'(by omega):=by simp [getD,List.getElem?_eq_getElem (show i<xs.length by omega)]
      have e6:vs.getD i .non=u:=by simp [getD,h3]
      rw [e5,e6]
      exact h4
    .cases hl
   .cases hl
  .cases f1
 .cases f1
end PX
namespace PX
open PySem L2
variable {K:Ck}
def ItR (K:PySem.W.Frag) (a:Addr) (m:Nat):It :=
 ⟨fun i H=>i<m/\∃ xs x,SqL K H a xs/\xs[m-1-i]?=some x,fun i H x H'=>H'=H/\∀ xs,SqL K H a xs->xs[m-1-i]?=some x,fun i _=>i=m⟩
def yOm (K:PySem.W.Frag) (tl:TE):TI:=fun σ H R=>tl σ H fun x H1=>∃ a xs,x=.ref a/\SqL K H1 a xs/\R (ItR K a xs.length) H1
def yBA (n:Nat) (rev:Bool) (g:XG) (s:XS):Nat->Nat->PSt->AH->Option (Out×AH)
 | 0,i,ρ,h=>match h[n]? with|some (.lst xs)=>if xs.length=i then some (.nx ρ,h) else none|_=>none
 | k+1,i,ρ,h=>match h[n]? with
  | some (.lst xs)=>(match xs[if rev then k else i]? with
   | some x=>(g x ρ).bind fun ρ1=>ob (s ρ1 h) fun o h1=>match o with|.nx ρ'=>yBA n rev g s k (i+1) ρ' h1|.ct ρ'=>yBA n rev g s k (i+1) ρ' h1|.bk ρ'=>some (.nx ρ',h1)|.rt y=>some (.rt y,h1)
   | none=>none)
  | _=>none
def yEN (rev:Bool) (e:XE) (g:XG) (s:XS):XS:=fun ρ h=>ob (e ρ h) fun x h1=>match x with
 | .loc n=>(match h1[n]? with|some (.lst xs)=>yBA n rev g s xs.length 0 ρ h1|_=>none)
 | _=>none
structure ItX (K:Ck) (n:Nat) (rev:Bool) (m:Nat) (a:Addr) (J:It):Prop where
 go:∀ (i:Nat) (H:Hp) (vs:List V) (v:V),H a=some (.lst vs)->i<m->vs[if rev then m-1-i else i]?=some v->J.go i H
 yld:∀ (i:Nat) (H:Hp) (vs:List V) (v:V) (H2:Hp),H a=some (.lst vs)->i<m->J.yld i H v H2->H2=H/\vs[if rev then m-1-i else i]?=some v
 stop:∀ (H:Hp) (vs:List V),H a=some (.lst vs)->vs.length=m->J.stop m H
section
variable {ta:TE}{ea:XE}{t:TS}{s:XS}
theorem yBB {n:Nat}{xs:List PV}{p:Addr}{us:List V}{J:It}{rev:Bool}{g:TG}{y:XG}(b:yHM K g y) (c:ykB K t s) {W0 W W1:Wd}{ρ:PSt}{σ:St}{D:Ends}{o:Out}{h':AH}(gd:Good K W0 W ρ σ) (l1:Le K W W1) (q:Ends.Ok K W0 W D h' o)
  (f1:yBA n rev y s xs.length 0 ρ W1.h=some (o,h')) (hn:W1.h[n]?=some (.lst xs)) (hm:W1.m[n]?=some p) (rs:ydF K W1 xs us) (J1:ItX K n rev us.length p J) :
  ∃ Z:Nat->Nat->St->Hp->Prop,(∃ m,Z 0 m σ W1.H)/\∀ i m σ H,Z i m σ H ->
   (J.stop i H/\D.nx σ H)\/(J.go i H/\∃ N:St->Hp->Prop,(∀ σ' H',N σ' H'->∃ m',m'<m/\Z (i+1) m' σ' H')/\∀ x H',J.yld i H x H'->g x σ H' fun σ2 H2=>t { D with nx:=N,ct:=N,bk:=D.nx } σ2 H2):=by
   have q1:=q.from_ l1.lf
   have hul:us.length=xs.length:=rs.len
   rw [hul] at J1
   refine ⟨fun i m σ H=>m=xs.length-i/\i<=xs.length/\∃ W' ρ',W'.H=H/\Lf K W1 W'/\Good K W0 W' ρ' σ/\yBA n rev y s (xs.length-i) i ρ' W'.h=some (o,h'),⟨_,rfl,zero_le _,W1,ρ,rfl,.refl,gd.step l1,f1⟩,?_⟩
   rintro i m σ _ ⟨rfl,hi,W',ρ',rfl,l,g',f⟩
   have hm':W'.m[n]?=some p:=ylH l.pre hm
   by_cases hlt:i<xs.length
   .obtain ⟨k,hk⟩:∃ k,xs.length-i=k+1:=⟨xs.length-i-1,by omega⟩
    rw [hk] at f
    unfold yBA at f
    split at f
    .rename_i ys hy
     split at f
     .rename_i z hz
      obtain ⟨p',ev',hm2,hf',vs,hp',rs'⟩:=g'.ok.loc hy (v:=.ref p) ⟨p,rfl,hm'⟩
      cases ev'
      have hix:(if rev=true then xs.length-1-i else i)=(if rev=true then k else i):=by rw [show xs.length-1-i=k by omega]
      obtain ⟨vz,hv1,hv2⟩:=rs'.get hz
      obtain ⟨ρ1,k1,f⟩:=Option.bind_eq_some_iff.mp f
      obtain ⟨o1,h2,k2,f3⟩:=yj f
      refine .inr ⟨J1.go i W'.H vs vz hp' hlt (by rw [hix];exact hv1),fun σ2 H2=>i+1<=xs.length/\∃ W2 ρ2,W2.H=H2/\Lf K W1 W2/\Good K W0 W2 ρ2 σ2/\yBA n rev y s (xs.length-(i+1)) (i+1) ρ2 W2.h=some (o,h'),fun σ2 H2 ⟨n1,n2⟩=>⟨xs.length-(i+1),by omega,rfl,n1,n2⟩,fun v H2 hy=>?_⟩
      obtain ⟨rfl,hx⟩:=J1.yld i W'.H vs v H2 hp' hlt hy
      rw [hix,hv1] at hx
      cases hx
      have ek:xs.length-(i+1)=k:=by omega
      refine b W0 W' ρ' ρ1 σ _ vz _ g' hv2 k1 fun σ2 g2=>?_
      refine c W0 W' ρ1 σ2 _ o1 h2 g2 k2 ?_
      cases o1 with
      | nx ρ2=>exact fun W2 σ3 w2 l2 g3=>⟨hlt,W2,ρ2,rfl,l.trans l2,g3,by rw [w2,ek];exact f3⟩
      | ct ρ2=>exact fun W2 σ3 w2 l2 g3=>⟨hlt,W2,ρ2,rfl,l.trans l2,g3,by rw [w2,ek];exact f3⟩
      | bk ρ2=>cases f3;exact fun W2 σ3 w2 l2 g3=>q1 W2 σ3 w2 (l.trans l2) g3
      | rt x=>cases f3;exact q1
     .cases f
    .cases f
   .have ei:i=xs.length:=by omega
    subst ei
    rw [sub_self] at f
    unfold yBA at f
    split at f
    .rename_i ys hy
     obtain ⟨p',ev',hm2,hf',vs,hp',rs'⟩:=g'.ok.loc hy (v:=.ref p) ⟨p,rfl,hm'⟩
     cases ev'
     split at f
     .rename_i hyl
      cases f
      exact .inl ⟨J1.stop W'.H vs hp' (by rw [rs'.len,hyl]),q1 W' σ rfl l g'⟩
     .cases f
    .cases f
theorem yNv {n m:Nat}{a:Addr}:ItX K n true m a (ItR K.K a m) where
 go:=fun i H vs v h hi e=>⟨hi,vs,v,SqL.of h,e⟩
 yld:=fun i H vs v H2 h _ e=>⟨e.1,e.2 vs (SqL.of h)⟩
 stop:=fun H vs h e=>rfl
theorem yEO {g:TG}{y:XG}(a:ybZ K ta ea) (b:yHM K g y) (c:ykB K t s):ykB K (yMf (yOm K.K ta) g t) (yEN true ea y s):=by
 intro W0 W ρ σ D o h' gd e q
 obtain ⟨x,h1,e1,f1⟩:=yj e
 refine a W0 W ρ σ _ x h1 gd e1 fun v W1 w1 l1 r1=>?_
 subst w1
 split at f1
 .rename_i n
  split at f1
  .rename_i xs hn
   obtain ⟨p,ev,hm,hf,us,hp,rs⟩:=l1.ok.loc hn r1
   exact ⟨p,us,ev,SqL.of hp,yBB b c gd l1 q f1 hn hm rs yNv⟩
  .cases f1
 .cases f1
end
end PX
namespace PX
open PySem L2
variable {K:Ck}
def yNw (kvs more:List (Key×V)):List (Key×V):=more.foldl (fun acc kv=>putK acc kv.1 kv.2) kvs
def yOn:V->List V->Hp->VK->Prop:=fun x vs H Q=>∃ d o kvs more,x=.ref d/\vs=[.ref o]/\d≠o/\H d=some (.dK kvs)/\H o=some (.dK more)/\kvs.length+more.length<=sizeLine/\Q .non (upd H d (.dK (yNw kvs more)))
def ytW:List Key->List PV->List Key->List PV->List Key×List PV
 | j::js,y::ys,ks,xs=>ytW js ys (yct ks xs j y).1 (yct ks xs j y).2
 | _,_,ks,xs=>(ks,xs)
def yzq:PV->AH->Bool:=fun x h=>(yni x h).isSome
theorem yEP {W:Wd}{x:PV}{v:V}(w:WOk K W) (r:ydh K W x v) (c:yzq x W.h=true):tyV K.K "dict" v W.H:=by
 obtain ⟨⟨ks,xs⟩,hd⟩:=Option.isSome_iff_exists.mp c
 exact yGt w hd r
theorem yBC {F:Hp}{m:List Addr}:∀ {js:List Key}{ys:List PV}{us:List V}{ks:List Key}{xs:List PV}{vs:List V},RepL K F m ys us->us.length=js.length->RepL K F m xs vs->vs.length=ks.length ->
  ∃ ws,yNw (ks.zip vs) (js.zip us)=(ytW js ys ks xs).1.zip ws/\ws.length=(ytW js ys ks xs).1.length/\RepL K F m (ytW js ys ks xs).2 ws
 | [],ys,us,ks,xs,vs,r,hl,r2,hl2=>by
  obtain rfl:us=[]:=List.length_eq_zero_iff.mp (by simpa using hl)
  cases ys with
  | cons y ys=>obtain ⟨v,r',e,_⟩:=r;cases e
  | nil=>exact ⟨vs,rfl,hl2,r2⟩
 | j::js,[],us,ks,xs,vs,r,hl,r2,hl2=>by
  obtain rfl:us=[]:=r
  cases hl
 | j::js,y::ys,_,ks,xs,vs,⟨u,us,e,ru,rr⟩,hl,r2,hl2=>by
  subst e
  have key:∃ ws,putK (ks.zip vs) j u=(yct ks xs j y).1.zip ws/\ws.length=(yct ks xs j y).1.length/\RepL K F m (yct ks xs j y).2 ws:=by
   have hput:=yyh j u ks vs hl2
   unfold yct
   by_cases hj:ynB ks j=true
   .rw [if_pos hj] at hput ⊢
    exact ⟨_,hput,by rw [yrD];exact hl2,r2.setK ks j ru⟩
   .rw [if_neg hj] at hput ⊢
    exact ⟨_,hput,by rw [length_append,length_append,hl2];rfl,r2.snoc ru⟩
  obtain ⟨ws,p1,p2,p3⟩:=key
  have ih:=yBC (js:=js) rr (by simpa using hl) p3 p2
  show ∃ ws,yNw (putK (ks.zip vs) j u) (js.zip us)=_/\_
  rw [p1]
  exact ih
def yJp:PM:=fun x ys h=>match x,ys with|.loc n,[.loc k]=>(match h[n]?,h[k]? with|some (.dct ks xs),some (.dct js zs)=>if n≠k/\ks.length+js.length<1000 then some (.non,h.set n (.dct (ytW js zs ks xs).1 (ytW js zs ks xs).2)) else none|_,_=>none)|_,_=>none
theorem yNx:ytK K "dict" yzq yOn yJp:=by
 refine ⟨fun W x v w r c=>yEP w r c,fun W x v xs vs Q z h' w rx r e q=>?_⟩
 unfold yJp at e
 split at e
 .rename_i n k
  split at e
  .rename_i ks xs js zs hn hk
   split at e
   .rename_i hc
    cases e
    obtain ⟨u,rfl,ru⟩:=yzg r
    obtain ⟨a,ev,hm,hf,us,hp,hl,rs⟩:=w.loc hn rx
    obtain ⟨b,ev2,hm2,hf2,us2,hp2,hl2,rs2⟩:=w.loc hk ru
    have hne:a≠b:=fun z=>by
     subst z
     obtain ⟨l1,q1⟩:=List.getElem?_eq_some_iff.mp hm
     obtain ⟨l2,q2⟩:=List.getElem?_eq_some_iff.mp hm2
     exact hc.1 (yyf w.nd l1 l2 (q1.trans q2.symm))
    obtain ⟨ws,p1,p2,p3⟩:=yBC rs2 hl2 rs hl
    refine ⟨a,b,_,_,ev,by rw [ev2],hne,hp,hp2,by rw [length_zip,length_zip];exact small (by omega),?_⟩
    rw [p1]
    exact q .non (yIi W n a (.dK ((ytW js zs ks xs).1.zip ws)) (.dct (ytW js zs ks xs).1 (ytW js zs ks xs).2)) rfl (ylM w hn hm hf ⟨hf,_,yP,p2,p3⟩) rfl
   .cases e
  .cases e
 .cases e
end PX
namespace PX
open PySem L2
variable {K:Ck}
end PX
namespace PX
open PySem L2
variable {K:Ck}
noncomputable def rSK:List V->Hp->VK->Prop:=fun xs H Q=>∃ (d:Addr) (kvs:List (Key×V)) (ns:List Int),xs=[.ref d]/\H d=some (.dK kvs)/\kvs.map (·.1)=ns.map .inl/\kvs.length<64 /\
 ∀ (p:Addr) (ms:List Int),ms.Perm ns->ms.Pairwise (· <= ·)->H p=none->Q (.ref p) (upd H p (.lst (ms.map V.int)))
def insI (a:Int):List Int->List Int
 | []=>[a]
 | b::r=>if a<=b then a::b::r else b::insI a r
def yof:List Int->List Int
 | []=>[]
 | a::r=>insI a (yof r)
theorem insI_perm (p:Int):∀ l,(insI p l).Perm (p::l)
 | []=>.refl _
 | q::r=>by
  unfold insI
  split
  .exact .refl _
  .exact ((insI_perm p r).cons q).trans (.swap _ _ _)
theorem ylP:∀ l,(yof l).Perm l
 | []=>.refl _
 | p::r=>(insI_perm p _).trans ((ylP r).cons p)
theorem yBD {p:Int}:∀ {l:List Int},l.Pairwise (· <= ·)->(insI p l).Pairwise (· <= ·)
 | [],_=>List.pairwise_singleton _ _
 | q::r,h=>by
  obtain ⟨h1,h2⟩:=List.pairwise_cons.mp h
  unfold insI
  split
  .rename_i hc
   exact List.pairwise_cons.mpr ⟨fun b hb=>by
    rcases mem_cons.mp hb with rfl|hb
    .exact hc
    .exact Int.le_trans hc (h1 b hb),h⟩
  .rename_i hc
   refine List.pairwise_cons.mpr ⟨fun b hb=>?_,yBD h2⟩
   rcases mem_cons.mp ((insI_perm p r).mem_iff.mp hb) with rfl|hb
   .omega
   .exact h1 b hb
theorem yym:∀ l,(yof l).Pairwise (· <= ·)
 | []=>.nil
 | _::r=>yBD (yym r)
theorem yyn {ms ns:List Int}(hp:ms.Perm ns) (hs:ms.Pairwise (· <= ·)):ms=yof ns :=
 List.Perm.eq_of_pairwise (le:=(· <= ·)) (fun a b _ _ h1 h2=>Int.le_antisymm h1 h2) hs (yym _) (hp.trans (ylP _).symm)
def yqN:List PV->AH->Option (Nd×AH):=fun xs h=>match xs with
 | [x]=>(match yni x h with|some (ks,_)=>(match yzp ks with|some ns=>if ns.length<64 then some (.lst ((yof ns).map .int),h) else none|none=>none)|none=>none)
 | _=>none
theorem yIr:ytJ K rSK yqN:=by
 intro W xs vs Q d h' w r e q
 unfold yqN at e
 split at e
 .rename_i x
  obtain ⟨u,rfl,ru⟩:=yzg r
  split at e
  .rename_i ks ys hd
   split at e
   .rename_i ns hk
    split at e
    .rename_i h64
     cases e
     obtain ⟨a,us,ev,hp,hl,rs⟩:=ykI w hd ru
     subst ev
     have hk:=yrK hk
     refine ⟨a,ks.zip us,ns,rfl,hp,by rw [map_fst_zip (by omega),hk],by rw [length_zip,hk,length_map];omega,fun p ms h1 h2 hn=>?_⟩
     rw [yyn h1 h2]
     have l:=yei (o:=.lst ((yof ns).map V.int)) w hn
     exact q p (yqb W p _) rfl l (w.out hn) hn (fun z=>by cases z) ⟨w.ff hn,_,yP,RepL.of_ints _⟩
    .cases e
   .cases e
  .cases e
 .cases e
end PX
namespace PX
open PySem L2
variable {K:Ck}
section
variable {ta:TE}{ea:XE}{t:TS}{s:XS}
end
end PX
namespace PX
open PySem L2
variable {K:Ck}
def spJ (K:Ck) (n k:Nat) (f:List PV->AH->Option (Nd×AH)):Sp:=fun vs H Q _=>∃ (W0 W:Wd) (x:Addr) (args:List V) (xs:List PV) (d:Nd) (h':AH),vs=.ref x::args/\W.H=H/\Le K W0 W/\W0.H x=none/\x∉W.m/\NdAt K W.F W.H W.m (.ins k [] []) x /\
 ydF K W xs args/\xs.length=n/\f xs W.h=some (d,h')/\∀ W',W'.h=h'->Lf K W W'->Le K W0 W'->x∉W'.m->d≠.dead->NdAt K W'.F W'.H W'.m d x->Q .non W'.H
theorem yIs {n k:Nat}{f} {vs:List V}{H:Hp}{Q:VK}{E:XK}(h:spJ K n k f vs H Q E):vs.length=n+1:=by
 obtain ⟨W0,W,x,args,xs,d,h',rfl,_,_,_,_,_,r,hn,_⟩:=h
 rw [length_cons,r.len,hn]
theorem yBE {N:List Str}{n k:Nat}{t:TS}{s:XS}{vs:List V}{H:Hp}{Q:VK}{E:XK}{bk ct:St->Hp->Prop}(hN:n+1<=N.length) (a:yDs K t s) (h:spJ K n k (ytN N.length k s) vs H Q E):t ⟨fun _ H'=>Q .non H',Q,bk,ct⟩ (L2.start N vs) H:=by
 obtain ⟨W0,W,x,args,xs,d,h',rfl,rfl,le,hx,hm,at_,r,hn,e,q⟩:=h
 obtain ⟨o,h1,e1,f1⟩:=yj e
 have gs:=ylJ (K:=K) (N:=N.drop 1) le.ok r
 have g:Good K W0 W (.own (.ins k [] [])::(xs.map .val++replicate (N.length-(xs.length+1)) .no)) (L2.start N (.ref x::args)):=by
  have es:L2.start N (.ref x::args)=some (.ref x)::L2.start (N.drop 1) args:=by
   have e3:N.length-(args.length+1)=(N.drop 1).length-args.length:=by rw [length_drop];omega
   unfold L2.start
   rw [map_cons,List.cons_append,length_cons,e3]
  have eN:N.length-(xs.length+1)=(N.drop 1).length-xs.length:=by rw [length_drop];omega
  rw [es,eN]
  have noown:∀ (j:Nat) (d:Nd),(xs.map PVar.val++replicate ((N.drop 1).length-xs.length) .no)[j]?≠some (.own d):=fun j d z=>by
   by_cases hj:j<xs.length
   .rw [getElem?_append_left (by simpa using hj),getElem?_map,List.getElem?_eq_getElem hj] at z
    cases z
   .rw [getElem?_append_right (by simp;omega),getElem?_replicate] at z
    split at z<;>cases z
  refine ⟨le,by rw [length_cons,length_cons,gs.len],fun j y z=>?_,fun j d z=>?_,fun i j d d' hij z z'=>?_⟩
  .cases j with
   | zero=>cases z
   | succ j=>exact gs.val j y z
  .cases j with
   | zero=>cases z;exact ⟨x,rfl,hm,hx,(fun z=>by cases z),at_⟩
   | succ j=>exact absurd z (noown j d)
  .cases i with
   | zero =>
    cases j with
    | zero=>exact absurd rfl hij
    | succ j=>exact absurd z' (noown j d')
   | succ i=>exact absurd z (noown i d)
 cases o with
 | rt y=>cases f1
 | bk ρ=>cases f1
 | ct ρ=>cases f1
 | nx ρ =>
  refine a W0 W _ ρ _ _ h1 g e1 fun W' ew lf g'=>?_
  dsimp only at f1
  split at f1
  .rename_i d' hd'
   cases f1
   obtain ⟨p,b1,b2,b3,b4,b5⟩:=g'.own 0 _ hd'
   have b1:some (some (V.ref x))=some (some (V.ref p)):=b1
   cases b1
   exact q W' ew lf g'.le b2 b4 b5
  .cases f1
def yGu:PVar->Bool|.own _=>false|_=>true
def xBI (k:Nat) (f:List PV->AH->Option (Nd×AH)) (a:XA):XS:=fun ρ h=>match ρ with
 | .own (.ins k' [] [])::r=>if k'=k/\r.all yGu=true then ob (a ρ h) fun xs h1=>ob (f xs h1) fun d h2=>(match d with|.dead=>none|d=>some (.nx (.own d::r),h2)) else none
 | _=>none
theorem yIt {n k:Nat}{f} {E:XK}{t:TA}{aa:XA}(a:ytH K t aa) (hn:∀ ρ h xs h',aa ρ h=some (xs,h')->xs.length=n):yDs K (yAg (yDH (spJ K n k f) [] E (yvU (yzX 0) t))) (xBI k f aa):=by
 intro W0 W ρ ρ' σ D h' g e q
 unfold xBI at e
 split at e
 .rename_i k' r
  split at e
  .rename_i c
   obtain ⟨rfl,hr⟩:=c
   obtain ⟨xs,h1,e1,f1⟩:=yj e
   obtain ⟨d,h2,e2,f2⟩:=yj f1
   have nodead:d≠.dead:=fun z=>by subst z;cases f2
   have f2:some (Out.nx (.own d::r),h2)=some (.nx ρ',h'):=by
    cases d<;>first|exact f2|cases f2
   cases f2
   obtain ⟨p,b1,b2,b3,b4,b5⟩:=g.own 0 _ rfl
   refine ⟨.ref p,b1,?_⟩
   refine a W0 W _ σ _ xs h1 g e1 fun vs W1 w1 l1 r1=>?_
   subst w1
   have g1:=g.step l1
   obtain ⟨p',c1,c2,c3,c4,c5⟩:=g1.own 0 _ rfl
   rw [b1] at c1
   cases c1
   rw [append_nil]
   refine ⟨W0,W1,p,vs,xs,d,h',rfl,rfl,g1.le,c3,c2,c5,r1,hn _ _ _ _ e1,e2,fun W2 w2 lf le hm hd at_=>?_⟩
   refine q W2 w2 (l1.lf.trans lf) ⟨le,g1.len,fun j y z=>?_,fun j d' z=>?_,fun i j d1 d2 hij z1 z2=>?_⟩
   .cases j with
    | zero=>cases z
    | succ j =>
     obtain ⟨v,z1,z2⟩:=g1.val (j+1) y z
     exact ⟨v,z1,lf.rep z2⟩
   .cases j with
    | zero=>cases z;exact ⟨p,b1,hm,c3,hd,at_⟩
    | succ j =>
     have z:r[j]?=some (.own d'):=z
     have:=List.all_eq_true.mp hr _ (mem_of_getElem? z)
     cases this
   .cases i with
    | zero =>
     cases j with
     | zero=>exact absurd rfl hij
     | succ j =>
      have z:r[j]?=some (.own d2):=z2
      have:=List.all_eq_true.mp hr _ (mem_of_getElem? z)
      cases this
    | succ i =>
     have z:r[i]?=some (.own d1):=z1
     have:=List.all_eq_true.mp hr _ (mem_of_getElem? z)
     cases this
  .cases e
 .cases e
theorem yOM {k:Nat}{f} {a:XA}{r:PSt}{h:AH}(hr:r.all yGu=true):xBI k f a (.own (.ins k [] [])::r) h=ob (a (.own (.ins k [] [])::r) h) fun xs h1=>ob (f xs h1) fun d h2=>(match d with|.dead=>none|d=>some (.nx (.own d::r),h2)):=by
 unfold xBI
 dsimp only
 rw [if_pos ⟨rfl,hr⟩]
theorem yEQ {a:Addr}{ss:List Str}(h:KTp K.K a (ss.map V.str)):ybZ K (tC (.ref a)) (xC (.tup (ss.map PV.str))):=by
 intro W0 W ρ σ Q x h' g e q
 cases e
 refine q _ W rfl (.refl g.ok) ⟨a,_,rfl,.inr h,?_⟩
 clear h q
 induction ss with
 | nil=>exact rfl
 | cons s ss ih=>exact ⟨_,_,rfl,rfl,ih⟩
end PX
namespace PX
open PySem L2
variable {K:Ck}
noncomputable def yBF:List V->Hp->VK->Prop:=fun xs H Q=>∃ a kvs,xs=[.ref a]/\H a=some (.dK kvs)/\∀ l,H l=none->Q (.ref l) (upd H l (.dK kvs))
def ydn:List PV->AH->Option (Nd×AH):=fun xs h=>match xs with
 | [x]=>(match yni x h with|some (ks,ys)=>some (.dct ks ys,h)|none=>none)
 | _=>none
theorem ykL:ytJ K yBF ydn:=by
 intro W xs vs Q d h' w r e q
 unfold ydn at e
 split at e
 .rename_i x
  obtain ⟨u,rfl,ru⟩:=yzg r
  split at e
  .rename_i ks ys hd
   cases e
   obtain ⟨a,us,ev,hp,hl,rs⟩:=ykI w hd ru
   subst ev
   refine ⟨a,ks.zip us,rfl,hp,fun p hn=>?_⟩
   have l:=yei (o:=.dK (ks.zip us)) w hn
   exact q p (yqb W p _) rfl l (w.out hn) hn (fun z=>by cases z) ⟨w.ff hn,us,yP,hl,rs⟩
  .cases e
 .cases e
theorem ykM {h:AH}{n:Nat}{ks:List Key}{ys:List PV}(e:h[n]?=some (.dct ks ys)):ydn [.loc n] h=some (.dct ks ys,h):=by
 unfold ydn yni
 simp only [e]
end PX
namespace PX
open PySem L2
variable {K:Ck}
end PX
namespace PX
open PySem L2
variable {K:Ck}
variable {t:TS}{s:XS}
end PX
namespace PX
open PySem L2
variable {K:Ck}
mutual
noncomputable def clean:PV->Bool
 | .loc _=>false
 | .lst xs=>yyo xs
 | .tup xs=>yyo xs
 | .ins _ _ xs=>yyo xs
 | _=>true
noncomputable def yyo:List PV->Bool
 | []=>true
 | x::xs=>clean x && yyo xs
end
noncomputable def yBG (f:PV->Option PV):List PV->Option (List PV)
 | []=>some []
 | x::xs=>match f x,yBG f xs with|some y,some ys=>some (y::ys)|_,_=>none
def see:Nat->AH->PV->Option PV
 | 0,_,x=>if clean x=true then some x else none
 | n+1,h,x=>match x with
  | .loc m=>(match h[m]? with|some (.lst xs)=>(yBG (see n h) xs).map .lst|some (.ins k ns xs)=>(yBG (see n h) xs).map (.ins k ns)|_=>none)
  | x=>if clean x=true then some x else none
section
variable {F H:Hp}{m:List Addr}
end
variable {t:TA}{e:XA}
end PX
namespace PX
open PySem L2
variable {K:Ck}
noncomputable def yLa (ta:TA):TI:=fun σ H R=>ta σ H fun vs H1=>∃ i:Int,vs=[.int i,.int (-1),.int (-1)]/\(-1<=i/\i<1000000000)/\R (yJn i (-1) (i+1).toNat) H1
def yJq (a:XA):XA:=fun ρ h=>ob (a ρ h) fun xs h1=>match xs with|[.int i,.int j,.int c]=>if j=-1/\c=-1/\-1<=i/\i<1000000000 then some (yzZ i (-1) (i+1).toNat,h1) else none|_=>none
theorem yBH {t:TA}{e:XA}(a:ytH K t e):yEi K (yLa t) (yJq e):=by
 intro W0 W ρ σ R xs h' g e q
 obtain ⟨ys,h1,e1,f1⟩:=yj e
 split at f1
 .rename_i i j c
  split at f1
  .rename_i hj
   cases f1
   refine a W0 W ρ σ _ _ _ g e1 fun vs W1 w1 l1 r1=>?_
   obtain ⟨v,r,rfl,rv,v2,r2,rfl,rv2,v3,r3,rfl,rv3,rr⟩:=r1
   obtain rfl:r3=[]:=rr
   exact ⟨i,by rw [show v=.int i from rv,show v2=.int j from rv2,show v3=.int c from rv3,hj.1,hj.2.1],hj.2.2,q _ W1 w1 l1 (yBv W1 i (-1) _)⟩
  .cases f1
 .cases f1
theorem yLb {a:XA}{ρ:PSt}{h h1:AH}{i:Int}(e:a ρ h=some ([.int i,.int (-1),.int (-1)],h1)) (hc:-1<=i/\i<1000000000):yJq a ρ h=some (yzZ i (-1) (i+1).toNat,h1):=by
 unfold yJq
 rw [e,yKg]
 show (if _ then _ else _)=_
 rw [if_pos ⟨rfl,rfl,hc⟩]
end PX
namespace PX
open PySem L2 PySem.Spec PyProof.Rows
section
variable (K:Ck)
noncomputable def cE (x:XE):TE:=fun σ H Q=>∃ (W0 W:Wd) (ρ:PSt) (y:PV) (h':AH),W.H=H/\Good K W0 W ρ σ/\x ρ W.h=some (y,h')/\∀ v W',W'.h=h'->Le K W W'->ydh K W' y v->Q v W'.H
def cO (x:XO):TE:=fun σ H Q=>∃ (W0 W:Wd) (ρ:PSt) (d:Nd) (h':AH),W.H=H/\Good K W0 W ρ σ/\x ρ W.h=some (d,h')/\∀ p W',W'.h=h'->Le K W W'->p∉W'.m->W.H p=none->d≠.dead->NdAt K W'.F W'.H W'.m d p->Q (.ref p) W'.H
noncomputable def cT (x:XT):TT:=fun σ H Q=>∃ (W0 W:Wd) (ρ:PSt) (y:Bool) (h':AH),W.H=H/\Good K W0 W ρ σ/\x ρ W.h=some (y,h')/\∀ W',W'.h=h'->Le K W W'->Q y W'.H
noncomputable def cA (x:XA):TA:=fun σ H Q=>∃ (W0 W:Wd) (ρ:PSt) (y:List PV) (h':AH),W.H=H/\Good K W0 W ρ σ/\x ρ W.h=some (y,h')/\∀ v W',W'.h=h'->Le K W W'->ydF K W' y v->Q v W'.H
noncomputable def cP (x:PSt->AH->Option (Option Int×AH)):TO:=fun σ H Q=>∃ (W0 W:Wd) (ρ:PSt) (y:Option Int) (h':AH),W.H=H/\Good K W0 W ρ σ/\x ρ W.h=some (y,h')/\∀ W',W'.h=h'->Le K W W'->Q y W'.H
noncomputable def cI (x:XA):TI:=fun σ H R=>∃ (W0 W:Wd) (ρ:PSt) (y:List PV) (h':AH),W.H=H/\Good K W0 W ρ σ/\x ρ W.h=some (y,h')/\∀ J W',W'.h=h'->Le K W W'->yLS K W' J y->R J W'.H
noncomputable def cG (y:XG):TG:=fun v σ H Q=>∃ (W0 W:Wd) (ρ ρ':PSt) (x:PV),W.H=H/\Good K W0 W ρ σ/\ydh K W x v/\y x ρ=some ρ'/\∀ σ',Good K W0 W ρ' σ'->Q σ' W.H
def cS (s:XS):TS:=fun D σ H=>∃ (W0 W:Wd) (ρ:PSt) (o:Out) (h':AH),W.H=H/\Good K W0 W ρ σ/\s ρ W.h=some (o,h')/\Ends.Ok K W0 W D h' o
noncomputable def cF (s:XS):TS:=fun D σ H=>∃ (W0 W:Wd) (ρ ρ':PSt) (h':AH),W.H=H/\Good K W0 W ρ σ/\s ρ W.h=some (.nx ρ',h')/\∀ W',W'.h=h'->Lf K W W'->Good K W0 W' ρ' σ->D.nx σ W'.H
end
section
variable {K:Ck}
theorem sE {x:XE}:ybZ K (cE K x) x:=fun W0 W ρ σ Q y h' g e q=>⟨W0,W,ρ,y,h',rfl,g,e,q⟩
theorem sO {x:XO}:yxV K (cO K x) x:=fun W0 W ρ σ Q y h' g e q=>⟨W0,W,ρ,y,h',rfl,g,e,q⟩
theorem sT {x:XT}:yvN K (cT K x) x:=fun W0 W ρ σ Q y h' g e q=>⟨W0,W,ρ,y,h',rfl,g,e,q⟩
theorem sA {x:XA}:ytH K (cA K x) x:=fun W0 W ρ σ Q y h' g e q=>⟨W0,W,ρ,y,h',rfl,g,e,q⟩
theorem sP {x}:yGa K (cP K x) x:=fun W0 W ρ σ Q y h' g e q=>⟨W0,W,ρ,y,h',rfl,g,e,q⟩
theorem sI {x:XA}:yEi K (cI K x) x:=fun W0 W ρ σ Q y h' g e q=>⟨W0,W,ρ,y,h',rfl,g,e,q⟩
theorem sG {y:XG}:yHM K (cG K y) y:=fun W0 W ρ ρ' σ x v Q g r e q=>⟨W0,W,ρ,ρ',x,rfl,g,r,e,q⟩
theorem sS {s:XS}:ykB K (cS K s) s:=fun W0 W ρ σ D o h' g e q=>⟨W0,W,ρ,o,h',rfl,g,e,q⟩
theorem sF {s:XS}:yDs K (cF K s) s:=fun W0 W ρ ρ' σ D h' g e q=>⟨W0,W,ρ,ρ',h',rfl,g,e,q⟩
end
abbrev ckX (X:Cx) (A:Nat->Addr):Ck:=⟨X.K,A⟩
structure ZE (X:Cx) (A:Nat->Addr) (e:Expr) (x:XE):Prop where of:PE X e (cE (ckX X A) x)
structure ZO (X:Cx) (A:Nat->Addr) (e:Expr) (x:XO):Prop where of:PE X e (cO (ckX X A) x)
structure ZT (X:Cx) (A:Nat->Addr) (e:Expr) (x:XT):Prop where of:PT X e (cT (ckX X A) x)
structure ZW (X:Cx) (A:Nat->Addr) (e:Expr) (x:XT):Prop where of:PW X e (cT (ckX X A) x)
structure ZA (X:Cx) (A:Nat->Addr) (e:List Expr) (n:Nat) (x:XA):Prop where
 of:PA X e (cA (ckX X A) x)
 len:∀ ρ h xs h',x ρ h=some (xs,h')->xs.length=n
structure ZP (X:Cx) (A:Nat->Addr) (e:Option Expr) (x:PSt->AH->Option (Option Int×AH)):Prop where of:PO X e (cP (ckX X A) x)
structure ZI (X:Cx) (A:Nat->Addr) (tg e:Expr) (x:XA):Prop where of:PI X tg e (cI (ckX X A) x)
structure ZG (X:Cx) (A:Nat->Addr) (e:Expr) (y:XG):Prop where of:PG X e (cG (ckX X A) y)
structure ZS (X:Cx) (A:Nat->Addr) (e:Stmt) (s:XS):Prop where of:PS X e (cS (ckX X A) s)
structure ZSs (X:Cx) (A:Nat->Addr) (e:List Stmt) (s:XS):Prop where of:PSs X e (cS (ckX X A) s)
structure ZF (X:Cx) (A:Nat->Addr) (e:Stmt) (s:XS):Prop where of:PS X e (cF (ckX X A) s)
structure ZFs (X:Cx) (A:Nat->Addr) (e:List Stmt) (s:XS):Prop where of:PSs X e (cF (ckX X A) s)
section
variable {X:Cx}{A:Nat->Addr}{e:Expr}{es:List Expr}
theorem wE {t:TE}{x:XE}(p:PE X e t) (s:ybZ (ckX X A) t x):ZE X A e x:=⟨fun pins st σ H Q I ⟨W0,W,ρ,y,h',eh,g,ex,q⟩=>by subst eh;exact p pins st σ _ Q I (s W0 W ρ σ Q y h' g ex q)⟩
theorem wO {t:TE}{x:XO}(p:PE X e t) (s:yxV (ckX X A) t x):ZO X A e x:=⟨fun pins st σ H Q I ⟨W0,W,ρ,y,h',eh,g,ex,q⟩=>by subst eh;exact p pins st σ _ Q I (s W0 W ρ σ Q y h' g ex q)⟩
theorem wT {t:TT}{x:XT}(p:PT X e t) (s:yvN (ckX X A) t x):ZT X A e x:=⟨fun pins st σ H Q I ⟨W0,W,ρ,y,h',eh,g,ex,q⟩=>by subst eh;exact p pins st σ _ Q I (s W0 W ρ σ Q y h' g ex q)⟩
theorem wW {t:TT}{x:XT}(p:PW X e t) (s:yvN (ckX X A) t x):ZW X A e x:=⟨fun wh pins st σ H Q I ⟨W0,W,ρ,y,h',eh,g,ex,q⟩=>by subst eh;exact p wh pins st σ _ Q I (s W0 W ρ σ Q y h' g ex q)⟩
theorem wA {t:TA}{x:XA}{n:Nat}(p:PA X es t) (s:ytH (ckX X A) t x) (l:∀ ρ h xs h',x ρ h=some (xs,h')->xs.length=n):ZA X A es n x:=⟨fun pos pins st σ H Q I ⟨W0,W,ρ,y,h',eh,g,ex,q⟩=>by subst eh;exact p pos pins st σ _ Q I (s W0 W ρ σ Q y h' g ex q),l⟩
theorem wP {o:Option Expr}{t:TO}{x} (p:PO X o t) (s:yGa (ckX X A) t x):ZP X A o x:=⟨fun pins st σ H Q I ⟨W0,W,ρ,y,h',eh,g,ex,q⟩=>by subst eh;exact p pins st σ _ Q I (s W0 W ρ σ Q y h' g ex q)⟩
theorem wI {tg:Expr}{t:TI}{x:XA}(p:PI X tg e t) (s:yEi (ckX X A) t x):ZI X A tg e x:=⟨fun pins st σ H Q I ⟨W0,W,ρ,y,h',eh,g,ex,q⟩=>by subst eh;exact p pins st σ _ Q I (s W0 W ρ σ Q y h' g ex q)⟩
theorem wG {t:TG}{y:XG}(p:PG X e t) (s:yHM (ckX X A) t y):ZG X A e y:=⟨fun pins st σ H v u Q I rv ⟨W0,W,ρ,ρ',x,eh,g,r,ex,q⟩=>by subst eh;exact p pins st σ _ v u Q I rv (s W0 W ρ ρ' σ x v Q g r ex q)⟩
theorem wS {st:Stmt}{t:TS}{x:XS}(p:PS X st t) (s:ykB (ckX X A) t x):ZS X A st x:=⟨fun pins st σ H D I ⟨W0,W,ρ,o,h',eh,g,ex,q⟩=>by subst eh;exact p pins st σ _ D I (s W0 W ρ σ D o h' g ex q)⟩
theorem wSs {st:List Stmt}{t:TS}{x:XS}(p:PSs X st t) (s:ykB (ckX X A) t x):ZSs X A st x:=⟨fun pins st σ H D I ⟨W0,W,ρ,o,h',eh,g,ex,q⟩=>by subst eh;exact p pins st σ _ D I (s W0 W ρ σ D o h' g ex q)⟩
theorem wF {st:Stmt}{t:TS}{x:XS}(p:PS X st t) (s:yDs (ckX X A) t x):ZF X A st x:=⟨fun pins st σ H D I ⟨W0,W,ρ,ρ',h',eh,g,ex,q⟩=>by subst eh;exact p pins st σ _ D I (s W0 W ρ ρ' σ D h' g ex q)⟩
theorem wFs {st:List Stmt}{t:TS}{x:XS}(p:PSs X st t) (s:yDs (ckX X A) t x):ZFs X A st x:=⟨fun pins st σ H D I ⟨W0,W,ρ,ρ',h',eh,g,ex,q⟩=>by subst eh;exact p pins st σ _ D I (s W0 W ρ ρ' σ D h' g ex q)⟩
end
structure Nm (x:Str):Prop where
 d:(x == ("__debug__":Str))=false
 c:(x == ("__classdict__":Str))=false
 n:x≠"__name__"
section
variable {X:Cx}{A:Nat->Addr}{a b c o:Expr}{es:List Expr}{xa xb xc:XE}{xo:XO}{aa:XA}{pos p apos:Pos}{x:Str}{n k:Nat}
theorem yBI {j}:ZE X A (.Constant .none j pos) (xC .non):=wE yJB yHy
theorem yIu {b j}:ZE X A (.Constant (.bool b) j pos) (xC (.bl b)):=wE yLZ yKh
theorem z_int {i j}:ZE X A (.Constant (.int i) j pos) (xC (.int i)):=wE yJA yAJ
theorem z_str {x j}:ZE X A (.Constant (.str x) j pos) (xC (.str x)):=wE yJC yAK
theorem ykN {i:Nat}(m:Nm x) (hN:X.N[i]?=some x) (hv:Vis X.env.scope x):ZE X A (.Name x pos) (yd i):=wE (yY hN hv m.d m.c) (yHx i)
theorem z_v (i:Nat) (m:Nm x) (hN:X.N[i]?=some x:=by rfl) (hv:Vis X.env.scope x:=by exact Or.inl rfl):ZE X A (.Name x pos) (yd i):=ykN m hN hv
theorem yBJ {n:Int}{t:Tok}(m:Nm x) (hg:Gl X x) (hm:X.mg x=some (.int n t)):ZE X A (.Name x pos) (xC (.int n)):=wE (yHu hg hm m.d) yAJ
theorem yLc {n:Str}{t:Tok}(m:Nm x) (hg:Gl X x) (hm:X.mg x=some (.str n t)):ZE X A (.Name x pos) (xC (.str n)):=wE (yHv hg hm m.d) yAK
theorem ycK {k:Nat}(m:Nm x) (hg:Gl X x) (hm:X.mg x=some (.ref (A k))):ZE X A (.Name x pos) (xC (.cls k)):=wE (ywf hg hm m.d) (yHz (K:=ckX X A))
theorem ytX {n:String}(m:Nm x) (hg:Gl X x) (hm:X.mg x=none) (hv:bootBuiltins x=some (.type n)):ZE X A (.Name x pos) (xC (.ty n)):=wE (yKf hg hm hv m.n m.d) yKi
theorem ycL (h:ZO X A a xo):ZE X A a (xFz xo):=wE h.of (yKn sO)
theorem yeP (h:ZO X A a xo):ZE X A a (ygw xo):=wE h.of (yAN sO)
theorem ybo {op:Operator}{r:R2}{q:P2}(ho:OpR X (binaryOp op) r) (hq:ycQ (ckX X A) r q) (ha:ZE X A a xa) (hb:ZE X A b xb):ZE X A (.BinOp a op b pos) (xOp q xa xb):=wE (yJS ho ha.of hb.of) (yxW hq sE sE)
theorem ytY {op:Operator}{r:R2}{q:P2O}(ho:OpR X (binaryOp op) r) (hq:yAI (ckX X A) r q) (ha:ZE X A a xa) (hb:ZE X A b xb):ZO X A (.BinOp a op b pos) (yAG q xa xb):=wO (yJS ho ha.of hb.of) (yHA hq sE sE)
theorem yJr {op:UnaryOp}{r} {q} (ho:UnR X (unaryOp op) r) (hq:yHw (ckX X A) r q) (ha:ZE X A a xa):ZE X A (.UnaryOp op a pos) (xUn q xa):=wE (yMh ho ha.of) (yKj hq sE)
theorem yNy (ha:ZE X A a xa):ZE X A (.UnaryOp .Not a pos) (yDT xa):=wE (yJL ha.of) (yDW sE)
theorem ywF {op:CmpOp}{r:R2}{q:P2}(ho:OpR X (compareOp op) r) (hq:ycQ (ckX X A) r q) (ha:ZE X A a xa) (hb:ZE X A b xb) (hm:behindInMarks op b=false):ZE X A (.Compare a [op] [b] pos) (xOp q xa xb):=wE (yHa ho ha.of hb.of hm) (yxW hq sE sE)
theorem yIv {op} (h:ZE X A a xa):ZE X A (.BoolOp op [a] pos) xa:=⟨yJJ h.of⟩
theorem yER (ha:ZE X A a xa) (hb:ZE X A (.BoolOp .And (b::es) pos) xb):ZE X A (.BoolOp .And (a::b::es) pos) (ywp xa xb):=wE (yJK ha.of hb.of) (yDV sE sE)
section
variable {ca cb:XT}
theorem yIw (hc:ZT X A c ca) (ha:ZE X A a xa) (hb:ZE X A b xb):ZE X A (.IfExp c a b pos) (xIf ca xa xb):=wE (yDA hc.of ha.of hb.of) (yKm sT sE sE)
theorem yG {op:CmpOp}{r:R2}{q:P2}(ho:OpR X (compareOp op) r) (hq:ycQ (ckX X A) r q) (ha:ZE X A a xa) (hb:ZE X A b xb) (hm:behindInMarks op b=false):ZT X A (.Compare a [op] [b] pos) (yt (xOp q xa xb)):=wT (yHc ho ha.of hb.of hm) (ykD (yxW hq sE sE))
theorem yES {op op':CmpOp}{r r':R2}{q q':P2}(ho:OpR X (compareOp op) r) (ho':OpR X (compareOp op') r') (hq:ycQ (ckX X A) r q) (hq':ycQ (ckX X A) r' q') (ha:ZE X A a xa) (hb:ZE X A b xb) (hc:ZE X A c xc) (hm:lastMarks [op,op'] [b,c]=false):ZT X A (.Compare a [op,op'] [b,c] pos) (yt (ytI q q' xa xb xc)):=wT (yDD ho ho' ha.of hb.of hc.of hm) (ykD (yAL hq hq' sE sE sE))
theorem ytZ (ha:ZT X A a ca):ZT X A (.UnaryOp .Not a pos) (yDU ca):=wT (yJG ha.of) (yHC sT)
theorem ybL (h:ZE X A a xa) (he:∀ whole,isTrue a X.env whole=(do let v <- whole;standAt a.pos;holding [v] (truthy v))):ZT X A a (yt xa):=wT (yJD h.of he) (yKk sE)
theorem yET (h:ZW X A a ca):ZT X A a ca:=⟨PW.pt h.of⟩
theorem yua (ha:ZT X A a ca) (hb:ZW X A (.BoolOp .And (b::es) pos) cb):ZW X A (.BoolOp .And (a::b::es) pos) (yAH ca cb):=wW (yJF ha.of hb.of) (yHB sT sT)
theorem yzr (ha:ZT X A a ca) (hb:ZW X A (.BoolOp .Or (b::es) pos) cb):ZW X A (.BoolOp .Or (a::b::es) pos) (xOr ca cb):=wW (yMb ha.of hb.of) (yKl sT sT)
theorem yrL (ha:ZT X A a ca):ZW X A (.BoolOp .And [a] pos) ca:=⟨yGW ha.of⟩
theorem yub (ha:ZT X A a ca):ZW X A (.BoolOp .Or [a] pos) ca:=⟨yJE ha.of⟩
end
theorem yc:ZA X A [] 0 yn:=wA ynR ynU ywr
theorem ya (ha:ZE X A a xa) (hr:ZA X A es n aa) (hs:starEach (a::es) X.env=(false,eval a X.env)::starEach es X.env):ZA X A (a::es) (n+1) (yb xa aa):=wA (yhG ha.of hr.of hs) (yxX sE sA) (yDZ hr.len)
theorem ycp (h:ZA X A es n aa):ZO X A (.List es pos) (ygf aa):=wO (yJW h.of) (yHF sA)
theorem yca {q} (h:ZA X A es n aa):ZE X A (.Tuple es q pos) (yeD aa):=wE (yJV h.of) (yHE sA)
theorem yEU:ZP X A none yfH:=wP yHl yzd
theorem yel (h:ZE X A a xa):ZP X A (some a) (yhD xa):=wP (yHm h.of) (yEa sE)
section
variable {lo hi:Option Expr}{xl xh:PSt->AH->Option (Option Int×AH)}{p2:Pos}
theorem yON {r} {q} (hr:SlR X r) (hq:yHH (ckX X A) r q) (ha:ZE X A a xa) (hl:ZP X A lo xl) (hh:ZP X A hi xh):ZE X A (.Subscript a (.Slice lo hi none p2) pos) (xSl q xa xl xh):=wE (yxR hr ha.of hl.of hh.of) (yKo hq sE sP sP)
theorem ywG {r} {q} (hr:SlR X r) (hq:yAP (ckX X A) r q) (ha:ZE X A a xa) (hl:ZP X A lo xl) (hh:ZP X A hi xh):ZO X A (.Subscript a (.Slice lo hi none p2) pos) (yza q xa xl xh):=wO (yxR hr ha.of hl.of hh.of) (yHI hq sE sP sP)
end
theorem ybr {r:R2}{q:P2}(hr:IxR X r) (hq:ycQ (ckX X A) r q) (ha:ZE X A a xa) (hb:ZE X A b xb) (hs:yAw b):ZE X A (.Subscript a b pos) (xOp q xa xb):=wE (yMo hr ha.of hb.of hs) (yxW hq sE sE)
theorem yW {cs:List Nat}{f:Str}(hc:∀ k∈cs,Cls X.K (A k)/\NoAttr X.K (A k) f) (ha:ZE X A a xa) (hb:attributeBase a f X.env (eval a X.env)=eval a X.env):ZE X A (.Attribute a f pos) (ycg cs f xa):=wE (yJU ha.of hb) (yHT (K:=ckX X A) hc sE)
section
variable {f C:Addr}{fd:FuncData}{ps:List Str}{lv:Nat}{fn:Fn}
theorem yO (F:FnOk X.prog X.w X.K X.mg X.base CX0 lv f fd ps (spE (ckX X A) (n+1) fn)) (hr:Room lv X.A) (m:Nm x) (hg:Gl X x) (hm:X.mg x=some (.ref f)) (hk:keepIn X.K (.ref f)=true) (hb:Binds X.K fd ps [])
  (ha:ZA X A (a::es) (n+1) aa) (he:starEach (a::es) X.env=(false,eval a X.env)::starEach es X.env) (hpl:(backTo pos (starEach es X.env)).any (·.1)=false):ZE X A (.Call (.Name x p) (a::es) [] pos) (yba fn aa) :=
 wE (yHi F hr hg hm hk hb .nil yvZ ha.of m.d he hpl) (yDY sA ha.len)
theorem ykO {k:Nat}{fi} (M:Mk X.K (A k) f) (F:FnOk X.prog X.w X.K X.mg X.base CX0 lv f fd ps (spI (ckX X A) (n+1) k fi)) (hr:Room (lv+1) X.A) (m:Nm x) (hg:Gl X x) (hm:X.mg x=some (.ref (A k))) (hb:Binds X.K fd ps [])
  (ha:ZA X A (a::es) (n+1) aa) (he:starEach (a::es) X.env=(false,eval a X.env)::starEach es X.env) (hpl:(backTo pos (starEach es X.env)).any (·.1)=false):ZO X A (.Call (.Name x p) (a::es) [] pos) (ykF fi aa) :=
 wO (yHk M F hr hg hm hb .nil yvZ ha.of m.d he hpl) (yyc (K:=ckX X A) (k:=k) sA ha.len)
theorem yIx {k:Nat}(hm:makesIn X.K (A k)=true) (hi:findIn X.K (.ref (A k)) "__init__" = some (some (.builtin "object.__init__"))) (hk:keepIn X.K (.ref (A k))=true) (m:Nm x) (hg:Gl X x) (hmg:X.mg x=some (.ref (A k))):ZO X A (.Call (.Name x p) [] [] pos) (yyd k) :=
 wO (yDP hm hi hk hg hmg m.d) (yBb (K:=ckX X A))
theorem yBK {m:Str}{fm:Nat->Fn}{pl:Sem Bool}(he:ZE X A o xa) (G:ywe X.prog X.w X.K X.mg X.base lv A m (fun k=>spE (ckX X A) 1 (fm k))) (hr:Room lv X.A)
  (ht:eval (.Call (.Attribute o m apos) [] [] pos) X.env=(do
   let ov <- eval o X.env
   standAt apos.atName
   let (f,first) <- holding [ov] (getMethod ov m pl)
   callWith pos f first (backTo pos (starEach [] X.env)) (backToKw pos (keywordEach [] X.env)))):ZE X A (.Call (.Attribute o m apos) [] [] pos) (yzh m fm xa) :=
 wE (yAF he.of G hr ht) (yEw (K:=ckX X A) sE)
end
theorem yeQ {id:String}{r} {q} (hc:yjs X (.builtin id) r) (hq:yry (ckX X A) r q) (m:Nm x) (hg:Gl X x) (hm:X.mg x=none) (hv:bootBuiltins x=some (.builtin id)) (ha:ZA X A (a::es) n aa) (he:starEach (a::es) X.env=(false,eval a X.env)::starEach es X.env) (hpl:(backTo pos (starEach es X.env)).any (·.1)=false):ZE X A (.Call (.Name x p) (a::es) [] pos) (xCB q aa) :=
 wE (ynz hc hg hm hv ha.of m.n m.d he hpl) (yFY hq sA)
theorem yLd {T:String}{r} {q} (hc:yjs X (.type T) r) (hq:yry (ckX X A) r q) (m:Nm x) (hg:Gl X x) (hm:X.mg x=none) (hv:bootBuiltins x=some (.type T)) (ha:ZA X A (a::es) n aa) (he:starEach (a::es) X.env=(false,eval a X.env)::starEach es X.env) (hpl:(backTo pos (starEach es X.env)).any (·.1)=false):ZE X A (.Call (.Name x p) (a::es) [] pos) (xCB q aa) :=
 wE (ytm hc hg hm hv ha.of m.n m.d he hpl) (yFY hq sA)
theorem ydC {T:String}{r} {q} (hc:yjs X (.type T) r) (hq:ytJ (ckX X A) r q) (m:Nm x) (hg:Gl X x) (hm:X.mg x=none) (hv:bootBuiltins x=some (.type T)) (ha:ZA X A (a::es) n aa) (he:starEach (a::es) X.env=(false,eval a X.env)::starEach es X.env) (hpl:(backTo pos (starEach es X.env)).any (·.1)=false):ZO X A (.Call (.Name x p) (a::es) [] pos) (ykC q aa) :=
 wO (ytm hc hg hm hv ha.of m.n m.d he hpl) (yAO hq sA)
section
variable {name:Str}{cpos:Pos}{T id:String}{r:V->List V->Hp->VK->Prop}{cc:PV->AH->Bool}{q:PM}
theorem yLW (pa:PlainAttrs T) (slot:Slot T name id) (hty:typeOf (.builtin id)=pure (.type "method_descriptor")) (hm:MtR X id r) (hq:ytK (ckX X A) T cc r q) (ho:ZE X A o xa) (ha:ZA X A (a::es) n aa)
  (hbase:attributeBase o name X.env (eval o X.env)=eval o X.env)
  (hfew:((backTo cpos (starEach (a::es) X.env)).all (fun x=>!x.1) && (backToKw cpos (keywordEach [] X.env)).all (fun x=>x.1.isSome)
   && decide ((a::es).length+([]:List Keyword).length+(if ([]:List Keyword).isEmpty then 0 else 1)<30))=true)
  (hline:(apos.endLine == cpos.line)=true) (hs:starEach (a::es) X.env=(false,eval a X.env)::starEach es X.env) (hplain:(backTo cpos (starEach es X.env)).any (·.1)=false) :
  ZE X A (.Call (.Attribute o name apos) (a::es) [] cpos) (xBM cc q xa aa):=wE (yHn pa slot hty hm ho.of ha.of hbase hfew hline hs hplain) (yFZ (K:=ckX X A) hq sE sA)
theorem yIy (pa:PlainAttrs T) (slot:Slot T name id) (hty:typeOf (.builtin id)=pure (.type "method_descriptor")) (hm:MtR X id r) (hq:ytK (ckX X A) T cc r q) (ho:ZE X A o xa)
  (hbase:attributeBase o name X.env (eval o X.env)=eval o X.env) (hline:(apos.endLine == cpos.line)=true) :
  ZE X A (.Call (.Attribute o name apos) [] [] cpos) (xBM cc q xa yn):=wE (yFU pa slot hty hm ho.of hbase hline) (yHG (K:=ckX X A) hq sE)
theorem ygh {i:Nat}(ho:PE X o (yzX i)) (ha:ZE X A a xa)
  (hbase:attributeBase o "append" X.env (eval o X.env)=eval o X.env)
  (hfew:((backTo cpos (starEach [a] X.env)).all (fun x=>!x.1) && (backToKw cpos (keywordEach [] X.env)).all (fun x=>x.1.isSome)
   && decide ([a].length+([]:List Keyword).length+(if ([]:List Keyword).isEmpty then 0 else 1)<30))=true)
  (hline:(apos.endLine == cpos.line)=true) (hs:starEach [a] X.env=(false,eval a X.env)::starEach [] X.env) (hplain:(backTo cpos (starEach [] X.env)).any (·.1)=false)
  (hsw:swapsWith (.Call (.Attribute o "append" apos) [a] [] cpos) none pos.line X.env=pure false) :
  ZS X A (.Expr (.Call (.Attribute o "append" apos) [a] [] cpos) pos) (ygx i xa) :=
 wS (yrn (yHn plainAttrs_list PySem.F.slot_list_append PySem.F.type_list_append yhH ho (yhG ha.of ynR hs) hbase hfew hline hs hplain) hsw) (yEh (K:=ckX X A) i sE)
end
section
variable {tg:Expr}
theorem yog (h:ZE X A a xa):ZI X A tg a (xIL xa):=wI (yGY h.of) (yAT (K:=ckX X A) sE)
theorem yGv (h:ZE X A a xa):ZI X A tg a (xIS xa):=wI (yKd h.of) (yEj sE)
theorem ylQ (hg:Gl X "range") (hm:X.mg "range" = none) (ha:ZA X A [a] n aa) (hs:starEach [a] X.env=[(false,eval a X.env)]):ZI X A tg (.Call (.Name "range" p) [a] [] pos) (yDp aa):=wI (yAk hg hm ha.of hs) (yAU sA)
end
theorem yeR {i:Nat}(hN:X.N.Nodup) (hi:X.N[i]?=some x) (hx:Loc X.env.scope x) (hf:X.fn x=true\/X.env.scope.names.lookup x=some .local):ZG X A (.Name x pos) (yx i):=wG (yro hN hi hx hf) (ynW i)
theorem yyp {elt iter:Expr}{px:Pos}{scope:Scope}{cpos:Pos}{it:XA}{xe:XE}(ix:List Nat) (fr:List Str) (hc:X.calm=true) (hi:ZI X A (.Name x px) iter it) (hfr:FrOk X scope ix fr)
  (he:∀ (cl:List (Str×Addr)) (C:Addr) (s₃:Shared) (H₃:Hp) (fp:List Addr) (pins:List (Addr×Obj)),ZE (cxC X scope cl C (x::fr) s₃ H₃ fp pins) A elt xe)
  (hnd:(x::fr).Nodup) (hkind:scope.kind=.function) (hcell:∀ y∈scope.names,y.2≠.cell)
  (hnames:∀ y∈scope.names,y.2=.local->scope.names.lookup y.1=some .local) (hfree0:∀ y∈scope.names,y.2=.free->y.1∈fr) (hx:scope.names.lookup x=some .local)
  (hs:∀ v,foldedSetIterable iter X.env v=pure v):ZO X A (.ListComp elt [⟨.Name x px,iter,[],0⟩] scope cpos) (ynV it ix xe) :=
 wO (yHs ix fr hc hi.of hfr (te:=cE (ckX X A) xe) (fun cl C s₃ H₃ fp pins=>(he cl C s₃ H₃ fp pins).of) hnd hkind hcell hnames hfree0 hx hs) (yxZ (K:=ckX X A) ix sI sE)
section
variable {st:Stmt}{rest:List Stmt}{s u:XS}
theorem yq (h:ZE X A a xa):ZS X A (.Return (some a) pos) (ybg xa):=wS (yJN h.of) (yHK sE)
theorem ybT (h:ZE X A a xa) (hs:swapsWith a none pos.line X.env=pure false):ZS X A (.Expr a pos) (ydi xa):=wS (yrn h.of hs) (yEf sE)
theorem yA {i:Nat}{pos':Pos}(hN:X.N.Nodup) (hi:X.N[i]?=some x) (hx:Loc X.env.scope x) (h:ZE X A a xa) (hs:swapsWith a (some (.Name x pos')) pos.line X.env=pure false) (hf:X.fn x=true\/X.env.scope.names.lookup x=some .local):ZS X A (.Assign [.Name x pos'] a pos) (ybA xa (yx i)) :=
 wS (yFK hN hi hx h.of hs hf) (yAQ sE (ynW i))
theorem ylR {i:Nat}{pos':Pos}(hN:X.N.Nodup) (hi:X.N[i]?=some x) (hx:Loc X.env.scope x) (h:ZO X A a xo) (hs:swapsWith a (some (.Name x pos')) pos.line X.env=pure false) (hf:X.fn x=true\/X.env.scope.names.lookup x=some .local):ZS X A (.Assign [.Name x pos'] a pos) (yrA xo i) :=
 wS (yFK hN hi hx h.of hs hf) (yEg i sO)
theorem ycc {cs:List Nat}{f:Str}{pos':Pos}{i:Nat}(hc:∀ k∈cs,Cls X.K (A k)/\NoAttr X.K (A k) f) (ho:PE X o (yzX i)) (h:ZE X A a xa) (hs:swapsWith a (some (.Attribute o f pos')) pos.line X.env=pure false):ZF X A (.Assign [.Attribute o f pos'] a pos) (ydj cs i f xa):=wF (yFQ ho h.of hs) (yEt (K:=ckX X A) hc sE)
theorem yN {ca:XT}{l m:List Stmt}(hc:ZT X A c ca) (ha:ZSs X A l s) (hb:ZSs X A m u):ZS X A (.If c l m pos) (ybv ca s u):=wS (yMd hc.of ha.of hb.of) (yHL sT sS sS)
theorem yjc {tg iter:Expr}{it:XA}{y:XG}(hp:PassesOwn (model X.prog X.w) X.A X.env X.xe) (hc:X.calm=true) (hi:ZI X A tg iter it) (hg:ZG X A tg y) (hb:ZSs X A rest s) (hs:∀ x,foldedSetIterable iter X.env x=pure x):ZS X A (.For tg iter rest [] pos) (yxY it y s):=wS (yFM hp hc hi.of hg.of hb.of hs) (yHP sI sG sS)
theorem yyq {ca:XT}(fu:Nat) (hp:PassesOwn (model X.prog X.w) X.A X.env X.xe) (hc:ZT X A c ca) (hb:ZSs X A rest s):ZS X A (.While c rest [] pos) (ymA fu ca s):=wS (yDB hp hc.of hb.of) (yAV fu sT sS)
theorem yy:ZSs X A [] yV:=wSs yGX yEe
theorem yf (h:ZS X A st s):ZSs X A [st] s:=⟨yAf h.of⟩
theorem ye (h:ZS X A st s) (hr:ZSs X A rest u):ZSs X A (st::rest) (yw s u):=wSs (yxL h.of hr.of) (yHJ sS sS)
theorem ylS (i:Nat) (h:ZSs X A rest s):ZSs X A rest (yEc i s):=wSs h.of (yHN i sS)
theorem yeS (h:ZF X A st s):ZFs X A [st] s:=⟨yAf h.of⟩
theorem ybO (h:ZF X A st s) (hr:ZFs X A rest u):ZFs X A (st::rest) (yw s u):=wFs (yxL h.of hr.of) (yEu sF sF)
end
end
section
variable {P:Program}{w:World}{K:PySem.W.Frag}{mg:Str->Option Value}{base:Heap}{A:Nat->Addr}
theorem zfn {x qual:Str}{st:Stmt}{f:Addr}{fd:FuncData}{N ps:List Str}{k:Nat}{s:XS}(F:Fun K x qual st f fd) (S:yl N ps (yh st))
  (h:∀ (cdv:Value) (Ar:Around) (outer:List Env) (sh:Shared) (H:Hp) (E:XK),Room k (Ar.deeper (envOfC qual (yh st) sh.heap.objs.size f cdv))->ZSs (yDK CX0 P w K mg base N qual (yh st) f cdv Ar outer sh H E).nox A (yhI st) s) :
  FnOk P w K mg base CX0 (k+1) f fd ps (spE ⟨K,A⟩ ps.length (ycI N.length s)) :=
 F.ok S (fun _ _ _ _ h=>yHQ h) fun cdv Ar outer sh H vs Q E hr hq=>⟨_,(h cdv Ar outer sh H E hr).of,yEl (K:=⟨K,A⟩) sS hq⟩
theorem zin {x qual:Str}{st:Stmt}{f:Addr}{fd:FuncData}{N ps:List Str}{k kc n:Nat}{s:XS}(F:Fun K x qual st f fd) (S:yl N ps (yh st)) (hn:ps.length=n+1) (hN:n+1<=N.length)
  (h:∀ (cdv:Value) (Ar:Around) (outer:List Env) (sh:Shared) (H:Hp) (E:XK),Room k (Ar.deeper (envOfC qual (yh st) sh.heap.objs.size f cdv))->ZFs (yDK CX0 P w K mg base N qual (yh st) f cdv Ar outer sh H E).nox A (yhI st) s) :
  FnOk P w K mg base CX0 (k+1) f fd ps (spI ⟨K,A⟩ n kc (ytN N.length kc s)) :=
 F.ok S (fun _ _ _ _ h=>(yHU h).trans hn.symm) fun cdv Ar outer sh H vs Q E hr hq=>⟨_,(h cdv Ar outer sh H E hr).of,yEv (K:=⟨K,A⟩) hN sF hq⟩
end
end PX
namespace PX
open PySem L2 PySem.Spec PyProof.Rows
section
variable {X:Cx}{A:Nat->Addr}{a b c o i:Expr}{es:List Expr}{xa xb xc xd xk xv:XE}{xo:XO}{aa:XA}{pos p apos cpos pos':Pos}{x:Str}{n k:Nat}
theorem yhM (hu:X.A.units+1<cLine) (ho:ZE X A o xd) (hi:ZE X A i xk) (hs:yNn i):ZE X A (.Subscript o i pos) (yfm xd xk):=wE (yIg hu ho.of hi.of hs) (yEE sE sE)
theorem yLe (hu:X.A.units+1<cLine) (hi:ZE X A i xk) (ho:ZE X A o xd) (hm:behindInMarks .In o=false):ZT X A (.Compare i [.In] [o] pos) (yt (yBo false xk xd)):=wT (yFJ (yKQ hu hi.of ho.of) hm) (ykD (yIj sE sE))
theorem yBL (hu:X.A.units+1<cLine) (hi:ZE X A i xk) (ho:ZE X A o xd) (hm:behindInMarks .NotIn o=false):ZT X A (.Compare i [.NotIn] [o] pos) (yt (yBo true xk xd)):=wT (yFJ (yBj hu hi.of ho.of) hm) (ykD (yzl sE sE))
theorem ygy (hu:X.A.units+1<cLine) (ho:ZE X A o xd) (hi:ZE X A i xk) (hv:ZE X A a xv) (hs:swapsWith a (some (.Subscript o i pos')) pos.line X.env=pure false):ZS X A (.Assign [.Subscript o i pos'] a pos) (yfn xd xk xv):=wS (yIh hu ho.of hi.of hv.of hs) (yEF sE sE sE)
theorem yqO:ZO X A (.Dict [] [] pos) ynZ:=wO yEB yEG
theorem yIz (hu:X.A.units+1<cLine) (ho:ZE X A o xd) (hi:ZE X A i xk) (hb:ZE X A b xb) (m:M2 X o "get" apos i b cpos):ZE X A (.Call (.Attribute o "get" apos) [i,b] [] cpos) (ytT xd xk xb):=wE (yEC hu ho.of hi.of hb.of m) (yBp sE sE sE)
theorem yBM (h:ZE X A a xv) (ho:ZE X A o xd) (hi:ZE X A i xk)
  (ha:∀ v,assign (.Subscript o i pos') X.env v=(do
   let ov <- holding [v] (eval o X.env)
   let iv <- holding [v,ov] (eval i X.env)
   standAt pos'
   holding [v,ov,iv] (setItem ov iv v)
   release [v,ov,iv] []))
  (hs:swapsWithSole [.Subscript o i pos'] a pos.line X.env=pure false) (hw:swappedStores [.Subscript o i pos'] a X.env=pure none) (h1:(assignEach [.Subscript o i pos'] X.env).map (·.2)=[assign (.Subscript o i pos') X.env]) :
  ZS X A (.Assign [.Subscript o i pos'] a pos) (ytS xd xk xv):=wS (yJP h.of (yJO ho.of hi.of set_list ha) hs hw h1) (yED sE sE sE)
end
end PX
namespace PX
open PySem L2 PySem.Spec PyProof.Rows
theorem yLf:bootBuiltins "max" = some (.builtin "max"):=by rfl'
theorem yoh:bootBuiltins "sorted" = some (.builtin "sorted"):=by rfl'
theorem ywH:bootBuiltins "reversed" = some (.type "reversed"):=by rfl'
section
variable {X:Cx}{A:Nat->Addr}{a b c o:Expr}{es:List Expr}{xa xb xc:XE}{pos p apos cpos:Pos}{x:Str}{n k:Nat}
theorem yLg {i:Nat}(ho:PE X o (yzX i)) (ha:ZE X A a xa)
  (hbase:attributeBase o "extend" X.env (eval o X.env)=eval o X.env)
  (hfew:((backTo cpos (starEach [a] X.env)).all (fun x=>!x.1) && (backToKw cpos (keywordEach [] X.env)).all (fun x=>x.1.isSome)
   && decide ([a].length+([]:List Keyword).length+(if ([]:List Keyword).isEmpty then 0 else 1)<30))=true)
  (hline:(apos.endLine == cpos.line)=true) (hs:starEach [a] X.env=(false,eval a X.env)::starEach [] X.env) (hplain:(backTo cpos (starEach [] X.env)).any (·.1)=false)
  (hsw:swapsWith (.Call (.Attribute o "extend" apos) [a] [] cpos) none pos.line X.env=pure false) :
  ZS X A (.Expr (.Call (.Attribute o "extend" apos) [a] [] cpos) pos) (yzm i xa) :=
 wS (yrn (yHn plainAttrs_list PySem.F.slot_list_extend PySem.F.type_list_extend yAy ho (yhG ha.of ynR hs) hbase hfew hline hs hplain) hsw) (yEH (K:=ckX X A) i sE)
theorem yLh {i:Nat}(ho:PE X a (yzX i)) (m:Nm x) (hg:Gl X x) (hm:X.mg x=none) (hv:bootBuiltins x=some (.builtin "len")) (he:starEach [a] X.env=(false,eval a X.env)::starEach [] X.env) (hpl:(backTo pos (starEach [] X.env)).any (·.1)=false) :
  ZE X A (.Call (.Name x p) [a] [] pos) (yBu i) :=
 wE (ynz ybj hg hm hv (yhG ho ynR he) m.n m.d he hpl) (yEI (K:=ckX X A) i)
end
section
theorem yLi {a b c:Int}(hc:0<c):Builtin.Range.rangeSize a b c=(szR a b c:Int):=by
 unfold Builtin.Range.rangeSize szR
 rw [if_pos hc]
 split
 .have:=Int.ediv_nonneg (a:=b-a-1) (b:=c) (by omega) (by omega)
  omega
 .rfl
theorem yEV {a b c:Int}(h:0<=a/\a<1000000000/\0<=b/\b<1000000000/\0<c/\c<1000000):Builtin.Range.small a b c=true:=by
 obtain ⟨h1,h2,h3,h4,h5,h6⟩:=h
 unfold Builtin.Range.small
 have hs:Builtin.Range.rangeSize a b c<=1000000000/\0<=Builtin.Range.rangeSize a b c:=by
  unfold Builtin.Range.rangeSize
  rw [if_pos h5]
  split
  .have:=Int.ediv_nonneg (a:=b-a-1) (b:=c) (by omega) (by omega)
   have:=Int.ediv_le_self c (show (0:Int)<=b-a-1 by omega)
   omega
  .omega
 simp only [Builtin.Range.rangeFitsLong,and_eq_true,Bool.or_eq_true,decide_eq_true_eq,beq_iff_eq,show c>0 from h5,if_true]
 omega
theorem yoi {P:Program}{w:World}{K:PySem.W.Frag}{tg:Expr}(it:Addr) (lo st:Int) (n:Nat):Turn P w K tg (yJn lo st n) [it] it (fun i h=>IsRangeIter h it (lo+(i:Nat)*st) ((n:Int)-(i:Nat)) st) where
 mem:=by simp
 obj:=fun i h st b hb=>by
  have e:b=it:=by simpa using hb
  subst e
  exact ⟨_,st,fun v z=>by
   have z':Data.fields _=Data.cell v:=z
   cases z'⟩
 keep:=fun i h h' st k=>k it (by simp) _ st
 item:=by
  intro X hP hw hK hc i pins s σ H E I hf st' hg
  subst hP hw hK
  obtain ⟨f0,f1,f2,f3,f4,f5⟩:=hf it (by simp)
  have W:=Walks.range (prog:=X.prog) (w:=X.w) (I.ok.hd hc) it lo st n
  refine W.item i s _ _ hg st' fun v h' tk hv st'' kk=>?_
  obtain ⟨t,rfl⟩:=hv
  have I1:Inv X pins σ H { s with heap:=h',toks:=tk }:=I.turned (fun b o hb e=>kk b o (by simpa using hb) e) f0 f1 f3 f4 f5
  exact ⟨_,rfl,yAi (s:={ s with heap:=h',toks:=tk }) (n:="range_iterator") st'' rfl rfl (by decide) ⟨.int (lo+i*st),H,I1,⟨t,rfl⟩,⟨rfl,rfl⟩,st'',fun b hb=>(hf b hb).1⟩⟩
 done:=by
  intro X hP hw hK hc i pins s σ H E I hf st hg
  subst hP hw hK
  obtain ⟨f0,f1,f2,f3,f4,f5⟩:=hf it (by simp)
  exact wpAny_pyNext_range_end (I.ok.hd hc) st (by have:n<=i:=hg;omega) fun h' eb=>⟨rfl,I.turned (t':=s.toks) (fun b o hb e=>eb b o hb e) f0 f1 f3 f4 f5⟩
 self:=fun _ _ _ _ _ st h=>wpAny_pyIter_rangeiter st h
variable {X:Cx}{A:Nat->Addr}{tg a b c:Expr}{p pos:Pos}{aa:XA}{n:Nat}
theorem yBN {pins:List (Addr×Obj)}{σ:L2.St}{H:Hp}{s:Shared}{R:It->Hp->Prop}{E:Value->Shared->Prop}{lo hi st:Int}{t u v:Tok}{tk:Nat}(I:Inv X pins σ H s) (h:0<=lo/\lo<1000000000/\0<=hi/\hi<1000000000/\0<st/\st<1000000)
  (q:R (yJn lo st (szR lo hi st)) H):wpAny (model X.prog X.w) X.A (pyIter (.ref s.heap.objs.size)) (PIE X pins σ tg R) E { s with heap:=s.heap.push { cls:=.type "range",data:=.fields #[.int lo t,.int hi u,.int st v] },toks:=tk }:=by
 refine wpAny_pyIter_range (IsRange.new ..) (yEV h) ?_
 have I1:Inv X pins σ H { s with heap:=s.heap.push { cls:=.type "range",data:=.fields #[.int lo t,.int hi u,.int st v] },toks:=tk }:=I.kept fun b o e=>Heap.get?_push_of_some _ e
 refine ⟨(s.heap.push { cls:=.type "range",data:=.fields #[.int lo t,.int hi u,.int st v] }).objs.size,[(s.heap.push { cls:=.type "range",data:=.fields #[.int lo t,.int hi u,.int st v] }).objs.size],_,_,H,rfl,
  I1.kept (t':=tk) fun b o e=>Heap.get?_push_of_some _ e,yoi _ lo st (szR lo hi st),?_,fun b hb=>?_,q⟩
 .have e1:lo+((0:Nat):Int)*st=lo:=by simp
  have e2:((szR lo hi st:Nat):Int)-((0:Nat):Int)=Builtin.Range.rangeSize lo hi st:=by rw [yLi h.2.2.2.2.1];omega
  show IsRangeIter _ _ (lo+((0:Nat):Int)*st) (((szR lo hi st:Nat):Int)-((0:Nat):Int)) st
  rw [e1,e2]
  exact Heap.get?_push_size _ rfl
 .have e:b=(s.heap.push { cls:=.type "range",data:=.fields #[.int lo t,.int hi u,.int st v] }).objs.size:=by simpa using hb
  subst e
  exact I1.fpOk (Nat.le_refl _) (I1.hok.fresh (Nat.le_refl _))
theorem yBO {ta:TA}(hg:Gl X "range") (hm:X.mg "range" = none) (ha:PA X [a,b,c] ta) (hs:starEach [a,b,c] X.env=[(false,eval a X.env),(false,eval b X.env),(false,eval c X.env)]) (hs2:starEach [b,c] X.env=[(false,eval b X.env),(false,eval c X.env)]) :
  PI X tg (.Call (.Name "range" p) [a,b,c] [] pos) (yKW ta):=by
 intro pins s σ H R I h
 refine Call_ (ynM I hg hm boot_range (PyProof.Rows.callWith_type1 (thn (ha pos pins s σ H _ I h) fun us s1 ⟨vs,H1,I1,r1,q1⟩=>?_) (by rw [hs,hs2]) (by rw [hs2];rfl)))
 obtain ⟨i,j,k,e,hc,q⟩:=q1
 subst e
 cases r1 with
 | cons r rr =>
  cases rr with
  | cons r' rr =>
   cases rr with
   | cons r'' rr =>
    cases rr
    obtain ⟨t,rfl⟩:=r
    obtain ⟨t',rfl⟩:=r'
    obtain ⟨t'',rfl⟩:=r''
    exact call_range_3 (by omega) (yBN I1 hc q) (Or.inl (PyProof.noPylong_small (by omega)))
theorem yIA (hg:Gl X "range") (hm:X.mg "range" = none) (ha:ZA X A [a,b,c] n aa) (hs:starEach [a,b,c] X.env=[(false,eval a X.env),(false,eval b X.env),(false,eval c X.env)]) (hs2:starEach [b,c] X.env=[(false,eval b X.env),(false,eval c X.env)]):ZI X A tg (.Call (.Name "range" p) [a,b,c] [] pos) (yKX aa):=wI (yBO hg hm ha.of hs hs2) (yBw sA)
end
section
theorem yem {xs:List V}{its:List Value}(r:Vals xs its) {j:Nat}(hj:j<its.toArray.size):∃ x,xs[j]?=some x/\RelV x its.toArray[j]:=by
 have hl:=r.length
 have j1:j<its.length:=by simpa using hj
 have x1:xs[j]?=some xs[j]:=List.getElem?_eq_getElem (by omega)
 obtain ⟨u1,q1,w1⟩:=r.get x1
 have g1:its.toArray[j]=u1:=by
  have:=List.getElem?_eq_getElem j1
  rw [q1] at this
  simpa using (Option.some.inj this).symm
 exact ⟨_,x1,by rw [g1];exact w1⟩
variable {X:Cx}
theorem yyr {pins:List (Addr×Obj)}{σ:L2.St}{H:Hp}{s:Shared}(I:Inv X pins σ H s) {n:Nat}{x y:V}{b:Bool}(r:EqR X.K H n x y b):∀ {A:Around}{u v:Value},RelV x u->RelV y v->A.units+n<cLine->SeqAt.EqAt A s u v b:=by
 induction r with
 | flat fx fy=>exact fun rx ry _=>eqAt_V rx ry fx fy
 | same =>
  intro A u v rx ry _
  cases rx
  cases ry
  exact SeqAt.EqAt.same _
 | odd h =>
  obtain ⟨a,o,ob,h1,h2⟩:=h
  have:=(I.bs a ob (I.ok.mod.kin a ob h2)).2
  rw [h1] at this
  cases this
 | nt hb =>
  intro A u v rx ry hu
  cases rx
  cases ry
  obtain ⟨i2,r2,p2,z2⟩:=I.tuple hb
  exact SeqAt.EqAt.none_tuple p2 (by omega)
 | tn hb =>
  intro A u v rx ry hu
  cases rx
  cases ry
  obtain ⟨i2,r2,p2,z2⟩:=I.tuple hb
  exact SeqAt.EqAt.tuple_none p2 (by omega)
 | @lst n a b xs ys e ha hb hl hne he ih =>
  intro A u v rx ry hu
  cases rx
  cases ry
  obtain ⟨i1,n1,r1,e1,z1⟩:=I.lst ha
  obtain ⟨i2,n2,r2,e2,z2⟩:=I.lst hb
  have l1:=r1.length
  have l2:=r2.length
  rw [show xs.length=i1.toArray.size by simp only [size_toArray];omega]
  refine SeqAt.EqAt.of_refs hne (SeqAt.RcAt.lists ⟨_,e1,rfl,n1,rfl⟩ ⟨_,e2,rfl,n2,rfl⟩ (by simp only [size_toArray];omega) (by omega) fun j j1 j2=>?_)
  obtain ⟨x1,q1,w1⟩:=yem r1 j1
  obtain ⟨y1,q2,w2⟩:=yem r2 j2
  exact ih j x1 y1 q1 q2 w1 w2 (by show A.units+1+n<cLine;omega)
 | @lstN n a b xs ys ha hb hl =>
  intro A u v rx ry hu
  cases rx
  cases ry
  obtain ⟨i1,n1,r1,e1,z1⟩:=I.lst ha
  obtain ⟨i2,n2,r2,e2,z2⟩:=I.lst hb
  have l1:=r1.length
  have l2:=r2.length
  have hne:a≠b:=fun z=>by subst z;rw [ha] at hb;cases hb;exact hl rfl
  exact SeqAt.EqAt.of_refs hne (SeqAt.RcAt.lists_lengths ⟨_,e1,rfl,n1,rfl⟩ ⟨_,e2,rfl,n2,rfl⟩ (by simp only [size_toArray,bne_iff_ne];omega) (by omega))
 | @tup n a b xs ys e ha hb hne he ih =>
  intro A u v rx ry hu
  cases rx
  cases ry
  obtain ⟨i1,r1,p1,z1⟩:=I.tuple ha
  obtain ⟨i2,r2,p2,z2⟩:=I.tuple hb
  have l1:=r1.length
  have l2:=r2.length
  rw [show xs.length=i1.toArray.size by simp only [size_toArray];omega,show ys.length=i2.toArray.size by simp only [size_toArray];omega]
  refine SeqAt.EqAt.of_refs hne (SeqAt.RcAt.tuples p1 p2 (by omega) fun j j1 j2=>?_)
  obtain ⟨x1,q1,w1⟩:=yem r1 j1
  obtain ⟨y1,q2,w2⟩:=yem r2 j2
  exact ih j x1 y1 q1 q2 w1 w2 (by show A.units+1+n<cLine;omega)
theorem yBP (hu:X.A.units+60<cLine):OpR X (compareOp .Eq) (yOj X.K):=by
 intro pins s σ H x y v u Q I rx ry h
 obtain ⟨b,hb,q⟩:=h
 cases hb with
 | nt hb =>
  cases rx
  cases ry
  obtain ⟨i2,r2,p2,z2⟩:=I.tuple hb
  exact SeqAt.RcAt.none_tuple p2 (by omega) _ _ _ _ ⟨.bl _,H,I,rfl,q⟩
 | tn hb =>
  cases rx
  cases ry
  obtain ⟨i2,r2,p2,z2⟩:=I.tuple hb
  exact SeqAt.RcAt.tuple_none p2 (by omega) _ _ _ _ ⟨.bl _,H,I,rfl,q⟩
 | @lst a b xs ys e ha hb hl he =>
  cases rx
  cases ry
  obtain ⟨i1,n1,r1,e1,z1⟩:=I.lst ha
  obtain ⟨i2,n2,r2,e2,z2⟩:=I.lst hb
  have l1:=r1.length
  have l2:=r2.length
  rw [show xs.length=i1.toArray.size by simp only [size_toArray];omega] at q
  refine SeqAt.RcAt.lists ⟨_,e1,rfl,n1,rfl⟩ ⟨_,e2,rfl,n2,rfl⟩ (by simp only [size_toArray];omega) (by omega) (fun j j1 j2=>?_) _ _ _ _ ⟨.bl _,H,I,rfl,q⟩
  obtain ⟨x1,q1,w1⟩:=yem r1 j1
  obtain ⟨y1,q2,w2⟩:=yem r2 j2
  exact yyr I (he j x1 y1 q1 q2) w1 w2 (by show X.A.units+1+40<cLine;omega)
 | @lstN a b xs ys ha hb hl =>
  cases rx
  cases ry
  obtain ⟨i1,n1,r1,e1,z1⟩:=I.lst ha
  obtain ⟨i2,n2,r2,e2,z2⟩:=I.lst hb
  have l1:=r1.length
  have l2:=r2.length
  exact SeqAt.RcAt.lists_lengths ⟨_,e1,rfl,n1,rfl⟩ ⟨_,e2,rfl,n2,rfl⟩ (by simp only [size_toArray,bne_iff_ne];omega) (by omega) _ _ _ _ ⟨.bl _,H,I,rfl,q⟩
 | @tup a b xs ys e ha hb he =>
  cases rx
  cases ry
  obtain ⟨i1,r1,p1,z1⟩:=I.tuple ha
  obtain ⟨i2,r2,p2,z2⟩:=I.tuple hb
  have l1:=r1.length
  have l2:=r2.length
  rw [show xs.length=i1.toArray.size by simp only [size_toArray];omega,show ys.length=i2.toArray.size by simp only [size_toArray];omega] at q
  refine SeqAt.RcAt.tuples p1 p2 (by omega) (fun j j1 j2=>?_) _ _ _ _ ⟨.bl _,H,I,rfl,q⟩
  obtain ⟨x1,q1,w1⟩:=yem r1 j1
  obtain ⟨y1,q2,w2⟩:=yem r2 j2
  exact yyr I (he j x1 y1 q1 q2) w1 w2 (by show X.A.units+1+40<cLine;omega)
theorem yLj (hu:X.A.units+60<cLine):OpR X (compareOp .NotEq) (yOk X.K):=by
 intro pins s σ H x y v u Q I rx ry h
 obtain ⟨b,hb,q⟩:=h
 cases hb with
 | nt hb =>
  cases rx
  cases ry
  obtain ⟨i2,r2,p2,z2⟩:=I.tuple hb
  exact SeqAt.RcNeAt.none_tuple p2 (by omega) _ _ _ _ ⟨.bl _,H,I,rfl,q⟩
 | tn hb =>
  cases rx
  cases ry
  obtain ⟨i2,r2,p2,z2⟩:=I.tuple hb
  exact SeqAt.RcNeAt.tuple_none p2 (by omega) _ _ _ _ ⟨.bl _,H,I,rfl,q⟩
 | @lst a b xs ys e ha hb hl he =>
  cases rx
  cases ry
  obtain ⟨i1,n1,r1,e1,z1⟩:=I.lst ha
  obtain ⟨i2,n2,r2,e2,z2⟩:=I.lst hb
  have l1:=r1.length
  have l2:=r2.length
  rw [show xs.length=i1.toArray.size by simp only [size_toArray];omega] at q
  refine SeqAt.RcNeAt.lists ⟨_,e1,rfl,n1,rfl⟩ ⟨_,e2,rfl,n2,rfl⟩ (by simp only [size_toArray];omega) (by omega) (fun j j1 j2=>?_) _ _ _ _ ⟨.bl _,H,I,rfl,q⟩
  obtain ⟨x1,q1,w1⟩:=yem r1 j1
  obtain ⟨y1,q2,w2⟩:=yem r2 j2
  exact yyr I (he j x1 y1 q1 q2) w1 w2 (by show X.A.units+1+40<cLine;omega)
 | @lstN a b xs ys ha hb hl =>
  cases rx
  cases ry
  obtain ⟨i1,n1,r1,e1,z1⟩:=I.lst ha
  obtain ⟨i2,n2,r2,e2,z2⟩:=I.lst hb
  have l1:=r1.length
  have l2:=r2.length
  exact SeqAt.RcNeAt.lists_lengths ⟨_,e1,rfl,n1,rfl⟩ ⟨_,e2,rfl,n2,rfl⟩ (by simp only [size_toArray,bne_iff_ne];omega) (by omega) _ _ _ _ ⟨.bl _,H,I,rfl,q⟩
 | @tup a b xs ys e ha hb he =>
  cases rx
  cases ry
  obtain ⟨i1,r1,p1,z1⟩:=I.tuple ha
  obtain ⟨i2,r2,p2,z2⟩:=I.tuple hb
  have l1:=r1.length
  have l2:=r2.length
  rw [show xs.length=i1.toArray.size by simp only [size_toArray];omega,show ys.length=i2.toArray.size by simp only [size_toArray];omega] at q
  refine SeqAt.RcNeAt.tuples p1 p2 (by omega) (fun j j1 j2=>?_) _ _ _ _ ⟨.bl _,H,I,rfl,q⟩
  obtain ⟨x1,q1,w1⟩:=yem r1 j1
  obtain ⟨y1,q2,w2⟩:=yem r2 j2
  exact yyr I (he j x1 y1 q1 q2) w1 w2 (by show X.A.units+1+40<cLine;omega)
theorem yys {k:Nat}{A:Around}(r:Room k A):A.units+60<cLine:=by have:=r.un;omega
end
end PX
namespace PX
open PySem L2 PySem.Spec PyProof.Rows
section
variable {X:Cx}{A:Nat->Addr}{o e:Expr}{es:List Expr}{xa xb:XE}{aa:XA}{pos apos pos':Pos}{m f:Str}{n k kc:Nat}{pl:Sem Bool}{p:Fn}{fa:Addr}{fd:FuncData}{ps:List Str}
theorem yS (ho:ZE X A o xa) (c:Cls X.K (A kc)) (hm:ycq X.K (A kc) m fa) (F:FnOk X.prog X.w X.K X.mg X.base CX0 k fa fd ps (spE (ckX X A) (n+1) p)) (hr:Room k X.A) (hb:Binds X.K fd ps []) (ha:ZA X A (e::es) n aa)
  (hst:starEach (e::es) X.env=(false,eval e X.env)::starEach es X.env) (hpl:(backTo pos (starEach es X.env)).any (·.1)=false)
  (ht:eval (.Call (.Attribute o m apos) (e::es) [] pos) X.env=(do
   let ov <- eval o X.env
   standAt apos.atName
   let (f,first) <- holding [ov] (getMethod ov m pl)
   callWith pos f first (backTo pos (starEach (e::es) X.env)) (backToKw pos (keywordEach [] X.env)))) :
  ZE X A (.Call (.Attribute o m apos) (e::es) [] pos) (yK kc m p xa aa):=wE (yHj ho.of c hm F hr hb .nil yvZ ha.of hst hpl ht) (ytU (K:=ckX X A) sE sA ha.len)
theorem yiU (ho:ZE X A o xa) (c:Cls X.K (A kc)) (hm:ycq X.K (A kc) m fa) (F:FnOk X.prog X.w X.K X.mg X.base CX0 k fa fd ps (spE (ckX X A) 1 p)) (hr:Room k X.A) (hb:Binds X.K fd ps [])
  (ht:eval (.Call (.Attribute o m apos) [] [] pos) X.env=(do
   let ov <- eval o X.env
   standAt apos.atName
   let (f,first) <- holding [ov] (getMethod ov m pl)
   callWith pos f first (backTo pos (starEach [] X.env)) (backToKw pos (keywordEach [] X.env)))) :
  ZE X A (.Call (.Attribute o m apos) [] [] pos) (yK kc m p xa yn):=wE (yDI ho.of c hm F hr hb .nil yvZ ht) (ytU (K:=ckX X A) (n:=0) sE ynU ywr)
theorem yIB {cs:List Nat}{value:Expr}(hc:∀ k∈cs,Cls X.K (A k)/\NoAttr X.K (A k) f) (ho:ZE X A o xa) (hv:ZE X A value xb) (hs:swapsWith value (some (.Attribute o f pos')) pos.line X.env=pure false) :
  ZS X A (.Assign [.Attribute o f pos'] value pos) (yBx cs f xa xb):=wS (yFQ ho.of hv.of hs) (yEL (K:=ckX X A) hc sE sE)
end
end PX
namespace KasS
open PySem PySem.W PyProof.Rows
def run {α:Type}(lt:Nat->Nat->Bool):KasT α->α
 | .ret a=>a
 | .ask i j k=>run lt (k (lt i j))
theorem yiV {α β:Type}(lt:Nat->Nat->Bool) (f:α->KasT β):∀ t:KasT α,run lt (t.bind f)=run lt (f (run lt t))
 | .ret _=>rfl
 | .ask i j k=>yiV lt f (k (lt i j))
section
variable (key:Nat->Int)
def ltK (i j:Nat):Bool:=decide (key i<key j)
def Kp (p:Array Nat) (i:Nat):Int:=key (p[i]?.getD 0)
def Up (p:Array Nat) (k:Nat):Prop:=∀ i j,i<=j->j<k->Kp key p i<=Kp key p j
def Dn (p:Array Nat) (k:Nat):Prop:=∀ i j,i<=j->j<k->Kp key p j<=Kp key p i
variable {key}
theorem yoj (p:Array Nat) (i:Nat):p.getD i 0=p[i]?.getD 0:=by simp [Array.getD_eq_getD_getElem?]
theorem yBQ (p:Array Nat) (i j:Nat):ltK key (p.getD i 0) (p.getD j 0)=decide (Kp key p i<Kp key p j):=by rw [yoj,yoj];rfl
theorem Up.succ {p:Array Nat}{n:Nat}(h:Up key p n) (h1:1<=n) (hn:Kp key p (n-1)<=Kp key p n):Up key p (n+1):=fun i j hij hj=>by
 by_cases e:j=n
 .subst e
  by_cases e2:i=j
  .subst e2;exact Int.le_refl _
  .exact Int.le_trans (h i (j-1) (by omega) (by omega)) hn
 .exact h i j hij (by omega)
theorem Dn.succ {p:Array Nat}{n:Nat}(h:Dn key p n) (h1:1<=n) (hn:Kp key p n<=Kp key p (n-1)):Dn key p (n+1):=fun i j hij hj=>by
 by_cases e:j=n
 .subst e
  by_cases e2:i=j
  .subst e2;exact Int.le_refl _
  .exact Int.le_trans hn (h i (j-1) (by omega) (by omega))
 .exact h i j hij (by omega)
theorem yBR (p:Array Nat):∀ (f n:Nat),1<=n->Up key p n->n<=run (ltK key) (kas_asc p f n)/\run (ltK key) (kas_asc p f n)<=n+f/\Up key p (run (ltK key) (kas_asc p f n))/\(run (ltK key) (kas_asc p f n)<n+f->Kp key p (run (ltK key) (kas_asc p f n))<Kp key p (run (ltK key) (kas_asc p f n)-1))
 | 0,n,_,h=>⟨Nat.le_refl _,Nat.le_refl _,h,fun z=>by exact absurd z (lt_irrefl _)⟩
 | f+1,n,h1,h=>by
  have e:run (ltK key) (kas_asc p (f+1) n)=run (ltK key) (if ltK key (p.getD n 0) (p.getD (n-1) 0)=true then .ret n else kas_asc p f (n+1)):=rfl
  rw [e,yBQ]
  by_cases hc:Kp key p n<Kp key p (n-1)
  .rw [decide_eq_true hc,if_pos rfl]
   exact ⟨Nat.le_refl _,by show n<=n+(f+1);omega,h,fun _=>hc⟩
  .rw [decide_eq_false hc,if_neg (by simp)]
   obtain ⟨a,b,c,d⟩:=yBR p f (n+1) (by omega) (h.succ h1 (by omega))
   exact ⟨by omega,by omega,c,fun z=>d (by omega)⟩
theorem yBS {p:Array Nat}{i j:Nat}(hj:j<=p.size) (k:Nat):Kp key (kas_rev p i j) k=if i<=k/\k<j then Kp key p (i+j-1-k) else Kp key p k:=by
 unfold Kp kas_rev
 rw [getElem?_mirror_all hj]
 split<;>rfl
theorem ygz (p:Array Nat) (i j:Nat):(kas_rev p i j).size=p.size:=mirror_size _ _ _ _
theorem yeF (p:Array Nat) (i j:Nat):(kas_rev p i j).Perm p:=mirror_perm _ _ _ _
theorem yok {p:Array Nat}{i j:Nat}(hj:j<=p.size) (he:∀ k,i<=k->k<j->Kp key p k=Kp key p (j-1)) (k:Nat):Kp key (kas_rev p i j) k=Kp key p k:=by
 rw [yBS hj]
 split
 .rename_i h
  rw [he (i+j-1-k) (by omega) (by omega),he k h.1 h.2]
 .rfl
theorem yrM:∀ (f:Nat) (p:Array Nat) (n q:Nat),n+f<=p.size->q+1<=n->Dn key p n->(∀ k,n-(q+1)<=k->k<n->Kp key p k=Kp key p (n-1)) ->
  let r:=run (ltK key) (kas_desc f p n q)
  r.1.Perm p/\r.1.size=p.size/\n<=r.2.1/\r.2.1<=n+f/\r.2.2+1<=r.2.1/\Dn key r.1 r.2.1/\(∀ k,r.2.1-(r.2.2+1)<=k->k<r.2.1->Kp key r.1 k=Kp key r.1 (r.2.1-1))
 | 0,p,n,q,hs,hq,hd,he=>⟨Array.Perm.refl _,rfl,Nat.le_refl _,Nat.le_refl _,hq,hd,he⟩
 | f+1,p,n,q,hs,hq,hd,he=>by
  intro r
  have e:r=run (ltK key) (if ltK key (p.getD n 0) (p.getD (n-1) 0)=true then (if q>0 then kas_desc f (kas_rev p (n-(q+1)) n) (n+1) 0 else kas_desc f p (n+1) 0)
   else .ask (p.getD (n-1) 0) (p.getD n 0) fun d=>if d=true then .ret (p,n,q) else kas_desc f p (n+1) (q+1)):=rfl
  rw [yBQ] at e
  by_cases hc:Kp key p n<Kp key p (n-1)
  .rw [decide_eq_true hc,if_pos rfl] at e
   by_cases h0:q>0
   .rw [if_pos h0] at e
    have kk:∀ k,Kp key (kas_rev p (n-(q+1)) n) k=Kp key p k:=fun k=>yok (by omega) he k
    have hd':Dn key (kas_rev p (n-(q+1)) n) (n+1):=fun i j hij hj=>by
     rw [kk,kk]
     exact hd.succ (by omega) (by omega) i j hij hj
    obtain ⟨a1,a2,a3,a4,a5,a6,a7⟩:=yrM f (kas_rev p (n-(q+1)) n) (n+1) 0 (by rw [ygz];omega) (by omega) hd' (fun k h1 h2=>by rw [show k=n+1-1 by omega])
    rw [e]
    exact ⟨a1.trans (yeF _ _ _),a2.trans (ygz _ _ _),by omega,by omega,a5,a6,a7⟩
   .rw [if_neg h0] at e
    obtain ⟨a1,a2,a3,a4,a5,a6,a7⟩:=yrM f p (n+1) 0 (by omega) (by omega) (hd.succ (by omega) (by omega)) (fun k h1 h2=>by rw [show k=n+1-1 by omega])
    rw [e]
    exact ⟨a1,a2,by omega,by omega,a5,a6,a7⟩
  .rw [decide_eq_false hc,if_neg (by simp)] at e
   have e:r=run (ltK key) (if ltK key (p.getD (n-1) 0) (p.getD n 0)=true then .ret (p,n,q) else kas_desc f p (n+1) (q+1)):=e
   rw [yBQ] at e
   by_cases hc2:Kp key p (n-1)<Kp key p n
   .rw [decide_eq_true hc2,if_pos rfl] at e
    rw [e]
    exact ⟨Array.Perm.refl _,rfl,Nat.le_refl _,by show n<=n+(f+1);omega,hq,hd,he⟩
   .rw [decide_eq_false hc2,if_neg (by simp)] at e
    have heq:Kp key p n=Kp key p (n-1):=by omega
    obtain ⟨a1,a2,a3,a4,a5,a6,a7⟩:=yrM f p (n+1) (q+1) (by omega) (by omega) (hd.succ (by omega) (by omega)) (fun k h1 h2=>by
     by_cases hk:k=n
     .rw [hk];rfl
     .rw [he k (by omega) (by omega),show n+1-1=n by omega,heq])
    rw [e]
    exact ⟨a1,a2,by omega,by omega,a5,a6,a7⟩
theorem Dn.rev {p:Array Nat}{n:Nat}(hn:n<=p.size) (h:Dn key p n):Up key (kas_rev p 0 n) n:=fun i j hij hj=>by
 rw [yBS hn,yBS hn,if_pos ⟨by omega,by omega⟩,if_pos ⟨by omega,by omega⟩]
 exact h _ _ (by omega) (by omega)
theorem yyt {p:Array Nat}{n nrem:Nat}(h1:1<=n) (hn:n<=nrem) (hs:nrem<=p.size) (h:Dn key p n) :
  let r:=run (ltK key) (kas_tail3 n nrem p)
  r.2.Perm p/\r.2.size=p.size/\1<=r.1/\r.1<=nrem/\Up key r.2 r.1:=by
 intro r
 have e:r=(run (ltK key) (kas_asc (kas_rev p 0 n) (nrem-n) n),kas_rev p 0 n):=by show run _ (KasT.bind _ _)=_;rw [yiV];rfl
 obtain ⟨a,b,c,_⟩:=yBR (kas_rev p 0 n) (nrem-n) n h1 (h.rev (by omega))
 rw [e]
 exact ⟨yeF _ _ _,ygz _ _ _,by omega,by omega,c⟩
theorem yol {p:Array Nat}{n nrem:Nat}(h1:1<=n) (hn:n<nrem) (hs:nrem<=p.size) (h:Dn key p (n+1)) :
  let r:=run (ltK key) (kas_descPart n nrem p)
  r.2.Perm p/\r.2.size=p.size/\1<=r.1/\r.1<=nrem/\Up key r.2 r.1:=by
 intro r
 obtain ⟨a1,a2,a3,a4,a5,a6,a7⟩:=yrM (key:=key) (nrem-(n+1)) p (n+1) 0 (by omega) (by omega) h (fun k h1 h2=>by rw [show k=n+1-1 by omega])
 generalize hd:run (ltK key) (kas_desc (nrem-(n+1)) p (n+1) 0)=d at *
 have e:r=run (ltK key) (if d.2.2>0 then kas_tail3 d.2.1 nrem (kas_rev d.1 (d.2.1-(d.2.2+1)) d.2.1) else kas_tail3 d.2.1 nrem d.1):=by show run _ (KasT.bind _ _)=_;rw [yiV,hd]
 by_cases h0:d.2.2>0
 .rw [if_pos h0] at e
  have kk:∀ k,Kp key (kas_rev d.1 (d.2.1-(d.2.2+1)) d.2.1) k=Kp key d.1 k:=fun k=>yok (by omega) a7 k
  obtain ⟨b1,b2,b3,b4,b5⟩:=yyt (key:=key) (p:=kas_rev d.1 (d.2.1-(d.2.2+1)) d.2.1) (n:=d.2.1) (nrem:=nrem) (by omega) (by omega) (by rw [ygz];omega) (fun i j hij hj=>by rw [kk,kk];exact a6 i j hij hj)
  rw [e]
  exact ⟨b1.trans ((yeF _ _ _).trans a1),b2.trans ((ygz _ _ _).trans a2),b3,b4,b5⟩
 .rw [if_neg h0] at e
  obtain ⟨b1,b2,b3,b4,b5⟩:=yyt (key:=key) (p:=d.1) (n:=d.2.1) (nrem:=nrem) (by omega) (by omega) (by omega) a6
  rw [e]
  exact ⟨b1.trans a1,b2.trans a2,b3,b4,b5⟩
theorem yyu {p:Array Nat}{nrem:Nat}(h1:1<=nrem) (hs:nrem<=p.size) :
  let r:=run (ltK key) (kas_count nrem p)
  r.2.Perm p/\r.2.size=p.size/\1<=r.1/\r.1<=nrem/\Up key r.2 r.1:=by
 intro r
 obtain ⟨a,b,c,d⟩:=yBR (key:=key) p (nrem-1) 1 (Nat.le_refl _) (fun i j hij hj=>by rw [show i=j by omega];exact Int.le_refl _)
 generalize hn:run (ltK key) (kas_asc p (nrem-1) 1)=n at *
 have e:r=run (ltK key) (if (n == nrem)=true then .ret (n,p) else if n>1 then .ask (p.getD 0 0) (p.getD (n-1) 0) fun c=>if c=true then .ret (n,p) else kas_descPart n nrem (kas_rev p 0 n)
  else kas_descPart n nrem p):=by show run _ (KasT.bind _ _)=_;rw [yiV,hn]
 by_cases e1:n=nrem
 .rw [if_pos (by simp [e1])] at e
  rw [e]
  exact ⟨Array.Perm.refl _,rfl,a,by show n<=nrem;omega,c⟩
 .rw [if_neg (by simp [e1])] at e
  have dn:=d (by omega)
  by_cases h2:n>1
  .rw [if_pos h2] at e
   have e:r=run (ltK key) (if ltK key (p.getD 0 0) (p.getD (n-1) 0)=true then .ret (n,p) else kas_descPart n nrem (kas_rev p 0 n)):=e
   rw [yBQ] at e
   by_cases hc:Kp key p 0<Kp key p (n-1)
   .rw [decide_eq_true hc,if_pos rfl] at e
    rw [e]
    exact ⟨Array.Perm.refl _,rfl,a,by show n<=nrem;omega,c⟩
   .rw [decide_eq_false hc,if_neg (by simp)] at e
    have eqs:∀ k,0<=k->k<n->Kp key p k=Kp key p (n-1):=fun k _ hk=>by
     have u1:=c 0 k (by omega) hk
     have u2:=c k (n-1) (by omega) (by omega)
     omega
    have kk:∀ k,Kp key (kas_rev p 0 n) k=Kp key p k:=fun k=>yok (by omega) eqs k
    have hdn:Dn key (kas_rev p 0 n) (n+1):=fun i j hij hj=>by
     rw [kk,kk]
     by_cases ej:j=n
     .subst ej
      by_cases ei:i=j
      .rw [ei];exact Int.le_refl _
      .rw [eqs i (by omega) (by omega)];omega
     .rw [eqs i (by omega) (by omega),eqs j (by omega) (by omega)];exact Int.le_refl _
    obtain ⟨b1,b2,b3,b4,b5⟩:=yol (key:=key) (p:=kas_rev p 0 n) (n:=n) (nrem:=nrem) a (by omega) (by rw [ygz];omega) hdn
    rw [e]
    exact ⟨b1.trans (yeF _ _ _),b2.trans (ygz _ _ _),b3,b4,b5⟩
  .rw [if_neg h2] at e
   have hn1:n=1:=by omega
   subst hn1
   obtain ⟨b1,b2,b3,b4,b5⟩:=yol (key:=key) (p:=p) (n:=1) (nrem:=nrem) (by omega) (by omega) hs (fun i j hij hj=>by
    by_cases e3:i=j
    .rw [e3];exact Int.le_refl _
    .rw [show i=0 by omega,show j=1 by omega]
     exact Int.le_of_lt dn)
   rw [e]
   exact ⟨b1,b2,b3,b4,b5⟩
theorem yrN {p:Array Nat}{k:Nat}(hu:Up key p k):∀ (f l r:Nat),r<=k->l<=r->r-l<=f->(∀ i,i<l->Kp key p i<=Kp key p k)->(∀ i,r<=i->i<k->Kp key p k<Kp key p i) ->
  let m:=run (ltK key) (kas_place p k f l r)
  m<=k/\(∀ i,i<m->Kp key p i<=Kp key p k)/\(∀ i,m<=i->i<k->Kp key p k<Kp key p i)
 | 0,l,r,hr,hl,hf,h1,h2=>by
  have:l=r:=by omega
  subst this
  exact ⟨hr,h1,h2⟩
 | f+1,l,r,hr,hl,hf,h1,h2=>by
  intro m
  have e:m=run (ltK key) (if l>=r then .ret l else .ask (p.getD k 0) (p.getD ((l+r)/2) 0) fun c=>if c=true then kas_place p k f l ((l+r)/2) else kas_place p k f ((l+r)/2+1) r):=rfl
  by_cases hlr:l>=r
  .rw [if_pos hlr] at e
   have:l=r:=by omega
   subst this
   rw [e]
   exact ⟨hr,h1,h2⟩
  .rw [if_neg hlr] at e
   have e:m=run (ltK key) (if ltK key (p.getD k 0) (p.getD ((l+r)/2) 0)=true then kas_place p k f l ((l+r)/2) else kas_place p k f ((l+r)/2+1) r):=e
   rw [yBQ] at e
   by_cases hc:Kp key p k<Kp key p ((l+r)/2)
   .rw [decide_eq_true hc,if_pos rfl] at e
    rw [e]
    exact yrN hu f l ((l+r)/2) (by omega) (by omega) (by omega) h1 (fun i h3 h4=>by have:=hu ((l+r)/2) i h3 h4;omega)
   .rw [decide_eq_false hc,if_neg (by simp)] at e
    rw [e]
    exact yrN hu f ((l+r)/2+1) r hr (by omega) (by omega) (fun i h3=>by have:=hu i ((l+r)/2) (by omega) (by omega);omega) h2
theorem yBT {p:Array Nat}{src d:Nat}(hs:src<p.size) (hd:d<=src) (k:Nat):Kp key (bubble p src d) k=if k=src-d then Kp key p src else if src-d<k/\k<=src then Kp key p (k-1) else Kp key p k:=by
 unfold Kp
 rw [getElem?_bubble hs d hd]
 repeat' split
 all_goals rfl
theorem yGw:∀ (f:Nat) (p:Array Nat) (k:Nat),k+f<=p.size->Up key p k->(run (ltK key) (kas_bin f p k)).Perm p/\Up key (run (ltK key) (kas_bin f p k)) (k+f)
 | 0,p,k,_,h=>⟨Array.Perm.refl _,h⟩
 | f+1,p,k,hs,h=>by
  obtain ⟨a1,a2,a3⟩:=yrN (key:=key) h k 0 k (Nat.le_refl _) (by omega) (by omega) (fun i hi=>by omega) (fun i h1 h2=>by omega)
  generalize hl:run (ltK key) (kas_place p k k 0 k)=l at *
  have e:run (ltK key) (kas_bin (f+1) p k)=run (ltK key) (kas_bin f (bubble p k (k-l)) (k+1)):=by show run _ (KasT.bind _ _)=_;rw [yiV,hl]
  have hk:∀ i,Kp key (bubble p k (k-l)) i=if i=l then Kp key p k else if l<i/\i<=k then Kp key p (i-1) else Kp key p i:=fun i=>by
   rw [yBT (by omega) (by omega),show k-(k-l)=l by omega]
  have hu:Up key (bubble p k (k-l)) (k+1):=fun i j hij hj=>by
   rw [hk,hk]
   by_cases i1:i=l
   .rw [if_pos i1]
    by_cases j1:j=l
    .rw [if_pos j1];exact Int.le_refl _
    .rw [if_neg j1,if_pos ⟨by omega,by omega⟩]
     have:=a3 (j-1) (by omega) (by omega);omega
   .rw [if_neg i1]
    by_cases i2:l<i/\i<=k
    .rw [if_pos i2,if_neg (by omega),if_pos ⟨by omega,by omega⟩]
     exact h _ _ (by omega) (by omega)
    .rw [if_neg i2]
     have il:i<l:=by omega
     by_cases j1:j=l
     .rw [if_pos j1];exact a2 i il
     .rw [if_neg j1]
      split
      .exact h _ _ (by omega) (by omega)
      .exact h _ _ (by omega) (by omega)
  obtain ⟨b1,b2⟩:=yGw f (bubble p k (k-l)) (k+1) (by rw [bubble_size];omega) hu
  rw [e]
  exact ⟨b1.trans (bubble_perm _ _ _),by rw [show k+(f+1)=k+1+f by omega];exact b2⟩
theorem yBU {n:Nat}(h1:1<=n):(run (ltK key) (kas_sort n)).Perm (toArray (List.range n))/\Up key (run (ltK key) (kas_sort n)) n:=by
 have hs:(toArray (List.range n)).size=n:=by simp
 obtain ⟨a1,a2,a3,a4,a5⟩:=yyu (key:=key) (p:=toArray (List.range n)) (nrem:=n) h1 (by omega)
 generalize hr:run (ltK key) (kas_count n (toArray (List.range n)))=r at *
 have e:run (ltK key) (kas_sort n)=run (ltK key) (if r.1<n then kas_bin (n-max r.1 1) r.2 (max r.1 1) else .ret r.2):=by show run _ (KasT.bind _ _)=_;rw [yiV,hr]
 by_cases h:r.1<n
 .rw [if_pos h] at e
  obtain ⟨b1,b2⟩:=yGw (key:=key) (n-max r.1 1) r.2 (max r.1 1) (by omega) (by rw [Nat.max_eq_left a3];exact a5)
  rw [e]
  exact ⟨b1.trans a1,by rw [show max r.1 1+(n-max r.1 1)=n by omega] at b2;exact b2⟩
 .rw [if_neg h] at e
  rw [e]
  exact ⟨a1,by rw [show n=r.1 by omega];exact a5⟩
noncomputable def AskIn {α:Type}(P:Nat->Prop) (lt:Nat->Nat->Bool):KasT α->Prop
 | .ret _=>True
 | .ask i j k=>P i/\P j/\AskIn P lt (k (lt i j))
theorem AskIn.bind {α β:Type}{P:Nat->Prop}{lt:Nat->Nat->Bool}{f:α->KasT β}:∀ {t:KasT α},AskIn P lt t->AskIn P lt (f (run lt t))->AskIn P lt (t.bind f)
 | .ret _,_,h=>h
 | .ask _ _ _,⟨a,b,c⟩,h=>⟨a,b,AskIn.bind c h⟩
theorem yLk {α:Type}{P:Nat->Prop}{lt:Nat->Nat->Bool}{cmp:Nat->Nat->(Bool->Shared->Prop)->Shared->Prop}{s:Shared}(hc:∀ i j C,P i->P j->C (lt i j) s->cmp i j C s) {Q:α->Shared->Prop} :
  ∀ (t:KasT α),AskIn P lt t->Q (run lt t) s->t.kasWp cmp Q s
 | .ret _,_,h=>h
 | .ask i j k,⟨a,b,c⟩,h=>hc i j _ a b (yLk hc (k (lt i j)) c h)
section
variable {P:Nat->Prop}{lt:Nat->Nat->Bool}
def All (P:Nat->Prop) (p:Array Nat):Prop:=∀ i,P (p.getD i 0)
theorem All.of_perm {p q:Array Nat}(h0:P 0) (h:All P p) (e:q.Perm p):All P q:=fun i=>by
 rw [yoj]
 by_cases hi:i<q.size
 .rw [Array.getElem?_eq_getElem hi]
  show P q[i]
  have hm:q[i]∈p:=(e.mem_iff).mp (Array.getElem_mem hi)
  obtain ⟨j,hj,e2⟩:=Array.getElem_of_mem hm
  have:=h j
  rw [yoj,Array.getElem?_eq_getElem hj] at this
  rw [<- e2];exact this
 .rw [Array.getElem?_eq_none (by omega)];exact h0
theorem yBV {p:Array Nat}(h:All P p):∀ (f n:Nat),AskIn P lt (kas_asc p f n)
 | 0,_=>trivial
 | f+1,n=>⟨h _,h _,by show AskIn P lt (if _ then _ else _);split;trivial;exact yBV h f (n+1)⟩
theorem yrO (h0:P 0):∀ (f:Nat) (p:Array Nat) (n q:Nat),All P p->AskIn P lt (kas_desc f p n q)
 | 0,_,_,_,_=>trivial
 | f+1,p,n,q,h=>by
  refine ⟨h _,h _,?_⟩
  show AskIn P lt (if _ then _ else _)
  split
  .split
   .exact yrO h0 f _ _ _ (h.of_perm h0 (yeF _ _ _))
   .exact yrO h0 f _ _ _ h
  .refine ⟨h _,h _,?_⟩
   show AskIn P lt (if _ then _ else _)
   split
   .trivial
   .exact yrO h0 f _ _ _ h
theorem ykP:∀ (f:Nat) (p:Array Nat) (n q:Nat),(run lt (kas_desc f p n q)).1.Perm p
 | 0,_,_,_=>Array.Perm.refl _
 | f+1,p,n,q=>by
  show (run lt (if lt (p.getD n 0) (p.getD (n-1) 0)=true then (if q>0 then kas_desc f (kas_rev p (n-(q+1)) n) (n+1) 0 else kas_desc f p (n+1) 0)
   else .ask (p.getD (n-1) 0) (p.getD n 0) fun d=>if d=true then .ret (p,n,q) else kas_desc f p (n+1) (q+1))).1.Perm p
  split
  .split
   .exact (ykP f _ _ _).trans (yeF _ _ _)
   .exact ykP f _ _ _
  .show (run lt (if lt (p.getD (n-1) 0) (p.getD n 0)=true then .ret (p,n,q) else kas_desc f p (n+1) (q+1))).1.Perm p
   split
   .exact Array.Perm.refl _
   .exact ykP f _ _ _
theorem yyv (h0:P 0) {p:Array Nat}(h:All P p) (n nrem:Nat):AskIn P lt (kas_tail3 n nrem p):=AskIn.bind (yBV (h.of_perm h0 (yeF _ _ _)) _ _) trivial
theorem yom (h0:P 0) {p:Array Nat}(h:All P p) (n nrem:Nat):AskIn P lt (kas_descPart n nrem p):=by
 refine AskIn.bind (yrO h0 _ _ _ _ h) ?_
 have:=h.of_perm h0 (ykP (lt:=lt) (nrem-(n+1)) p (n+1) 0)
 split
 .exact yyv h0 (this.of_perm h0 (yeF _ _ _)) _ _
 .exact yyv h0 this _ _
theorem yEW (h0:P 0) {p:Array Nat}(h:All P p) (nrem:Nat):AskIn P lt (kas_count nrem p):=by
 refine AskIn.bind (yBV h _ _) ?_
 split
 .trivial
 .split
  .refine ⟨h _,h _,?_⟩
   show AskIn P lt (if _ then _ else _)
   split
   .trivial
   .exact yom h0 (h.of_perm h0 (yeF _ _ _)) _ _
  .exact yom h0 h _ _
theorem yrP {p:Array Nat}(h:All P p) (k:Nat):∀ (f l r:Nat),AskIn P lt (kas_place p k f l r)
 | 0,_,_=>trivial
 | f+1,l,r=>by
  show AskIn P lt (if _ then _ else _)
  split
  .trivial
  .refine ⟨h _,h _,?_⟩
   show AskIn P lt (if _ then _ else _)
   split
   .exact yrP h k f _ _
   .exact yrP h k f _ _
theorem yGx (h0:P 0):∀ (f:Nat) (p:Array Nat) (k:Nat),All P p->AskIn P lt (kas_bin f p k)
 | 0,_,_,_=>trivial
 | f+1,p,k,h=>AskIn.bind (yrP h k _ _ _) (yGx h0 f _ _ (h.of_perm h0 (bubble_perm _ _ _)))
end
theorem yIC {n:Nat}(h1:1<=n):AskIn (· < n) (ltK key) (kas_sort n):=by
 have h:All (· < n) (toArray (List.range n)):=fun i=>by
  rw [yoj]
  by_cases hi:i<n
  .simp [hi]
  .simp [hi];omega
 refine AskIn.bind (yEW (by omega) h n) ?_
 obtain ⟨a1,_⟩:=yyu (key:=key) (p:=toArray (List.range n)) (nrem:=n) h1 (by simp)
 split
 .exact yGx (by omega) _ _ _ (h.of_perm (by omega) a1)
 .trivial
end
end KasS
namespace KasS
open PySem PySem.W PyProof.Rows PySem.Calls
noncomputable def Tps (h:Heap):List Value->List (Int×Tok×Value)->Prop
 | [],[]=>True
 | v::vs,p::ps=>(∃ b o m,v=.ref b/\h.get? b=some o/\o.cls=.type "tuple"/\o.data=.seq #[.int p.1 p.2.1,p.2.2] m)/\Tps h vs ps
 | _,_=>False
theorem Tps.len {h:Heap}:∀ {vs:List Value}{ps:List (Int×Tok×Value)},Tps h vs ps->ps.length=vs.length
 | [],[],_=>rfl
 | _::_,_::_,⟨_,t⟩=>by rw [length_cons,length_cons,Tps.len t]
 | [],_::_,t=>t.elim
 | _::_,[],t=>t.elim
theorem Tps.get {h:Heap}:∀ {vs:List Value}{ps:List (Int×Tok×Value)},Tps h vs ps->∀ i,i<vs.length->∃ p b o m,ps[i]?=some p/\vs.getD i .none=.ref b/\h.get? b=some o/\o.cls=.type "tuple"/\o.data=.seq #[.int p.1 p.2.1,p.2.2] m
 | _::_,p::_,⟨⟨b,o,m,e1,e2,e3,e4⟩,_⟩,0,_=>⟨p,b,o,m,rfl,by rw [e1];rfl,e2,e3,e4⟩
 | _::vs,_::ps,⟨_,t⟩,i+1,hi=>by
  obtain ⟨p,b,o,m,e1,e2,e3⟩:=Tps.get t i (by simpa using hi)
  exact ⟨p,b,o,m,by simpa using e1,by simpa using e2,e3⟩
 | [],[],_,_,hi=>by simp at hi
 | [],_::_,t,_,_=>t.elim
 | _::_,[],t,_,_=>t.elim
theorem Tps.mono {h h':Heap}:∀ {vs:List Value}{ps:List (Int×Tok×Value)},Tps h vs ps->(∀ b o,Value.ref b∈vs->h.get? b=some o->h'.get? b=some o)->Tps h' vs ps
 | [],[],_,_=>trivial
 | _::_,_::_,⟨⟨b,o,m,e1,e2,e3⟩,t⟩,k=>⟨⟨b,o,m,e1,k b o (by rw [e1];exact mem_cons_self) e2,e3⟩,Tps.mono t fun b o hb=>k b o (mem_cons_of_mem _ hb)⟩
 | [],_::_,t,_=>t.elim
 | _::_,[],t,_=>t.elim
theorem Tps.kat {h:Heap}:∀ {vs:List Value}{ps:List (Int×Tok×Value)},Tps h vs ps->KatTups h vs (ps.map fun p=>Value.int p.1 p.2.1)
 | [],[],_=>trivial
 | _::_,p::_,⟨⟨b,o,m,e1,e2,e3,e4⟩,t⟩=>⟨⟨b,o,_,m,e1,e2,e3,e4,rfl⟩,Tps.kat t⟩
 | [],_::_,t=>t.elim
 | _::_,[],t=>t.elim
def yjw (ps:List (Int×Tok×Value)) (i:Nat):Int:=((ps[i]?).map (·.1)).getD 0
theorem yBW {ps:List (Int×Tok×Value)}(hn:(ps.map (·.1)).Nodup) {i j:Nat}(hi:i<ps.length) (hj:j<ps.length) (e:yjw ps i=yjw ps j):i=j:=by
 unfold yjw at e
 rw [List.getElem?_eq_getElem hi,List.getElem?_eq_getElem hj] at e
 have e:ps[i].1=ps[j].1:=e
 have h1:i<(ps.map (·.1)).length:=by simpa using hi
 have h2:j<(ps.map (·.1)).length:=by simpa using hj
 exact (List.getElem_inj (h₀:=h1) (h₁:=h2) hn).mp (by simpa using e)
section
variable {prog:Program}{w:World}{A:Around}{E:Value->Shared->Prop}{s:Shared}
theorem yID {vs:List Value}{ps:List (Int×Tok×Value)}(tp:Tps s.heap vs ps) (hn:(ps.map (·.1)).Nodup) (i j:Nat) (C:Bool->Shared->Prop) (hi:i<vs.length) (hj:j<vs.length) (hC:C (ltK (yjw ps) i j) s) :
  kas_ask prog w A (tuples' true) vs i j C s:=by
 obtain ⟨p,b,o,m,e1,e2,e3,e4,e5⟩:=tp.get i hi
 obtain ⟨p',b',o',m',f1,f2,f3,f4,f5⟩:=tp.get j hj
 have k1:yjw ps i=p.1:=by unfold yjw;rw [e1];rfl
 have k2:yjw ps j=p'.1:=by unfold yjw;rw [f1];rfl
 unfold ltK at hC
 rw [k1,k2] at hC
 unfold kas_ask
 rw [e2,f2]
 refine kat_lt e3 e5 f3 f5 ?_
 show KatLex prog w A true (decide (2<2)) C [(Value.int p.1 p.2.1,Value.int p'.1 p'.2.1),(p.2.2,p'.2.2)] 0 s
 refine kat_cons (L2.eqAt_V (y:=.int p.1) (x:=.int p'.1) ⟨_,rfl⟩ ⟨_,rfl⟩ rfl rfl prog w _ _ ?_)
 show KatGo prog w A true _ C _ _ _ 0 (p.1 == p'.1) s
 by_cases e:p.1=p'.1
 .rw [beq_iff_eq.mpr e]
  have hij:i=j:=yBW hn (by rw [tp.len];exact hi) (by rw [tp.len];exact hj) (by rw [k1,k2,e])
  subst hij
  rw [e1] at f1
  cases f1
  refine kat_yes (kat_cons (SeqAt.EqAt.same _ prog w _ _ (kat_yes (kat_nil ?_))))
  rw [decide_eq_false (by omega)] at hC
  exact hC
 .rw [beq_eq_false_iff_ne.mpr e]
  exact kat_no (oneLt_int hC)
theorem yEX {a:Addr}{vs:List Value}{ps:List (Int×Tok×Value)}{n:Nat}{P:PySem.Fin->Shared->Prop}(ho:s.heap.get? a=some (seqObj "list" vs.toArray n)) (tp:Tps s.heap vs ps) (na:Value.ref a∉vs) (hn:(ps.map (·.1)).Nodup) (h64:vs.length<64)
  (h:∀ q:Array Nat,q.Perm (toArray (List.range vs.length))->Up (yjw ps) q vs.length->P (.done (.ret .none)) { s with heap:=sortedHeap s.heap a vs (toArray (q.toList.map fun i=>vs.getD i Value.none)) }) :
  wpAny (model prog w) A (Builtin.«list.sort» ⟨[.ref a],[]⟩) P E s:=by
 have ha:a<s.heap.objs.size:=Heap.lt_size ho
 have z64:vs.length<=sizeLine:=by rw [sizeLine_eq];omega
 rw [list_sort_plain]
 obtain ⟨e1,ho1⟩:∃ e1,(s.heap.update a (Obj.mapSeq fun _=>(#[]:Array Value))).get? a=some (seqObj "list" #[] e1):=⟨_,get?_update_seq ho _⟩
 refine wpAny_bind (listItems_at ho rfl (wpAny_bind (listUpdate_at ho rfl (wpAny_bind (seqEpoch_at ho1 rfl (wpAny_bind (wpAny_newTuple (wpAny_bind (wpAny_newList (wpAny_holding ?_) (zero_le _))) (by simpa using z64))))) (by simpa using z64) (zero_le _))))
 generalize hH:((s.heap.update a (Obj.mapSeq fun _=>(#[]:Array Value))).push (seqObj "tuple" vs.toArray 0)).push (seqObj "list" #[] 0)=H6
 have keep:∀ b o,b≠a->s.heap.get? b=some o->H6.get? b=some o:=fun b o hb e=>by
  rw [<- hH]
  exact Heap.get?_push_of_some _ (Heap.get?_push_of_some _ ((Heap.get?_update_other _ _ (Ne.symm hb)).trans e))
 have ho6:H6.get? a=some (seqObj "list" #[] e1):=by rw [<- hH];exact Heap.get?_push_of_some _ (Heap.get?_push_of_some _ ho1)
 have tp6:Tps H6 vs ps:=tp.mono fun b o hb e=>keep b o (fun z=>na (z ▸ hb)) e
 show wpAny (model prog w) A _ P E { s with heap:=H6 }
 dsimp only
 have fin:∀ q:Array Nat,q.Perm (toArray (List.range vs.length))->Up (yjw ps) q vs.length->P (.done (.ret .none)) { s with heap:=H6.update a (Obj.mapSeq fun _=>toArray (q.toList.map fun i=>vs.getD i Value.none)) }:=fun q h1 h2=>by
  have:=h q h1 h2
  unfold sortedHeap at this
  rw [show ((s.heap.update a (Obj.mapSeq fun _=>(#[]:Array Value))).push (seqObj "tuple" vs.toArray 0)).push (seqObj "list" #[] 0)=H6 from hH] at this
  exact this
 by_cases h2:vs.toArray.size<2
 .rw [if_pos h2,if_pos h2]
  refine wpAny_bind (wpAny_pure ?_)
  rw [StateT.run_pure]
  have hz:((arrOf (SortSt.mk' general' (vs.toArray.zip vs.toArray) #[] 7 none)).map (·.2))=toArray ((toArray (List.range vs.length)).toList.map fun i=>vs.getD i Value.none):=by
   show (vs.toArray.zip vs.toArray).map (·.2)=_
   apply Array.toList_inj.mp
   simp only [Array.toList_map,Array.toList_zip,List.map_snd_zip (Nat.le_refl _)]
   apply List.ext_getElem
   .simp
   .intro i h3 h4
    simp
    rw [List.getElem?_eq_getElem (by simpa using h3)];rfl
  refine wpAny_bind (wpAny_pure (wpAny_bind (seqEpoch_at ho6 rfl (wpAny_bind (listUpdate_at ho6 rfl ?_ (zero_le _) ?_)))))
  .dsimp only
   rw [hz]
   simp only [bne_self_eq_false,Bool.false_eq_true,if_false]
   exact wpAny_pure (fin _ (Array.Perm.refl _) fun i j hij hj=>by rw [show i=j by (simp at h2);omega];exact Int.le_refl _)
  .rw [hz];simp;omega
 .rw [if_neg h2,if_neg h2]
  have hv2:2<=vs.length:=by simp at h2;omega
  refine wpAny_bind (kat_kind (s:={ s with heap:=H6 }) (T:=.type "int") tp6.kat (by rw [length_map,tp.len];omega) (fun v hv=>?_) rfl ?_)
  .obtain ⟨p,_,rfl⟩:=List.mem_map.mp hv
   exact .now
  have run1:=kat_run (prog:=prog) (w:=w) (A:=A) (E:=E) (s:={ s with heap:=H6 }) (κ:=tuples' true) (ks:=vs) (vs:=vs)
   (Q:=fun st' s'=>s'={ s with heap:=H6 }/\∃ q:Array Nat,q.Perm (toArray (List.range vs.length))/\Up (yjw ps) q vs.length/\(arrOf st').map (·.2)=toArray (q.toList.map fun i=>vs.getD i Value.none)/\failedOf st'=none)
   (G:=fun q s'=>s'={ s with heap:=H6 }/\q.Perm (toArray (List.range vs.length))/\Up (yjw ps) q vs.length) rfl hv2 h64
   (fun q st' s' z1 z2 z3 z4=>⟨z4.1,q,z4.2.1,z4.2.2,kat_snds rfl z2,z3⟩)
   (yLk (P:=(· < vs.length)) (lt:=ltK (yjw ps)) (fun i j C hi hj hC=>yID tp6 hn i j C hi hj hC) _ (yIC (by omega)) ⟨rfl,(yBU (by omega)).1,(yBU (by omega)).2⟩)
  refine wpAny_bind (wpAny_mono run1 ?_ fun _ _ x=>x)
  rintro ⟨⟨⟩,st'⟩ s' ⟨rfl,q,z1,z2,z3,z4⟩
  refine wpAny_bind (seqEpoch_at ho6 rfl (wpAny_bind (listUpdate_at ho6 rfl ?_ (zero_le _) ?_)))
  .dsimp only
   rw [z3,z4]
   simp only [bne_self_eq_false,Bool.false_eq_true,if_false]
   exact wpAny_pure (fin q z1 z2)
  .dsimp only
   rw [z3]
   have:=z1.size_eq
   simp at this ⊢
   omega
end
end KasS
namespace PXS
open PySem L2 PySem.Spec PyProof.Rows KasS PX
theorem yyw {P:Program}{w:World}{H:Hp}{h:Heap}{a:Addr}{o:HO}(x:ObjOk P w H h a o):∃ u,h.get? a=some u:=by
 cases o with
 | lst xs=>obtain ⟨_,_,_,_,e⟩:=x;exact ⟨_,e⟩
 | tup xs=>obtain ⟨_,_,_,ob,e,_⟩:=x;exact ⟨_,e⟩
 | dK kvs=>obtain ⟨_,_,_,_,o,_,_,e,_⟩:=x;exact ⟨_,e⟩
 | dT kvs=>obtain ⟨_,_,_,_,o,_,_,e,_⟩:=x;exact ⟨_,e⟩
 | set S n=>obtain ⟨o,_,_,_,e,_⟩:=x;exact ⟨_,e⟩
 | ins C dx fs=>obtain ⟨_,_,_,e,_⟩:=x;exact ⟨_,e⟩
 | own y=>obtain ⟨_,e⟩:=x;exact ⟨_,e⟩
 | xd fs=>obtain ⟨_,⟨_,_,_,e,_⟩,_⟩:=x;exact ⟨_,e⟩
 | rng lo hi=>obtain ⟨_,_,_,e⟩:=x;exact ⟨_,e⟩
 | frz ob u=>obtain ⟨e,_⟩:=x;exact ⟨_,e⟩
 | tbl ps=>exact ⟨_,show h.get? a=some _ from x⟩
 | met f y=>exact ⟨_,show h.get? a=some _ from x⟩
 | ext φ=>obtain ⟨_,⟨_,e⟩,_⟩:=x;exact ⟨_,e⟩
section
variable {X:Cx}
theorem yEY:MtM X "dict.items" yGs:=by
 intro pins s σ H x vs v us Q I rx rv h
 obtain ⟨d,kvs,rfl,rfl,hH,q⟩:=h
 cases rx
 have hus:=rv.zero
 subst hus
 obtain ⟨z,sy,ws,kv,hD⟩:=I.hok d _ hH
 refine call_meetsIn PySem.F.slot_dict_items hD.typeIs PySem.F.entry_dict_items (PySem.F.args_dict_items_1 _) (meets_dict_items _ d sy) ⟨⟨ws,hD⟩,?_⟩
 refine ⟨.ref _,_,I.laid (t':=s.toks) (o:=ywE s.heap.objs.size d) (fun _ _ q=>Heap.get?_push_of_some _ q) (Nat.le_refl _) ⟨Heap.get?_push_size _ rfl,⟨_,Heap.get?_push_size _ rfl⟩,fun h1 h2 e k=>k _ e⟩,rfl,q _ I.fresh⟩
theorem yBX {pins:List (Addr×Obj)}{σ:L2.St}{H H':Hp}{s:Shared}{h':Heap}{t':Nat}(I:Inv X pins σ H s) (k:∀ b u,s.heap.get? b=some u->h'.get? b=some u) (sub:∀ b o,H b=some o->H' b=some o)
  (nw:∀ b o,H b=none->H' b=some o->s.heap.get? b=none/\ObjOk X.prog X.w H' h' b o):Inv X pins σ H' { s with heap:=h',toks:=t' }:=by
 refine I.un ⟨fun b u q _ _ _=>k b u q,fun b u q _ _ _=>⟨u.slots,k b u q⟩,fun b u q n _=>?_,fun b u q _=>⟨u,k b u q⟩,fun b xs q=>sub _ _ q,fun b u xs q=>sub _ _ q,fun b ps q=>⟨#[],by rw [sub _ _ q];simp⟩⟩ fun b o e=>?_
 .cases e:H' b with
  | none=>rfl
  | some o=>rw [(nw b o n e).1] at q;cases q
 .cases e2:H b with
  | none=>exact (nw b o e2 e).2
  | some u =>
   have:=sub _ _ e2
   rw [e] at this
   cases this
   exact (I.hok b o e2).stay (fun c v _ q=>k c v q) (fun c q=>sub _ _ q) fun c xs q=>sub _ _ q
theorem yGy {h:Heap}:∀ (as:List Addr) (ws:List (Key×Value)) (ns:List Int),as.length=ws.length->ws.map (·.1)=ns.map Sum.inl ->
  (∀ (j:Nat) (a:Addr),as[j]?=some a->∃ key k x,ws[j]?=some (k,x)/\yvQ k key=true/\h.get? a=some { cls:=.type "tuple",data:=.seq #[key,x] }) ->
  ∃ ps,Tps h (as.map Value.ref) ps/\ps.map (·.1)=ns/\ps.map (·.2.2)=ws.map (·.2)
 | [],[],ns,_,e,_=>⟨[],trivial,by cases ns with|nil=>rfl|cons=>simp at e,rfl⟩
 | [],_::_,_,hl,_,_=>by simp at hl
 | _::_,[],_,hl,_,_=>by simp at hl
 | a::as,(k,x)::ws,ns,hl,e,hp=>by
  cases ns with
  | nil=>simp at e
  | cons n ns =>
   simp only [map_cons,List.cons.injEq] at e
   obtain ⟨ps,t,e1,e2⟩:=yGy as ws ns (by simpa using hl) e.2 fun j b hb=>by
    obtain ⟨key,k',x',f1,f2,f3⟩:=hp (j+1) b (by simpa using hb)
    exact ⟨key,k',x',by simpa using f1,f2,f3⟩
   obtain ⟨key,k',x',f1,f2,f3⟩:=hp 0 a rfl
   simp at f1
   obtain ⟨rfl,rfl⟩:=f1
   obtain ⟨j,tk,g1,rfl⟩:∃ j tk,k=Sum.inl j/\key=Value.int j tk:=by
    rcases yby f2 with ⟨j,tk,g1,g2⟩|⟨y,tk,g1,g2⟩
    .exact ⟨j,tk,g1,g2⟩
    .rw [g1] at e;cases e.1
   rw [g1] at e
   obtain rfl:j=n:=by injection e.1
   exact ⟨(j,tk,x)::ps,⟨⟨a,_,_,rfl,f3,rfl,rfl⟩,t⟩,by rw [map_cons,e1],by rw [map_cons,e2];rfl⟩
theorem ygA {α:Type}:∀ {as:List Addr}{ts:List α}{b:Addr}{t:α},(as.zip ts).lookup b=some t->∃ j:Nat,as[j]?=some b/\ts[j]?=some t
 | [],_,_,_,h=>by simp at h
 | _::_,[],_,_,h=>by simp at h
 | a::as,u::ts,b,t,h=>by
  rw [zip_cons_cons,lookup_cons] at h
  split at h
  .rename_i hb
   cases h
   exact ⟨0,by rw [eq_of_beq hb];rfl,rfl⟩
  .obtain ⟨j,h1,h2⟩:=ygA h
   exact ⟨j+1,by simpa using h1,by simpa using h2⟩
theorem yGz:∀ {kvs:List (Key×V)}{ws:List (Key×Value)},KV kvs ws->ws.map (·.1)=kvs.map (·.1)/\∀ i:Nat,i<kvs.length->RelV ((kvs.map (·.2)).getD i .non) ((ws.map (·.2)).getD i .none):=by
 intro kvs ws h
 induction h with
 | nil=>exact ⟨rfl,fun i hi=>by simp at hi⟩
 | @cons p q _ _ h1 _ ih =>
  refine ⟨by rw [map_cons,map_cons,ih.1,h1.1],fun i hi=>?_⟩
  cases i with
  | zero=>exact h1.2
  | succ i=>simpa using ih.2 i (by simpa using hi)
theorem yyx {α:Type}{f:α->V}{g:α->Value}:∀ {l:List α},(∀ i∈l,RelV (f i) (g i))->Vals (l.map f) (l.map g)
 | [],_=>.nil
 | i::l,h=>.cons (h i mem_cons_self) (yyx fun j hj=>h j (mem_cons_of_mem _ hj))
theorem ynk (hc:X.calm=true):yjs X (.builtin "sorted") rSI:=by
 intro pins s σ H xs us Q I rr hh
 obtain ⟨r,d,kvs,ns,rfl,hr,hd,hk,h64,q⟩:=hh
 obtain ⟨u,rfl,rx⟩:=vals1 rr
 cases rx
 obtain ⟨hview,_,_⟩:=I.hok r _ hr
 obtain ⟨z,sy,ws,kv,hD⟩:=I.hok d _ hd
 obtain ⟨ep,hat⟩:=hD.dictAt
 obtain ⟨kv1,kv2⟩:=yGz kv
 have lw:ws.length=kvs.length:=by have:=congrArg length kv1;simpa using this
 have ln:ns.length=kvs.length:=by have:=congrArg length hk;simpa using this.symm
 have nd:ns.Nodup:=by
  obtain ⟨_,_,_,_,_,_,_,_,n⟩:=hD
  rw [kv1,hk] at n
  exact (List.pairwise_map.mp n).imp fun h e=>h (by rw [e])
 refine Calls.call_function_entry kind_sorted plain_sorted entry_sorted (args_sorted1 _) ?_
 unfold Builtin.«sorted»
 refine wpAny_bind (m:=checkCount "sorted" 1 1 _) (wpAny_pure ?_)
 refine wpAny_bind (PySem.W.kdx_collect (A:=X.A.in1) (knd:=yco X.prog X.w) (kvs:=ws) (ep:=ep) (I.ok.hd hc) ⟨_,hview,rfl,rfl⟩ hat (by rw [lw];exact z) fun h' tk as keep hl hG=>wpAny_bind (wpAny_newList ?_ (by rw [length_map,hl,lw];exact z)))
 obtain ⟨ps,tp,e1,e2⟩:=yGy (h:=h') as ws ns hl (by rw [kv1,hk]) fun j a ha=>hG.pairs j a ha
 have la:as.length=ns.length:=by omega
 have above:∀ a∈as,s.heap.objs.size<a:=hG.above
 have there:∀ a∈as,a<h'.objs.size:=fun a ha=>hG.there ha
 generalize hB:h'.objs.size=B at *
 have noB:s.heap.get? B=none:=by
  cases e:s.heap.get? B with
  | none=>rfl
  | some o=>exact absurd (Heap.lt_size (keep B o e)) (by rw [hB];exact lt_irrefl _)
 have noA:∀ a∈as,s.heap.get? a=none:=fun a ha=>Heap.get?_none_of_le (le_of_lt (above a ha))
 have free:∀ b,s.heap.get? b=none->H b=none:=fun b e=>by
  cases e2:H b with
  | none=>rfl
  | some o=>obtain ⟨u,hu⟩:=yyw (I.hok b o e2);rw [e] at hu;cases hu
 have hoL:(h'.push { cls:=.type "list",data:=.seq (as.map Value.ref).toArray }).get? B=some (seqObj "list" (as.map Value.ref).toArray 0):=by rw [<- hB];exact Heap.get?_push_size _ rfl
 refine wpAny_bind (wpAny_holding (wpAny_call_entry PySem.F.slot_list_sort ⟨_,hoL,rfl⟩ PySem.F.entry_list_sort ?body (PySem.F.args_list_sort_1 _)))
 case body =>
  refine yEX (s:={ s with heap:=h'.push { cls:=.type "list",data:=.seq (as.map Value.ref).toArray },toks:=tk }) (ps:=ps) hoL (tp.mono fun b o _ e=>Heap.get?_push_of_some _ e) (fun z=>?_) (by rw [e1];exact nd) (by rw [length_map];omega) fun qa z1 z2=>?_
  .obtain ⟨a,ha,e⟩:=List.mem_map.mp z
   cases e
   exact absurd (there B ha) (lt_irrefl _)
  refine ⟨_,rfl,wpAny_pure ⟨_,rfl,?_⟩⟩
  have lq:qa.toList.length=ns.length:=by have:=z1.size_eq;simpa [la] using this
  have pq:qa.toList.Perm (List.range ns.length):=by have:=Array.perm_iff_toList_perm.mp z1;simpa [la] using this
  have inq:∀ i∈qa.toList,i<ns.length:=fun i hi=>by have:=pq.mem_iff.mp hi;simpa using this
  have nda:as.Nodup:=hG.rise.imp fun h=>ne_of_lt h
  have ndq:qa.toList.Nodup:=pq.nodup_iff.mpr List.nodup_range
  generalize hS:sortedHeap (h'.push { cls:=.type "list",data:=.seq (as.map Value.ref).toArray }) B (as.map Value.ref) (toArray (qa.toList.map fun i=>(as.map Value.ref).getD i Value.none))=S
  have hFa:∀ b o,b≠B->h'.get? b=some o->S.get? b=some o:=fun b o hb e=>by
   rw [<- hS]
   unfold sortedHeap
   exact (Heap.get?_update_other _ _ (Ne.symm hb)).trans (Heap.get?_push_of_some _ (Heap.get?_push_of_some _ ((Heap.get?_update_other _ _ (Ne.symm hb)).trans (Heap.get?_push_of_some _ e))))
  have hFB:∃ c,S.get? B=some (seqObj "list" (toArray (qa.toList.map fun i=>(as.map Value.ref).getD i Value.none)) c):=by
   rw [<- hS]
   unfold sortedHeap
   exact ⟨_,get?_update_seq (Heap.get?_push_of_some _ (Heap.get?_push_of_some _ (get?_update_seq hoL _))) _⟩
  have hF:∀ b o,s.heap.get? b=some o->S.get? b=some o:=fun b o e=>hFa b o (fun z=>by rw [z,noB] at e;cases e) (keep b o e)
  have aget:∀ i,i<ns.length->∃ a,as[i]?=some a/\as.getD i 0=a/\a∈as:=fun i hi=>by
   have h1:i<as.length:=by omega
   exact ⟨as[i],List.getElem?_eq_getElem h1,by simp [getD,List.getElem?_eq_getElem h1],getElem_mem h1⟩
  have mem:∀ a∈(qa.toList.map fun i=>as.getD i 0),a∈as:=fun a ha=>by
   obtain ⟨i,hi,rfl⟩:=List.mem_map.mp ha
   obtain ⟨a,_,e,m⟩:=aget i (inq i hi)
   rw [e];exact m
  have neB:∀ a∈as,a≠B:=fun a ha=>ne_of_lt (there a ha)
  have kat:∀ i,yjw ps i=ns.getD i 0:=fun i=>by
   unfold yjw
   rw [<- e1]
   simp [getD]
  refine ⟨.ref B,yLV H B (qa.toList.map fun i=>as.getD i 0) (qa.toList.map fun i=>[V.int (ns.getD i 0),(kvs.map (·.2)).getD i .non]),?_,rfl,q B _ qa.toList pq ?_ nd (by simp) ?_ ?_⟩
  .show L2.Inv X pins σ _ { s with heap:=S,toks:=tk }
   refine yBX I hF (fun b o e=>?_) fun b o e e2=>?_
   .unfold yLV upd yyl
    rw [if_neg fun z=>by rw [z,free _ noB] at e;cases e]
    cases e3:List.lookup b ((qa.toList.map fun i=>as.getD i 0).zip (qa.toList.map fun i=>[V.int (ns.getD i 0),(kvs.map (·.2)).getD i .non])) with
    | none=>exact e
    | some t =>
     obtain ⟨j,g1,_⟩:=ygA e3
     rw [free _ (noA b (mem b (mem_of_getElem? g1)))] at e
     cases e
   .unfold yLV upd yyl at e2
    split at e2
    .rename_i hb
     subst hb
     cases e2
     obtain ⟨c,hc⟩:=hFB
     refine ⟨noB,by simp [lq];rw [ln];exact z,_,c,?_,hc⟩
     rw [map_map]
     refine yyx fun i hi=>?_
     obtain ⟨a,f1,f2,_⟩:=aget i (inq i hi)
     show RelV (V.ref (as.getD i 0)) _
     rw [f2]
     simp [getD,f1]
     rfl
    .split at e2
     .rename_i t e3
      cases e2
      obtain ⟨j,g1,g2⟩:=ygA e3
      rw [getElem?_map] at g1 g2
      cases e4:qa.toList[j]? with
      | none=>rw [e4] at g1;cases g1
      | some i =>
       rw [e4] at g1 g2
       have hi:=inq i (mem_of_getElem? e4)
       obtain ⟨a,f1,f2,f3⟩:=aget i hi
       simp only [map_some,Option.some.injEq] at g1 g2
       rw [f2] at g1
       subst g1
       subst g2
       obtain ⟨key,k,x,w1,w2,w3⟩:=hG.pairs i a f1
       have wk:k=Sum.inl (ns.getD i 0):=by
        have h1:(ws.map (·.1))[i]?=some k:=by rw [getElem?_map,w1];rfl
        rw [kv1,hk,getElem?_map] at h1
        rw [List.getElem?_eq_getElem hi] at h1
        simp [getD,List.getElem?_eq_getElem hi] at h1 ⊢
        exact h1.symm
       obtain ⟨tk2,rfl⟩:∃ tk,key=Value.int (ns.getD i 0) tk:=by
        rcases yby w2 with ⟨j,tk,g1,g2⟩|⟨y,tk,g1,g2⟩
        .rw [wk] at g1;cases g1;exact ⟨tk,g2⟩
        .rw [wk] at g1;cases g1
       have wx:(ws.map (·.2)).getD i .none=x:=by simp [getD,w1]
       refine ⟨noA a f3,by simp [sizeLine_eq],[_,x],.cons ⟨_,rfl⟩ (.cons ?_ .nil),_,hFa a _ (neB a f3) w3,rfl,_,rfl⟩
       rw [<- wx]
       exact kv2 i (by omega)
     .rw [e] at e2;cases e2
  .refine List.pairwise_iff_getElem.mpr fun i j hi hj hij=>?_
   have:=z2 i j (le_of_lt hij) (by simpa [la,lq] using hj)
   unfold Kp at this
   rw [kat,kat] at this
   have hi':i<qa.size:=by simpa using hi
   have hj':j<qa.size:=by simpa using hj
   rw [Array.getElem?_eq_getElem hi',Array.getElem?_eq_getElem hj'] at this
   simpa using this
  .intro a ha
   rcases mem_cons.mp ha with rfl|ha
   .exact free _ noB
   .exact free _ (noA a (mem a ha))
  .refine List.nodup_cons.mpr ⟨fun h=>neB _ (mem _ h) rfl,?_⟩
   refine List.pairwise_map.mpr (ndq.imp_of_mem fun {i j} hi hj hij e=>hij ?_)
   obtain ⟨a,f1,f2,_⟩:=aget i (inq i hi)
   obtain ⟨b,g1,g2,_⟩:=aget j (inq j hj)
   rw [f2,g2] at e
   subst e
   exact (List.getElem?_inj (by have:=inq i hi;omega) nda).mp (f1.trans g1.symm)
variable {A:Nat->Addr}{o:Expr}{xa:XE}{pos p apos cpos:Pos}{x:Str}
theorem z_sortI (hc:X.calm=true) (ho:ZE X A o xa) (m:Nm x) (hg:Gl X x) (hm:X.mg x=none) (hv:bootBuiltins x=some (.builtin "sorted"))
  (hbase:attributeBase o "items" X.env (eval o X.env)=eval o X.env) (hline:(apos.endLine == cpos.line)=true)
  (he:starEach [.Call (.Attribute o "items" apos) [] [] cpos] X.env=(false,eval (.Call (.Attribute o "items" apos) [] [] cpos) X.env)::starEach [] X.env) (hpl:(backTo pos (starEach [] X.env)).any (·.1)=false) :
  ZO X A (.Call (.Name x p) [.Call (.Attribute o "items" apos) [] [] cpos] [] pos) (yoe xa) :=
 wO (ynz (ynk hc) hg hm hv (yhG (yFU plainAttrs_dict PySem.F.slot_dict_items PySem.F.type_dict_items yEY ho.of hbase hline) ynR he) m.n m.d he hpl) (yBz (K:=ckX X A) sE)
end
end PXS
namespace PX
open PySem L2 PySem.Spec PyProof.Rows
section
theorem yEZ {P:Program}{w:World}{K:PySem.W.Frag}{tg:Expr}(a it:Addr) (m:Nat):Turn P w K tg (ItR K a m) [it] it (fun i h=>i<=m/\h.IsRevIter it a ((m:Int)-1-(i:Nat))) where
 mem:=by simp
 obj:=fun i h st b hb=>by
  have e:b=it:=by simpa using hb
  subst e
  obtain ⟨_,o,e,c,d⟩:=st
  exact ⟨o,e,fun v z=>by rw [d] at z;cases z⟩
 keep:=fun i h h' st k=>⟨st.1,st.2.at fun o e=>k it (by simp) o e⟩
 item:=by
  intro X hP hw hK hc i pins s σ H E I hf st hg
  subst hP hw hK
  obtain ⟨hi,xs,x,hq,hx⟩:=hg
  obtain ⟨its,rv,p,hz⟩:=I.list hq
  obtain ⟨u,hu,ru⟩:=rv.get hx
  obtain ⟨f0,f1,f2,f3,f4,f5⟩:=hf it (by simp)
  have e0:(m:Int)-1-(i:Nat)=((m-1-i:Nat):Int):=by omega
  have st2:=st.2
  rw [e0] at st2
  refine wpAny_pyNext_rev_item st2 p.isList (x:=u) (by simpa using hu) fun h' st' sb=>?_
  have I1:Inv X pins σ H { s with heap:=h' }:=I.turned (t':=s.toks) (fun b o hb e=>(sb.2 b hb).trans e) f0 f1 f3 f4 f5
  obtain ⟨o,e,c,d⟩:=id st'
  have e2:((m-1-i:Nat):Int)-1=(m:Int)-1-((i+1:Nat):Int):=by omega
  rw [e2] at st'
  exact ⟨u,rfl,yAi (s:={ s with heap:=h' }) e c d (by decide) ⟨x,H,I1,ru,⟨rfl,fun ys hy=>by rw [I.list_inj hy hq];exact hx⟩,⟨hi,st'⟩,fun b hb=>(hf b hb).1⟩⟩
 done:=by
  intro X hP hw hK hc i pins s σ H E I hf st hg
  subst hP hw hK
  obtain rfl:i=m:=hg
  obtain ⟨f0,f1,f2,f3,f4,f5⟩:=hf it (by simp)
  have st2:=st.2
  rw [show (i:Int)-1-(i:Nat)=-1 by omega] at st2
  exact wpAny_pyNext_rev_end (I.ok.hd hc) st2 fun h' eb=>⟨rfl,I.turned (t':=s.toks) (fun b o hb e=>eb b o hb e) f0 f1 f3 f4 f5⟩
 self:=fun _ _ _ _ _ st h=>wpAny_pyIter_revIter st.2 h
variable {X:Cx}{A:Nat->Addr}{tg a:Expr}{p pos:Pos}{xa:XE}
theorem yLl {ta:TE}(hg:Gl X "reversed") (hm:X.mg "reversed" = none) (ha:PE X a ta) (he:starEach [a] X.env=(false,eval a X.env)::starEach [] X.env) (hs:starEach [a] X.env=[(false,eval a X.env)]):PI X tg (.Call (.Name "reversed" p) [a] [] pos) (yOm X.K ta):=by
 intro pins s σ H R I h
 refine Call_ (ynM I hg hm ywH (PyProof.Rows.callWith_type1 (thn (yhG ha ynR he pos pins s σ H (fun vs H1=>match vs with|[x]=>∃ b xs,x=.ref b/\SqL X.K H1 b xs/\R (ItR X.K b xs.length) H1|_=>False) I h) fun us s1 ⟨vs,H1,I1,r1,q1⟩=>?_) hs rfl))
 cases r1 with
 | nil=>exact q1.elim
 | cons r rr =>
  cases rr with
  | cons=>exact q1.elim
  | nil =>
  obtain ⟨b,xs,e,hq,q⟩:=q1
  subst e
  cases r
  obtain ⟨its,rv,pp,hz⟩:=I1.list hq
  have hl:=rv.length
  refine call_reversed_list pp.isList (wpAny_pyIter_revIter (s:={ s1 with heap:=s1.heap.push (revObj b ((its.toArray.size:Int)-1)) }) (l:=b) (i:=(its.toArray.size:Int)-1) ⟨_,Heap.get?_push_size _ rfl,rfl,rfl⟩ ?_)
  refine ⟨s1.heap.objs.size,[s1.heap.objs.size],_,_,H1,rfl,I1.kept (t':=s1.toks) fun b o e=>Heap.get?_push_of_some _ e,yEZ b _ xs.length,⟨zero_le _,_,Heap.get?_push_size _ rfl,rfl,?_⟩,fun b hb=>?_,q⟩
  .show Data.fields #[.ref b,rawInt ((its.toArray.size:Int)-1)]=Data.fields #[.ref b,rawInt ((xs.length:Int)-1-((0:Nat):Int))]
   rw [hl]
   simp
  .have e:b=s1.heap.objs.size:=by simpa using hb
   subst e
   exact I1.fpOk (Nat.le_refl _) (I1.hok.fresh (Nat.le_refl _))
theorem yIE {rest:List Stmt}{s:XS}{y:XG}{pos':Pos}(hp:PassesOwn (model X.prog X.w) X.A X.env X.xe) (hc:X.calm=true) (hgl:Gl X "reversed") (hm:X.mg "reversed" = none) (hi:ZE X A a xa) (he:starEach [a] X.env=(false,eval a X.env)::starEach [] X.env) (hs1:starEach [a] X.env=[(false,eval a X.env)])
  (hg:ZG X A tg y) (hb:ZSs X A rest s) (hs:∀ x,foldedSetIterable (.Call (.Name "reversed" p) [a] [] pos') X.env x=pure x):ZS X A (.For tg (.Call (.Name "reversed" p) [a] [] pos') rest [] pos) (yEN true xa y s) :=
 wS (yFM hp hc (yLl hgl hm hi.of he hs1) hg.of hb.of hs) (yEO (K:=ckX X A) sE sG sS)
end
end PX
namespace PX
open PySem L2 PySem.Spec PyProof.Rows
section
variable {X:Cx}{A:Nat->Addr}{a o:Expr}{xa xb:XE}{pos apos cpos:Pos}
theorem yLm:MtM X "dict.update" yOn:=by
 intro pins s σ H x vs v us Q I rx rv h
 obtain ⟨d,b,kvs,more,rfl,rfl,hne,hH,hB,hz,q⟩:=h
 cases rx
 obtain ⟨u,rfl,ru⟩:=rv.one
 cases ru
 obtain ⟨z,hd,vs,rel,dd⟩:=yId I.hok hH
 obtain ⟨z2,hd2,vs2,rel2,dd2⟩:=yId I.hok hB
 refine call_meetsIn PySem.F.slot_dict_update dd.typeIs PySem.F.entry_dict_update (PySem.F.args_dict_update_2 _ _) (meets_dict_update (yco X.prog X.w) d b hne hd2) ⟨vs,vs2,dd,dd2,by rw [<- rel.length,<- rel2.length];exact hz,fun h' dd' _ hs=>?_⟩
 have he:∃ q,h'.get? d=some q:=let ⟨q,_,_,hq,_⟩:=dd';⟨q,hq⟩
 refine ⟨.non,_,ywz (t':=s.toks) I (by rw [hH];exact True.intro) hs he (yGl ?_ hd (rel2.merge rel) dd'),rfl,q⟩
 exact Nat.le_trans (ykH more kvs) hz
end
end PX
namespace L2
open PySem PySem.Spec PyProof.Rows PX
end L2
namespace PX
open PySem L2 PySem.Spec PyProof.Rows
variable {X:Cx}{A:Nat->Addr}{x:Str}
end PX
namespace L2
open PySem PySem.Spec PyProof.Rows PX
theorem yIF {y:Str}{py spos:Pos}{iy:Nat}{X:Cx}{elt iter:Expr}{x:Str}{px:Pos}{scope:Scope}{cpos:Pos}{wi:TI}{te:TE}(ix:List Nat) (fr:List Str) (hc:X.calm=true) (hi:PI X (.Name x px) iter wi) (hfr:FrOk X scope ix fr)
  (he:∀ (cl:List (Str×Addr)) (C:Addr) (s₃:Shared) (H₃:Hp) (fp:List Addr) (pins:List (Addr×Obj)),PE (cxC X scope cl C (x::fr) s₃ H₃ fp pins) elt te)
  (hnd:(x::fr).Nodup) (hkind:scope.kind=.function) (hcell:∀ y∈scope.names,y.2≠.cell)
  (hnames:∀ y∈scope.names,y.2=.local->scope.names.lookup y.1=some .local) (hfree0:∀ y∈scope.names,y.2=.free->y.1∈fr) (hx:scope.names.lookup x=some .local)
  (hs:∀ v,foldedSetIterable iter X.env v=pure v)
  (hN:X.N.Nodup) (hyi:X.N[iy]?=some y) (hyx:Loc X.env.scope y) (hyf:X.fn y=true\/X.env.scope.names.lookup y=some .local) (hsw:swapsWith (.ListComp elt [⟨.Name x px,iter,[],0⟩] scope cpos) (some (.Name y py)) spos.line X.env=pure true) :
  PS X (.Assign [.Name y py] (.ListComp elt [⟨.Name x px,iter,[],0⟩] scope cpos) spos) (yJk (yHp wi ix te) (yyP iy)):=by
 intro pins s σ H D0 I h
 have hfn:X.env.scope.kind=.function:=I.ok.kind
 have hfree:∀ y∈scope.names,y.2=.free->X.env.kindOf y.1=some .cell/\scope.names.lookup y.1=some .free:=fun y hy e=>by
  obtain ⟨j,hj,ej⟩:=getElem_of_mem (hfree0 y hy e)
  obtain ⟨i,_,_,h3,h4⟩:=hfr.get (j:=j) (y:=y.1) (by rw [List.getElem?_eq_getElem hj,ej])
  exact ⟨h4,h3⟩
 obtain ⟨cl,ecl,hcl1,hcl2⟩:=yfq (env:=X.env) scope.names [] fun n hn=>I.ok.has n (.inl (hfree _ hn rfl).1)
 have hclos:closureFor scope X.env=pure cl:=by
  unfold closureFor
  have:(forIn scope.names ([]:List (Str×Addr)) (fun (x:Str×NameKind) (r:List (Str×Addr))=>if (x.2 == NameKind.free)=true then do let c <- cellOf X.env x.1;pure (ForInStep.yield ((x.1,c)::r)) else pure (ForInStep.yield r)):Sem (List (Str×Addr)))=pure cl:=ecl
  first
   | exact (by simpa using congrArg (· >>= fun r=>pure r) this)
   | (rw [show (pure cl:Sem (List (Str×Addr)))=(pure cl >>= fun r=>pure r) from rfl,<- this];rfl)
 have hcle:∀ y c,cl.lookup y=some c->X.env.cells.lookup y=some c/\(y,NameKind.free)∈scope.names:=fun y c e=>by
  by_cases hy:(y,NameKind.free)∈scope.names
  .exact ⟨by rw [<- hcl1 y hy];exact e,hy⟩
  .rw [hcl2 y hy] at e;simp at e
 rw [exec_Assign_Name_used _ _ _ _ hsw]
 refine wpAny_bind (wpAny_standAt (wpAny_bind ?_))
 show wpAny _ X.A (do let _ <- comprehension (.ListComp elt [⟨.Name x px,iter,[],0⟩] scope cpos) scope X.env _ (newList []) false (eval iter X.env) (some (assign (.Name y py) X.env))) _ _ s
 refine wpAny_bind (wpAny_mono (wpAny_comprehension_free (use:=some (assign (.Name y py) X.env)) (Q:=fun _ s'=>SP X pins D0 .next s') rfl hs hclos hkind hnames ?_) (fun _ s' hq=>wpAny_pure (wpAny_pure hq)) fun _ _ e=>e)
 refine thn (hi pins s σ H _ I h) fun v s1 h1=>thn h1 fun itv s2 h2=>?_
 obtain ⟨it,fp,tn,J,H2,e,I2,T,st2,f2,q2⟩:=h2
 subst e
 refine wpAny_newObj_type ?_
 generalize hs3:({ s2 with heap:=s2.heap.push { cls:=.type "list",dict:=none,data:=.seq ([]:List Value).toArray } }:Shared)=s3
 generalize hD:s2.heap.objs.size=D
 have hDn:H2 D=none:=by rw [<- hD];exact I2.hok.fresh (Nat.le_refl _)
 have I3:Inv X pins σ (upd H2 D (.lst [])) s3:=by
  rw [<- hs3,<- hD]
  exact I2.lnew (t':=s2.toks) (ys:=[]) (its:=[]) .nil (zero_le _)
 have k3:∀ b o,s2.heap.get? b=some o->s3.heap.get? b=some o:=fun b o e=>by rw [<- hs3];exact Heap.get?_push_of_some _ e
 have st3:tn 0 s3.heap:=T.keep _ _ _ st2 fun b _ o e=>k3 b o e
 have fne:∀ b∈fp,b≠D:=fun b hb=>by
  obtain ⟨o,e,_⟩:=T.obj _ _ st2 b hb
  rw [<- hD]
  exact ne_of_lt (Heap.lt_size e)
 have f3:∀ b∈fp,yAh X pins (upd H2 D (.lst [])) b:=fun b hb=>⟨by rw [yX (fne b hb)];exact (f2 b hb).1,(f2 b hb).2⟩
 have q3:=q2 D hDn
 generalize upd H2 D (.lst [])=H3 at I3 f3 q3
 obtain ⟨W,⟨m0,w0⟩,turn⟩:=q3
 refine wpAny_newFunctionEnv hcell (by intro y hy;simp at hy) (fun h4 hns hsb=>?_) hkind
 try dsimp only at hns hsb ⊢
 generalize hC:s3.heap.objs.size=C at hns hsb ⊢
 have k4:∀ b o,s3.heap.get? b=some o->h4.get? b=some o:=fun b o e=>(hsb.2 b (by rw [<- hC];exact ne_of_lt (Heap.lt_size e))).trans (Heap.get?_push_of_some _ e)
 have Cne:∀ b o,s3.heap.get? b=some o->b≠C:=fun b o e=>by rw [<- hC];exact ne_of_lt (Heap.lt_size e)
 have stk:=I3.stkSub
 have pinF:∀ p∈X.pn++pins,p.1∉frs X.stack:=fun p hp z=>by
  obtain ⟨_,_,n1,n2,_⟩:=I3.pin p hp
  rcases mem_cons.mp (stk _ z) with z|z
  .exact n1 z
  .exact n2 z
 have okC:(cxC X scope cl C (x::fr) s3 H3 fp pins).Ok:=by
  refine ⟨I3.ok.mod,by show (relabel scope X.env).kind=_;exact hkind,I3.ok.glob,I3.ok.blt,le_of_eq hC,fun y z c h1 h2=>I3.ok.inj y z c (hcle y c h1).1 (hcle z c h2).1,fun y hy=>?_,fun y c hf _=>(by cases hf),I3.ok.hd,I3.ok.frames,.inl rfl,fun b hb=>⟨?_,fun y c e z=>?_⟩,I3.bs,?_,fun b o e hb=>?_,fun b hb z=>?_,I3.stack,I3.stkFree⟩
  .have hy:((relabel scope X.env).names.lookup y=some .cell)\/((relabel scope X.env).names.lookup y=some .free):=hy
   rw [show (relabel scope X.env).names.lookup y=_ from ycJ y scope.names] at hy
   cases e:scope.names.lookup y with
   | none=>rw [e] at hy;simp at hy
   | some k =>
    have hm:(y,k)∈scope.names:=PySem.mem_of_lookup e
    have hkf:k=.free:=by
     rw [e] at hy
     cases k<;>simp at hy ⊢
     exact absurd rfl (hcell _ hm)
    subst hkf
    obtain ⟨c,hc'⟩:=I3.ok.has y (.inl (hfree _ hm rfl).1)
    exact ⟨c,by show cl.lookup y=_;rw [hcl1 y hm];exact hc'⟩
  .obtain ⟨o,e,_⟩:=T.obj _ _ st3 b hb
   exact Cne b o e
  .exact (f3 b hb).2.2.2.2.1 y c (hcle y c e).1 z
  .exact Nat.le_trans I3.ok.bsz I3.sz
  .rcases (f3 b hb).2.2.2.1 with z|z
   .exact I3.ok.noex b o e z
   .exact absurd (lt_of_lt_of_le (Heap.lt_size e) (Nat.le_trans I3.ok.bsz z)) (lt_irrefl _)
  .rcases mem_cons.mp (stk _ z) with z|z
   .exact (f3 b hb).2.1 z
   .exact (f3 b hb).2.2.1 z
 have inn:∀ v,(inner ix σ v)=some v::ix.map fun i=>(σ[i]?).getD none:=fun _=>rfl
 have I4:Inv (cxC X scope cl C (x::fr) s3 H3 fp pins) [] (none::ix.map fun i=>(σ[i]?).getD none) H3 { s3 with heap:=h4,toks:=s3.toks+([]:List (Str×Value)).length }:=by
  refine ⟨okC,rfl,I3.bare,Un.kept k4,⟨_,hns,fun j y v e1 e2 e3=>?_⟩,fun y c e=>?_,I3.hok.fresh (le_of_eq hC),fun y c e=>I3.freeC y c (hcle y c e).1,fun p hp=>?_,I3.hok.kept k4,?_⟩
  .match j,e1,e2 with
   | 0,e1,e2=>simp at e2
   | j+1,e1,e2 =>
    obtain ⟨i,hi1,hi2,hi3,hi4⟩:=hfr.get (j:=j) (y:=y) (by have e1':(x::fr)[j+1]?=some y:=e1;simpa using e1')
    have e2':σ[i]?=some (some v):=by
     have e2:(ix.map fun i=>(σ[i]?).getD none)[j]?=some (some v):=by simpa using e2
     rw [getElem?_map,hi1] at e2
     simp at e2
     cases z:σ[i]? with
     | none=>rw [z] at e2;simp at e2
     | some o=>rw [z] at e2;simp at e2;rw [e2]
    obtain ⟨m,_,hl⟩:=I3.loc
    obtain ⟨u,r,l⟩:=hl i y v hi2 e2' (.inr (.inl hi4))
    refine ⟨u,r,?_⟩
    rcases l with ⟨k,_⟩|⟨k,c,ec,z⟩
    .rw [hi4] at k;cases k
    .have hm:(y,NameKind.free)∈scope.names:=PySem.mem_of_lookup hi3
     refine .inr ⟨.inl ?_,c,by show cl.lookup y=_;rw [hcl1 y hm];exact ec,?_⟩
     .show (relabel scope X.env).names.lookup y=_
      rw [show (relabel scope X.env).names.lookup y=_ from ycJ y scope.names,hi3]
      simp [hfn,hi4]
     .obtain ⟨o,ho,hd⟩:=z
      exact ⟨o,k4 _ _ ho,hd⟩
  .obtain ⟨v,o,ho,hd⟩:=I3.cell y c (hcle y c e).1
   exact ⟨v,o,k4 _ _ ho,hd⟩
  .have hp:p∈X.pn++pins:=by simpa [cxC] using hp
   obtain ⟨e,n,ne,nf,d⟩:=I3.pin p hp
   exact ⟨k4 _ _ e,n,Cne _ _ e,pinF p hp,d⟩
  .show (none::ix.map fun i=>(σ[i]?).getD none).length=(x::fr).length
   rw [length_cons,length_cons,length_map,hfr.len]
 have st4:tn 0 h4:=T.keep _ _ _ st3 fun b _ o e=>k4 b o e
 have f4:∀ b∈fp,b≠C/\b∉frs X.stack/\(∀ y c,cl.lookup y=some c->c≠b)/\∀ p∈(X.pn++pins)++([]:List (Addr×Obj)),p.1≠b:=fun b hb=>by
  obtain ⟨o,e,_⟩:=T.obj _ _ st3 b hb
  refine ⟨Cne b o e,fun z=>?_,fun y c e=>(f3 b hb).2.2.2.2.1 y c (hcle y c e).1,fun p hp=>(f3 b hb).2.2.2.2.2 p (by simpa using hp)⟩
  rcases mem_cons.mp (stk _ z) with z|z
  .exact (f3 b hb).2.1 z
  .exact (f3 b hb).2.2.1 z
 have stat:∀ {H':Hp},(∀ b∈fp,H' b=none)->∀ b∈fp,yAh (cxC X scope cl C (x::fr) s3 H3 fp pins) [] H' b:=fun hn b hb=>⟨hn b hb,(f4 b hb).1,(f4 b hb).2.1,.inl hb,(f4 b hb).2.2.1,(f4 b hb).2.2.2⟩
 have fin:∀ {σ':St}{H':Hp}{s':Shared},Inv (cxC X scope cl C (x::fr) s3 H3 fp pins) [] σ' H' s'->yyP iy (.ref D) σ H' D0.nx->compPost (model X.prog X.w) X.A X.xe (some (assign (.Name y py) X.env)) (fun _ s'=>SP X pins D0 .next s') (.ref D) C (.ok .next) s':=fun {σ' H' s'} I' q'=>by
  obtain ⟨m,hn,_⟩:=I'.loc
  have hCn:H' C=none:=I'.free
  have U:=I'.base
  have U':Un (frs X.stack) fp H3 H' s3.heap s'.heap:=⟨U.keep,U.slot,U.free,U.there,U.tups,U.frzs,U.tbls⟩
  have IX:Inv X pins σ H' s':=I3.call' (s':=s') (by show s'.os=s3.os;exact I'.os) U' I'.hok I'.bare fun b hb=>⟨(f3 b hb).2.2.2.1,(f3 b hb).2.1,(f3 b hb).2.2.2.2.1,(f3 b hb).2.2.2.2.2⟩
  have hCf:yAh X pins H' C:=I3.fpOk (le_of_eq hC) hCn
  obtain ⟨o,es,ep,eo,r1,r2,r3⟩:=hn
  have IP:=IX.pinned (fp:=[C]) (fun b hb=>by have e:b=C:=(by simpa using hb);subst e;exact hCf) (fun b hb=>by have e:b=C:=(by simpa using hb);subst e;exact ⟨o,eo,fun v z=>by rw [r1] at z;cases z⟩)
  refine thn (yro hN hyi hyx hyf _ s' σ H' (.ref D) (.ref D) D0.nx IP rfl q') fun _ s2 ⟨σ2,H2',I2',q2'⟩=>?_
  have pc:=I2'.pin (C,o) (mem_append_right _ (mem_append_right _ (ydE (by simp) eo)))
  exact ⟨m,⟨o,es,ep,pc.1,r1,r2,r3⟩,fun h' sb=>⟨σ2,H2',I2'.unpinned.turned (t':=s2.toks) (fun b ob hb e=>(sb.2 b hb).trans e) pc.2.1 hCf.2.1 hCf.2.2.2.1 hCf.2.2.2.2.1 hCf.2.2.2.2.2,q2'⟩⟩
 have loop:∀ s5:Shared,s5={ s3 with heap:=h4,toks:=s3.toks+([]:List (Str×Value)).length } ->
   codeAny (model X.prog X.w) X.A (.compLoop (.ListComp elt [⟨.Name x px,iter,[],0⟩] scope cpos) 0 (.ref it) (.ref D) (compEnvC scope cl C X.env)) (compPost (model X.prog X.w) X.A X.xe (some (assign (.Name y py) X.env)) (fun _ s'=>SP X pins D0 .next s') (.ref D) C) s5:=by
  rintro s5 rfl
  refine codeAny_loop rfl (fun n s'=>∃ i o H',Inv (cxC X scope cl C (x::fr) s3 H3 fp pins) [] (o::ix.map fun i=>(σ[i]?).getD none) H' s'/\tn i s'.heap/\(∀ b∈fp,H' b=none)/\W i n H') ?_ m0 ⟨0,none,H3,I4,st4,fun b hb=>(f3 b hb).1,w0⟩
  rintro n s6 ⟨i,o,H6,I6,st6,fr6,w6⟩
  show wpAny _ _ ((compTurn (.ListComp elt [⟨.Name x px,iter,[],0⟩] scope cpos) 0 (.ref it) (.ref D) (compEnvC scope cl C X.env)).onRaise (fun x=>do noteFrame x (compEnvC scope cl C X.env);theTreesLotGoes x)) _ _ s6
  refine wpAny_noted ?_
  rw [compTurn_list1]
  rcases turn i n H6 w6 with ⟨stop,qn⟩|⟨go,step⟩
  .refine wpAny_bind (wpAny_standAt (wpAny_bind (thn (T.done (cxC X scope cl C (x::fr) s3 H3 fp pins) rfl rfl rfl hc i [] s6 _ H6 _ I6 (stat fr6) st6 stop) fun r s7 ⟨hr,I7⟩=>?_)))
   subst hr
   exact wpAny_pure (fin I7 qn)
  .refine wpAny_bind (wpAny_standAt (wpAny_bind (thn (T.item (cxC X scope cl C (x::fr) s3 H3 fp pins) rfl rfl rfl hc i [] s6 _ H6 _ I6 (stat fr6) st6 go) fun r s7 ⟨u,hr,h7⟩=>?_)))
   subst hr
   refine wpAny_bind (thn h7 fun _ s8 ⟨y,H8,I8,r8,y8,st8,fr8⟩=>?_)
   have I8':=I8.pinned (stat fr8) (T.obj _ _ st8)
   have hx':Loc (cxC X scope cl C (x::fr) s3 H3 fp pins).env.scope x:=.inl (lookup_relabel_local hx)
   refine wpAny_bind (wpAny_mono (yro (X:=cxC X scope cl C (x::fr) s3 H3 fp pins) (i:=0) (x:=x) (pos:=px) hnd rfl hx' (.inr (lookup_relabel_local hx)) _ s8 _ H8 y u (fun σ9 H9=>σ9=inner ix σ y/\H9=H8) I8' r8 ⟨rfl,rfl⟩) (fun _ s9 ⟨σ9,H9,I9,e9,e9'⟩=>?_) fun _ _ f=>f.elim)
   subst e9 e9'
   refine wpAny_bind (wpAny_bind (wpAny_mono (he cl C s3 H3 fp pins _ s9 _ _ _ I9 (step y _ y8)) (fun v s10 ⟨z,H10,I10,r10,acc,a10,l10,m',hm',w10⟩=>?_) fun _ _ f=>f.elim))
   refine wpAny_bind (wpAny_mono (yhH (X:=cxC X scope cl C (x::fr) s3 H3 fp pins) _ s10 _ H10 (.ref D) [z] (.ref D) [v] (fun _ H11=>H11=upd H10 D (.lst (acc++[z]))) I10 rfl (.cons r10 .nil) ⟨D,acc,z,rfl,rfl,a10,l10,rfl⟩) (fun _ s11 ⟨_,H11,I11,_,e11⟩=>?_) fun _ _ f=>f.elim)
   subst e11
   refine wpAny_pure (wpAny_pure ⟨rfl,m',hm',i+1,some y,_,I11.unpinned,T.keep _ _ _ st8 fun b hb o e=>(I11.pin (b,o) (mem_append_right _ (mem_append_right _ (ydE hb e)))).1,fun b hb=>?_,w10⟩)
   obtain ⟨o,e,d⟩:=T.obj _ _ st8 b hb
   exact (I11.pin (b,o) (mem_append_right _ (mem_append_right _ (ydE hb e)))).2.1
 exact codeAny_compStart_list (loop _ rfl) (T.self X.A 0 _ _ _ st4 (loop _ rfl))
end L2
namespace PX
open PySem L2 PySem.Spec PyProof.Rows
variable {X:Cx}{A:Nat->Addr}{x y:Str}{py spos:Pos}{iy:Nat}
theorem yFa {elt iter:Expr}{px:Pos}{scope:Scope}{cpos:Pos}{it:XA}{xe:XE}(ix:List Nat) (fr:List Str) (hc:X.calm=true) (hi:ZI X A (.Name x px) iter it) (hfr:FrOk X scope ix fr)
  (he:∀ (cl:List (Str×Addr)) (C:Addr) (s₃:Shared) (H₃:Hp) (fp:List Addr) (pins:List (Addr×Obj)),ZE (cxC X scope cl C (x::fr) s₃ H₃ fp pins) A elt xe)
  (hnd:(x::fr).Nodup) (hkind:scope.kind=.function) (hcell:∀ y∈scope.names,y.2≠.cell) (hnames:∀ y∈scope.names,y.2=.local->scope.names.lookup y.1=some .local) (hfree0:∀ y∈scope.names,y.2=.free->y.1∈fr) (hx:scope.names.lookup x=some .local) (hs:∀ v,foldedSetIterable iter X.env v=pure v)
  (hN:X.N.Nodup) (hyi:X.N[iy]?=some y) (hyx:Loc X.env.scope y) (hyf:X.fn y=true\/X.env.scope.names.lookup y=some .local) (hsw:swapsWith (.ListComp elt [⟨.Name x px,iter,[],0⟩] scope cpos) (some (.Name y py)) spos.line X.env=pure true):ZS X A (.Assign [.Name y py] (.ListComp elt [⟨.Name x px,iter,[],0⟩] scope cpos) spos) (ybA (ygw (ynV it ix xe)) (yx iy)) :=
 wS (yIF ix fr hc hi.of hfr (te:=cE (ckX X A) xe) (fun cl C s₃ H₃ fp pins=>(he cl C s₃ H₃ fp pins).of) hnd hkind hcell hnames hfree0 hx hs hN hyi hyx hyf hsw) (yAQ (yAN (yxZ (K:=ckX X A) ix sI sE)) (ynW iy))
theorem yIG {k lv:Nat}{f:Addr}{fd:FuncData}{ps:List Str}{p pos:Pos}{fi} (M:Mk X.K (A k) f) (F:FnOk X.prog X.w X.K X.mg X.base CX0 lv f fd ps (spI (ckX X A) 0 k fi)) (hr:Room (lv+1) X.A) (m:Nm x) (hg:Gl X x) (hm:X.mg x=some (.ref (A k))) (hb:Binds X.K fd ps []):ZO X A (.Call (.Name x p) [] [] pos) (ykF fi yn) :=
 wO (yDJ M F hr hg hm hb .nil yvZ m.d) (yyc (K:=ckX X A) (k:=k) ynU ywr)
end PX
namespace PX
open PySem L2 PySem.Spec PyProof.Rows KasS PXS
section
variable {X:Cx}{A:Nat->Addr}
theorem yBY:∀ (vs:List Value) (ns:List Int),vs.length=ns.length->(∀ (j:Nat) (v:Value),vs[j]?=some v->∃ t n,ns[j]?=some n/\v=.int n t)->IntsAre vs ns
 | [],[],_,_=>IntsAre.nil
 | [],_::_,h,_=>by cases h
 | _::_,[],h,_=>by cases h
 | v::vs,n::ns,hl,h=>by
  obtain ⟨t,m,e1,e2⟩:=h 0 v rfl
  have e1:some n=some m:=e1
  cases e1
  subst e2
  have ih:=yBY vs ns (by simpa using hl) fun j v e=>by
   obtain ⟨t,n,e1,e2⟩:=h (j+1) v (by simpa using e)
   exact ⟨t,n,by simpa using e1,e2⟩
  exact .cons _ _ ih
theorem ykA {vs:List Value}{ns:List Int}(h:IntsAre vs ns):Vals (ns.map V.int) vs:=by
 induction h with
 | nil=>exact .nil
 | cons n t _ ih=>exact .cons ⟨t,rfl⟩ ih
theorem yon (hc:X.calm=true):yjs X (.builtin "sorted") rSK:=by
 intro pins s σ H xs us Q I rr hh
 obtain ⟨d,kvs,ns,rfl,hd,hk,h64,q⟩:=hh
 obtain ⟨u,rfl,rx⟩:=vals1 rr
 cases rx
 obtain ⟨z,sy,ws,kv,hD⟩:=I.hok d _ hd
 obtain ⟨ep,hat⟩:=hD.dictAt
 obtain ⟨kv1,kv2⟩:=yGz kv
 have lw:ws.length=kvs.length:=by have:=congrArg length kv1;simpa using this
 have ln:ns.length=kvs.length:=by have:=congrArg length hk;simpa using this.symm
 refine Calls.call_function_entry kind_sorted plain_sorted entry_sorted (args_sorted1 _) ?_
 unfold Builtin.«sorted»
 refine wpAny_bind (m:=checkCount "sorted" 1 1 _) (wpAny_pure ?_)
 refine wpAny_bind (PySem.W.kdu_collect (A:=X.A.in1) (PySem.W.kdl_dict (knd:=yco X.prog X.w) (kvs:=ws) (ep:=ep) sy) (I.ok.hd hc) hat (by rw [lw];exact z) fun h' tk acc keep hacc=>?_)
 have hal:acc.toList.length=ns.length:=by rw [Array.length_toList,hacc.1];omega
 refine wpAny_bind (wpAny_newList ?_ (by rw [hal,ln];exact z))
 have ia:IntsAre acc.toList ns:=yBY _ _ hal fun j v e=>by
  obtain ⟨k,x,e1,e2⟩:=hacc.2 j v (by rw [<- Array.getElem?_toList];exact e)
  have hj:j<ns.length:=by have:=(List.getElem?_eq_some_iff.mp e).1;omega
  have h1:(ws.map (·.1))[j]?=some k:=by rw [getElem?_map,e1];rfl
  rw [kv1,hk,getElem?_map,List.getElem?_eq_getElem hj] at h1
  have h1:k=.inl ns[j]:=(Option.some.inj h1).symm
  rcases yby e2 with ⟨i,tk,g1,g2⟩|⟨y,tk,g1,g2⟩
  .rw [h1] at g1;cases g1;exact ⟨tk,_,List.getElem?_eq_getElem hj,g2⟩
  .rw [h1] at g1;cases g1
 generalize hB:h'.objs.size=B
 have noB:s.heap.get? B=none:=by
  cases e:s.heap.get? B with
  | none=>rfl
  | some o=>exact absurd (Heap.lt_size (keep B o e)) (by rw [hB];exact lt_irrefl _)
 have free:H B=none:=by
  cases e2:H B with
  | none=>rfl
  | some o=>obtain ⟨u,hu⟩:=yyw (I.hok B o e2);rw [noB] at hu;cases hu
 have hoL:(h'.push { cls:=.type "list",data:=.seq acc.toList.toArray }).get? B=some (seqObj "list" acc.toList.toArray 0):=by rw [<- hB];exact Heap.get?_push_size _ rfl
 refine wpAny_bind (wpAny_holding (wpAny_call_entry PySem.F.slot_list_sort ⟨_,hoL,rfl⟩ PySem.F.entry_list_sort ?body (PySem.F.args_list_sort_1 _)))
 case body =>
  refine list_sort_tree (s:={ s with heap:=h'.push { cls:=.type "list",data:=.seq acc.toList.toArray },toks:=tk }) hoL ia (by omega) fun out ms i1 i2 i3=>?_
  refine ⟨_,rfl,wpAny_pure ⟨_,rfl,?_⟩⟩
  generalize hS:sortedHeap (h'.push { cls:=.type "list",data:=.seq acc.toList.toArray }) B acc.toList out=S
  have hFa:∀ b o,b≠B->h'.get? b=some o->S.get? b=some o:=fun b o hb e=>by
   rw [<- hS]
   unfold sortedHeap
   exact (Heap.get?_update_other _ _ (Ne.symm hb)).trans (Heap.get?_push_of_some _ (Heap.get?_push_of_some _ ((Heap.get?_update_other _ _ (Ne.symm hb)).trans (Heap.get?_push_of_some _ e))))
  have hFB:∃ c,S.get? B=some (seqObj "list" out c):=by
   rw [<- hS]
   unfold sortedHeap
   exact ⟨_,get?_update_seq (Heap.get?_push_of_some _ (Heap.get?_push_of_some _ (get?_update_seq hoL _))) _⟩
  refine ⟨.ref B,_,?_,rfl,q B ms i2 i3 free⟩
  show L2.Inv X pins σ _ { s with heap:=S,toks:=tk }
  refine yBX I (fun b o e=>hFa b o (fun z=>by rw [z,noB] at e;cases e) (keep b o e)) (fun b o e=>?_) fun b o e e2=>?_
  .rw [yX fun z=>by rw [z,free] at e;cases e];exact e
  .by_cases hb:b=B
   .subst hb
    rw [yP] at e2
    cases e2
    obtain ⟨c,hc⟩:=hFB
    refine ⟨noB,by rw [length_map,i2.length_eq,ln];exact z,out.toList,c,ykA i1,by simpa using hc⟩
   .rw [yX hb,e] at e2;cases e2
variable {a:Expr}{xa:XE}{aa:XA}{pos p:Pos}{x:Str}{n:Nat}
theorem yIH (hc:X.calm=true) (ha:ZE X A a xa) (m:Nm x) (hg:Gl X x) (hm:X.mg x=none) (hv:bootBuiltins x=some (.builtin "sorted"))
  (he:starEach [a] X.env=(false,eval a X.env)::starEach [] X.env) (hpl:(backTo pos (starEach [] X.env)).any (·.1)=false):ZO X A (.Call (.Name x p) [a] [] pos) (ykC yqN (yb xa yn)) :=
 wO (ynz (yon hc) hg hm hv (yhG ha.of ynR he) m.n m.d he hpl) (yAO (K:=ckX X A) yIr (yxX sE ynU))
end
end PX
namespace PX
open PySem L2 PySem.Spec PyProof.Rows KasS PXS
section
variable {X:Cx}{A:Nat->Addr}{tg a:Expr}{p pos:Pos}{xa:XE}
end
end PX
namespace PX
open PySem L2 PySem.Spec PyProof.Rows
section
variable {X:Cx}{A:Nat->Addr}
theorem yII:MtR X "str.find" yAC:=by
 intro pins s σ H x xs v us Q I rx rv h
 obtain ⟨z,c,rfl,rfl,hz,hm,q⟩:=h
 obtain ⟨t,rfl⟩:=rx
 obtain ⟨u,rfl,tu,rfl⟩:=vals1 rv
 rcases yHq z c with ⟨_,h2⟩|⟨r,h1,_⟩
 .exact absurd hm h2
 .refine SC.find ?_
  have e:(Txt.find z ⟨#[c]⟩:Int)=((z.cps.toList.idxOf c:Nat):Int):=by
   unfold Txt.find
   rw [h1]
  rw [e]
  exact ⟨.int _,H,I.tok _,⟨_,rfl⟩,q⟩
variable {pos p apos:Pos}{x m:Str}{e:Expr}{es:List Expr}{aa:XA}{n:Nat}
theorem yoo {a:Addr}{ss:List Str}(nm:Nm x) (hg:Gl X x) (hm:X.mg x=some (.ref a)) (hk:KTp X.K a (ss.map V.str)):ZE X A (.Name x pos) (xC (.tup (ss.map PV.str))):=wE (ywf hg hm nm.d) (yEQ (K:=ckX X A) hk)
structure yFb (K:PySem.W.Frag) (C:Addr) (m:Str) (f:Addr):Prop where
 rd:PySem.W.readsIn K C (.type "type")=true
 fc:PySem.W.findCls K (.ref C) (.type "type") m=some (.val (.ref f))
 sp:PySem.W.specialIn K (.ref C) "__getattribute__" = some (some (.builtin "type.__getattribute__"))
 kp:keepIn K (.ref f)=true
theorem yIJ {C f:Addr}{k:Nat}{fd:FuncData}{ps:List Str}{sp:Sp}{E:XK}{t:TA}{pl:Sem Bool}{CX:CXT}(c:yFb X.K C m f) (hg:Gl X x) (hm:X.mg x=some (.ref C)) (F:FnOk X.prog X.w X.K X.mg X.base CX k f fd ps sp) (hr:Room k X.A) (hb:Binds X.K fd ps []) (hx:ykx CX X E) (ha:PA X (e::es) t)
  (hd:(x == ("__debug__":Str))=false)
  (hst:starEach (e::es) X.env=(false,eval e X.env)::starEach es X.env) (hpl:(backTo pos (starEach es X.env)).any (·.1)=false)
  (ht:eval (.Call (.Attribute (.Name x p) m apos) (e::es) [] pos) X.env=(do
   let ov <- eval (.Name x p) X.env
   standAt apos.atName
   let (f,first) <- holding [ov] (getMethod ov m pl)
   callWith pos f first (backTo pos (starEach (e::es) X.env)) (backToKw pos (keywordEach [] X.env)))) :
  PE X (.Call (.Attribute (.Name x p) m apos) (e::es) [] pos) (yDH sp [] E t):=by
 intro pins s σ H Q I h
 refine PySem.W.methodCall_KW (pl:=pl) (thn (ywf (X:=X) hg hm hd pins s σ H (fun v H1=>v=.ref C/\H1=H) I ⟨rfl,rfl⟩) fun u s1 ⟨v,H1,I1,rx,ex,eh⟩=>?_) ht
 subst ex eh
 obtain rfl:u=Value.ref C:=rx
 refine PySem.W.method_cls I1.kIn c.sp (PySem.W.cls_value I1.kIn c.rd c.fc rfl ?_)
 have I1:=I1.tok (s1.toks+1)
 refine PySem.W.callWith_K (first:=[]) (h₀:=X.base) I.ok.mod.kin c.kp (thn (ha pos pins _ σ H1 _ I1 h) fun us s2 ⟨vs,H2,I2,r,q2⟩=>⟨I2.kIn,?_⟩) hst hpl
 exact yth (us:=us) (vs:=vs) F hr hb .nil hx I2 r q2
theorem yIK {C f:Addr}{lv k:Nat}{fd:FuncData}{ps:List Str}{fi} {pl:Sem Bool}{o:Expr}{sp:Pos}(c:yFb X.K C m f) (nm:Nm x) (hg:Gl X x) (hm:X.mg x=some (.ref C)) (F:FnOk X.prog X.w X.K X.mg X.base CX0 lv f fd ps (spJ (ckX X A) n k fi)) (hr:Room lv X.A) (hb:Binds X.K fd ps [])
  (ho:PE X o (yzX 0)) (ha:ZA X A es n aa) (hst:starEach (o::es) X.env=(false,eval o X.env)::starEach es X.env) (hpl:(backTo pos (starEach es X.env)).any (·.1)=false)
  (ht:eval (.Call (.Attribute (.Name x p) m apos) (o::es) [] pos) X.env=(do
   let ov <- eval (.Name x p) X.env
   standAt apos.atName
   let (f,first) <- holding [ov] (getMethod ov m pl)
   callWith pos f first (backTo pos (starEach (o::es) X.env)) (backToKw pos (keywordEach [] X.env))))
  (hq:swapsWith (.Call (.Attribute (.Name x p) m apos) (o::es) [] pos) none sp.line X.env=pure false):ZF X A (.Expr (.Call (.Attribute (.Name x p) m apos) (o::es) [] pos) sp) (xBI k fi aa) :=
 wF (yrn (yIJ (E:=fun _ _ _=>False) c hg hm F hr hb yvZ (yhG ho ha.of hst) nm.d hst hpl ht) hq) (yIt (K:=ckX X A) sA ha.len)
end
section
variable {P:Program}{w:World}{K:PySem.W.Frag}{mg:Str->Option Value}{base:Heap}{A:Nat->Addr}
theorem yOO {x qual:Str}{st:Stmt}{f:Addr}{fd:FuncData}{N ps:List Str}{k kc n:Nat}{s:XS}(F:Fun K x qual st f fd) (S:yl N ps (yh st)) (hn:ps.length=n+1) (hN:n+1<=N.length)
  (h:∀ (cdv:Value) (Ar:Around) (outer:List Env) (sh:Shared) (H:Hp) (E:XK),Room k (Ar.deeper (envOfC qual (yh st) sh.heap.objs.size f cdv))->ZFs (yDK CX0 P w K mg base N qual (yh st) f cdv Ar outer sh H E).nox A (yhI st) s) :
  FnOk P w K mg base CX0 (k+1) f fd ps (spJ ⟨K,A⟩ n kc (ytN N.length kc s)) :=
 F.ok S (fun _ _ _ _ h=>(yIs h).trans hn.symm) fun cdv Ar outer sh H vs Q E hr hq=>⟨_,(h cdv Ar outer sh H E hr).of,yBE (K:=⟨K,A⟩) hN sF hq⟩
end
end PX
namespace PX
open PySem L2 PySem.Spec PyProof.Rows
section
variable {X:Cx}{A:Nat->Addr}
theorem yed:yjs X (.type "dict") yBF:=by
 intro pins s σ H xs us Q I r h
 obtain ⟨a,kvs,rfl,ha,q⟩:=h
 obtain ⟨u,rfl,rx⟩:=vals1 r
 cases rx
 obtain ⟨z,sy,ws,kv,hD⟩:=I.hok a _ ha
 have lw:ws.length=kvs.length:=kv.length.symm
 refine kt_call_dict sy hD (by rw [lw];exact z) fun h' hd sb=>?_
 have kp:∀ b o,s.heap.get? b=some o->h'.get? b=some o:=fun b o e=>(sb.2 b (ne_of_lt (Heap.lt_size e))).trans (Heap.get?_push_of_some _ e)
 refine ⟨.ref s.heap.objs.size,_,I.laid (t':=s.toks) kp (Nat.le_refl _) (show ObjOk X.prog X.w _ h' _ (.dK kvs) from ⟨z,?_,ws,kv,hd⟩),rfl,q _ (I.hok.fresh (Nat.le_refl _))⟩
 exact beq_eq_false_iff_ne.mpr (Nat.ne_of_gt I.big)
end
end PX
namespace PX
open PySem L2 PySem.Spec PyProof.Rows
section
variable {prog:Program}{w:World}{A:Around}{E:Value->Shared->Prop}{s:Shared}
end
section
variable {X:Cx}{A:Nat->Addr}
end
end PX
namespace PX
open PySem L2 PySem.Spec PyProof.Rows
open Builtin Builtin.Str in
section
variable {prog:Program}{w:World}{A:Around}{E:Value->Shared->Prop}{s:Shared}
end
section
variable {X:Cx}{A:Nat->Addr}
end
section
variable {X:Cx}{pins:List (Addr×Obj)}{σ:L2.St}{H:Hp}{s:Shared}{h':Heap}
end
section
variable {X:Cx}{A:Nat->Addr}{elts:List Expr}{x1:Nat}{tp p pos:Pos}{a b:Expr}{aa:XA}{n:Nat}
end
section
variable {X:Cx}{A:Nat->Addr}{pos:Pos}
end
end PX
namespace PX
open PySem L2 PySem.Spec PyProof.Rows
section
variable {X:Cx}{A:Nat->Addr}{a:Expr}{es:List Expr}{p pos:Pos}{x:Str}{aa:XA}{n lv:Nat}{f:Addr}{fd:FuncData}{ps:List Str}{fn:Fn}
end
end PX
namespace PX
open PySem L2 PySem.Spec PyProof.Rows
section
variable {X:Cx}{A:Nat->Addr}{tg a b c:Expr}{p pos:Pos}{aa:XA}{n:Nat}
theorem szD {i:Int}(h:-1<=i):Builtin.Range.rangeSize i (-1) (-1)=((i+1).toNat:Int):=by
 unfold Builtin.Range.rangeSize
 rw [if_neg (by omega)]
 split
 .rw [show (-(-1):Int)=1 from rfl,Int.ediv_one]
  omega
 .omega
theorem yIL {i:Int}(h:-1<=i/\i<1000000000):Builtin.Range.small i (-1) (-1)=true:=by
 unfold Builtin.Range.small
 have hs:=szD h.1
 simp only [Builtin.Range.rangeFitsLong,and_eq_true,Bool.or_eq_true,decide_eq_true_eq,beq_iff_eq,hs,show ¬ ((-1:Int)>0) by omega,if_false]
 omega
theorem yBZ {pins:List (Addr×Obj)}{σ:L2.St}{H:Hp}{s:Shared}{R:It->Hp->Prop}{E:Value->Shared->Prop}{lo:Int}{t u v:Tok}{tk:Nat}(I:Inv X pins σ H s) (h:-1<=lo/\lo<1000000000)
  (q:R (yJn lo (-1) (lo+1).toNat) H):wpAny (model X.prog X.w) X.A (pyIter (.ref s.heap.objs.size)) (PIE X pins σ tg R) E { s with heap:=s.heap.push { cls:=.type "range",data:=.fields #[.int lo t,.int (-1) u,.int (-1) v] },toks:=tk }:=by
 refine wpAny_pyIter_range (IsRange.new ..) (yIL h) ?_
 have I1:Inv X pins σ H { s with heap:=s.heap.push { cls:=.type "range",data:=.fields #[.int lo t,.int (-1) u,.int (-1) v] },toks:=tk }:=I.kept fun b o e=>Heap.get?_push_of_some _ e
 refine ⟨(s.heap.push { cls:=.type "range",data:=.fields #[.int lo t,.int (-1) u,.int (-1) v] }).objs.size,[(s.heap.push { cls:=.type "range",data:=.fields #[.int lo t,.int (-1) u,.int (-1) v] }).objs.size],_,_,H,rfl,
  I1.kept (t':=tk) fun b o e=>Heap.get?_push_of_some _ e,yoi _ lo (-1) (lo+1).toNat,?_,fun b hb=>?_,q⟩
 .have e1:lo+((0:Nat):Int)*(-1)=lo:=by simp
  have e2:(((lo+1).toNat:Nat):Int)-((0:Nat):Int)=Builtin.Range.rangeSize lo (-1) (-1):=by rw [szD h.1];omega
  show IsRangeIter _ _ (lo+((0:Nat):Int)*(-1)) ((((lo+1).toNat:Nat):Int)-((0:Nat):Int)) (-1)
  rw [e1,e2]
  exact Heap.get?_push_size _ rfl
 .have e:b=(s.heap.push { cls:=.type "range",data:=.fields #[.int lo t,.int (-1) u,.int (-1) v] }).objs.size:=by simpa using hb
  subst e
  exact I1.fpOk (Nat.le_refl _) (I1.hok.fresh (Nat.le_refl _))
theorem yCa {ta:TA}(hg:Gl X "range") (hm:X.mg "range" = none) (ha:PA X [a,b,c] ta) (hs:starEach [a,b,c] X.env=[(false,eval a X.env),(false,eval b X.env),(false,eval c X.env)]) (hs2:starEach [b,c] X.env=[(false,eval b X.env),(false,eval c X.env)]) :
  PI X tg (.Call (.Name "range" p) [a,b,c] [] pos) (yLa ta):=by
 intro pins s σ H R I h
 refine Call_ (ynM I hg hm boot_range (PyProof.Rows.callWith_type1 (thn (ha pos pins s σ H _ I h) fun us s1 ⟨vs,H1,I1,r1,q1⟩=>?_) (by rw [hs,hs2]) (by rw [hs2];rfl)))
 obtain ⟨i,e,hc,q⟩:=q1
 subst e
 cases r1 with
 | cons r rr =>
  cases rr with
  | cons r' rr =>
   cases rr with
   | cons r'' rr =>
    cases rr
    obtain ⟨t,rfl⟩:=r
    obtain ⟨t',rfl⟩:=r'
    obtain ⟨t'',rfl⟩:=r''
    exact call_range_3 (by omega) (yBZ I1 hc q) (Or.inl (PyProof.noPylong_small (by omega)))
theorem yIM (hg:Gl X "range") (hm:X.mg "range" = none) (ha:ZA X A [a,b,c] n aa) (hs:starEach [a,b,c] X.env=[(false,eval a X.env),(false,eval b X.env),(false,eval c X.env)]) (hs2:starEach [b,c] X.env=[(false,eval b X.env),(false,eval c X.env)]):ZI X A tg (.Call (.Name "range" p) [a,b,c] [] pos) (yJq aa):=wI (yCa hg hm ha.of hs hs2) (yBH sA)
end
end PX
namespace My
open PySem L2 PX
theorem yyy (n:Nat) {cs:List Nat}{f:Str}{k:Nat}{ns:List Str}{xs:List PV}{y:PV}{h:AH}(hk:k∈cs) (hf:f∈ns) (e:ns.idxOf f=n) (hy:xs[n]?=some y):yfl cs f (.ins k ns xs) h=some (y,h):=yIb hk hf (by rw [e];exact hy)
local macro_rules | `(tactic| grind)=>`(tactic| exact eq_false (by rfl'))
local macro_rules | `(tactic| walk_at "fv")=>`(tactic| first|exact yyy 0 (by decide) (by rfl') (by rfl') rfl|exact yyy 1 (by decide) (by rfl') (by rfl') rfl|exact yyy 2 (by decide) (by rfl') (by rfl') rfl|exact yyy 3 (by decide) (by rfl') (by rfl') rfl)
local macro_rules | `(tactic| walk_at "iv")=>`(tactic| exact yKH (by decide) (by decide) (by rfl'))
theorem yLn:("abc":Str).length=3:=by rfl'
theorem yLo:("abcdefgh":Str).length=8:=by rfl'
theorem yLp:("abcdefghijklmnopqrstuvwxyz":Str).length=26:=by rfl'
theorem yGA {v0 v1:PV}{h:AH}:yfl [0] "stack" (.ins 0 ["stack","last_seen"] [v0,v1]) h=some (v0,h):=by walk_at "fv"
theorem yAa {v0 v1:PV}{h:AH}:yfl [0] "last_seen" (.ins 0 ["stack","last_seen"] [v0,v1]) h=some (v1,h):=by walk_at "fv"
theorem yuc {x:PV}{ρ:PSt}{h:AH}:ykw [0] 0 "stack" (.own (.ins 0 [] [])::ρ) x h=some (.nx (.own (.ins 0 ["stack"] [x])::ρ),h):=by walk_at "iv"
theorem ynl {v0:PV}{x:PV}{ρ:PSt}{h:AH}:ykw [0] 0 "last_seen" (.own (.ins 0 ["stack"] [v0])::ρ) x h=some (.nx (.own (.ins 0 ["stack","last_seen"] [v0,x])::ρ),h):=by walk_at "iv"
theorem yFc {v0 v1 v2 v3:PV}{h:AH}:yfl [1] "held" (.ins 1 ["held","width","log","found"] [v0,v1,v2,v3]) h=some (v0,h):=by walk_at "fv"
theorem yDv {v0 v1 v2 v3:PV}{h:AH}:yfl [1] "width" (.ins 1 ["held","width","log","found"] [v0,v1,v2,v3]) h=some (v1,h):=by walk_at "fv"
theorem yGB {v0 v1 v2 v3:PV}{h:AH}:yfl [1] "log" (.ins 1 ["held","width","log","found"] [v0,v1,v2,v3]) h=some (v2,h):=by walk_at "fv"
theorem yDw {v0 v1 v2 v3:PV}{h:AH}:yfl [1] "found" (.ins 1 ["held","width","log","found"] [v0,v1,v2,v3]) h=some (v3,h):=by walk_at "fv"
theorem yrQ {x:PV}{ρ:PSt}{h:AH}:ykw [1] 0 "held" (.own (.ins 1 [] [])::ρ) x h=some (.nx (.own (.ins 1 ["held"] [x])::ρ),h):=by walk_at "iv"
theorem yqf {v0:PV}{x:PV}{ρ:PSt}{h:AH}:ykw [1] 0 "width" (.own (.ins 1 ["held"] [v0])::ρ) x h=some (.nx (.own (.ins 1 ["held","width"] [v0,x])::ρ),h):=by walk_at "iv"
theorem yud {v0 v1:PV}{x:PV}{ρ:PSt}{h:AH}:ykw [1] 0 "log" (.own (.ins 1 ["held","width"] [v0,v1])::ρ) x h=some (.nx (.own (.ins 1 ["held","width","log"] [v0,v1,x])::ρ),h):=by walk_at "iv"
theorem yqg {v0 v1 v2:PV}{x:PV}{ρ:PSt}{h:AH}:ykw [1] 0 "found" (.own (.ins 1 ["held","width","log"] [v0,v1,v2])::ρ) x h=some (.nx (.own (.ins 1 ["held","width","log","found"] [v0,v1,v2,x])::ρ),h):=by walk_at "iv"
theorem ywI {v0 v1:PV}{h:AH}:yfl [3,4,5,6,7,9,10] "slot" (.ins 3 ["slot","number"] [v0,v1]) h=some (v0,h):=by walk_at "fv"
theorem yrR {v0 v1:PV}{h:AH}:yfl [3] "number" (.ins 3 ["slot","number"] [v0,v1]) h=some (v1,h):=by walk_at "fv"
theorem ywJ {x:PV}{ρ:PSt}{h:AH}:ykw [3,4,5,6,7,9,10] 0 "slot" (.own (.ins 3 [] [])::ρ) x h=some (.nx (.own (.ins 3 ["slot"] [x])::ρ),h):=by walk_at "iv"
theorem yrS {v0:PV}{x:PV}{ρ:PSt}{h:AH}:ykw [3] 0 "number" (.own (.ins 3 ["slot"] [v0])::ρ) x h=some (.nx (.own (.ins 3 ["slot","number"] [v0,x])::ρ),h):=by walk_at "iv"
theorem yqh {v0 v1 v2 v3:PV}{h:AH}:yfl [4] "word" (.ins 4 ["word","slot","one","other"] [v0,v1,v2,v3]) h=some (v0,h):=by walk_at "fv"
theorem yqi {v0 v1 v2 v3:PV}{h:AH}:yfl [3,4,5,6,7,9,10] "slot" (.ins 4 ["word","slot","one","other"] [v0,v1,v2,v3]) h=some (v1,h):=by walk_at "fv"
theorem yrT {v0 v1 v2 v3:PV}{h:AH}:yfl [4] "one" (.ins 4 ["word","slot","one","other"] [v0,v1,v2,v3]) h=some (v2,h):=by walk_at "fv"
theorem yop {v0 v1 v2 v3:PV}{h:AH}:yfl [4] "other" (.ins 4 ["word","slot","one","other"] [v0,v1,v2,v3]) h=some (v3,h):=by walk_at "fv"
theorem yqj {x:PV}{ρ:PSt}{h:AH}:ykw [4] 0 "word" (.own (.ins 4 [] [])::ρ) x h=some (.nx (.own (.ins 4 ["word"] [x])::ρ),h):=by walk_at "iv"
theorem yqk {v0:PV}{x:PV}{ρ:PSt}{h:AH}:ykw [3,4,5,6,7,9,10] 0 "slot" (.own (.ins 4 ["word"] [v0])::ρ) x h=some (.nx (.own (.ins 4 ["word","slot"] [v0,x])::ρ),h):=by walk_at "iv"
theorem yrU {v0 v1:PV}{x:PV}{ρ:PSt}{h:AH}:ykw [4] 0 "one" (.own (.ins 4 ["word","slot"] [v0,v1])::ρ) x h=some (.nx (.own (.ins 4 ["word","slot","one"] [v0,v1,x])::ρ),h):=by walk_at "iv"
theorem yoq {v0 v1 v2:PV}{x:PV}{ρ:PSt}{h:AH}:ykw [4] 0 "other" (.own (.ins 4 ["word","slot","one"] [v0,v1,v2])::ρ) x h=some (.nx (.own (.ins 4 ["word","slot","one","other"] [v0,v1,v2,x])::ρ),h):=by walk_at "iv"
theorem yue {v0 v1:PV}{h:AH}:yfl [3,4,5,6,7,9,10] "slot" (.ins 5 ["slot","place"] [v0,v1]) h=some (v0,h):=by walk_at "fv"
theorem yrV {v0 v1:PV}{h:AH}:yfl [5,6] "place" (.ins 5 ["slot","place"] [v0,v1]) h=some (v1,h):=by walk_at "fv"
theorem yuf {x:PV}{ρ:PSt}{h:AH}:ykw [3,4,5,6,7,9,10] 0 "slot" (.own (.ins 5 [] [])::ρ) x h=some (.nx (.own (.ins 5 ["slot"] [x])::ρ),h):=by walk_at "iv"
theorem yrW {v0:PV}{x:PV}{ρ:PSt}{h:AH}:ykw [5,6] 0 "place" (.own (.ins 5 ["slot"] [v0])::ρ) x h=some (.nx (.own (.ins 5 ["slot","place"] [v0,x])::ρ),h):=by walk_at "iv"
theorem yug {v0 v1:PV}{h:AH}:yfl [5,6] "place" (.ins 6 ["place","slot"] [v0,v1]) h=some (v0,h):=by walk_at "fv"
theorem ywK {v0 v1:PV}{h:AH}:yfl [3,4,5,6,7,9,10] "slot" (.ins 6 ["place","slot"] [v0,v1]) h=some (v1,h):=by walk_at "fv"
theorem yuh {x:PV}{ρ:PSt}{h:AH}:ykw [5,6] 0 "place" (.own (.ins 6 [] [])::ρ) x h=some (.nx (.own (.ins 6 ["place"] [x])::ρ),h):=by walk_at "iv"
theorem ywL {v0:PV}{x:PV}{ρ:PSt}{h:AH}:ykw [3,4,5,6,7,9,10] 0 "slot" (.own (.ins 6 ["place"] [v0])::ρ) x h=some (.nx (.own (.ins 6 ["place","slot"] [v0,x])::ρ),h):=by walk_at "iv"
theorem yzs {v0 v1 v2:PV}{h:AH}:yfl [3,4,5,6,7,9,10] "slot" (.ins 7 ["slot","parts","others"] [v0,v1,v2]) h=some (v0,h):=by walk_at "fv"
theorem yor {v0 v1 v2:PV}{h:AH}:yfl [7,8,9] "parts" (.ins 7 ["slot","parts","others"] [v0,v1,v2]) h=some (v1,h):=by walk_at "fv"
theorem ymB {v0 v1 v2:PV}{h:AH}:yfl [7,8,9] "others" (.ins 7 ["slot","parts","others"] [v0,v1,v2]) h=some (v2,h):=by walk_at "fv"
theorem yzt {x:PV}{ρ:PSt}{h:AH}:ykw [3,4,5,6,7,9,10] 0 "slot" (.own (.ins 7 [] [])::ρ) x h=some (.nx (.own (.ins 7 ["slot"] [x])::ρ),h):=by walk_at "iv"
theorem ywM {v0:PV}{x:PV}{ρ:PSt}{h:AH}:ykw [7,8,9] 0 "parts" (.own (.ins 7 ["slot"] [v0])::ρ) x h=some (.nx (.own (.ins 7 ["slot","parts"] [v0,x])::ρ),h):=by walk_at "iv"
theorem yui {v0 v1:PV}{x:PV}{ρ:PSt}{h:AH}:ykw [7,8,9] 0 "others" (.own (.ins 7 ["slot","parts"] [v0,v1])::ρ) x h=some (.nx (.own (.ins 7 ["slot","parts","others"] [v0,v1,x])::ρ),h):=by walk_at "iv"
theorem yhN {v0 v1:PV}{h:AH}:yfl [7,8,9] "parts" (.ins 8 ["parts","others"] [v0,v1]) h=some (v0,h):=by walk_at "fv"
theorem yhn {v0 v1:PV}{h:AH}:yfl [7,8,9] "others" (.ins 8 ["parts","others"] [v0,v1]) h=some (v1,h):=by walk_at "fv"
theorem yos {x:PV}{ρ:PSt}{h:AH}:ykw [7,8,9] 0 "parts" (.own (.ins 8 [] [])::ρ) x h=some (.nx (.own (.ins 8 ["parts"] [x])::ρ),h):=by walk_at "iv"
theorem ynm {v0:PV}{x:PV}{ρ:PSt}{h:AH}:ykw [7,8,9] 0 "others" (.own (.ins 8 ["parts"] [v0])::ρ) x h=some (.nx (.own (.ins 8 ["parts","others"] [v0,x])::ρ),h):=by walk_at "iv"
theorem ymC {v0 v1 v2 v3:PV}{h:AH}:yfl [7,8,9] "parts" (.ins 9 ["parts","name","slot","others"] [v0,v1,v2,v3]) h=some (v0,h):=by walk_at "fv"
theorem ywN {v0 v1 v2 v3:PV}{h:AH}:yfl [9,10] "name" (.ins 9 ["parts","name","slot","others"] [v0,v1,v2,v3]) h=some (v1,h):=by walk_at "fv"
theorem ywO {v0 v1 v2 v3:PV}{h:AH}:yfl [3,4,5,6,7,9,10] "slot" (.ins 9 ["parts","name","slot","others"] [v0,v1,v2,v3]) h=some (v2,h):=by walk_at "fv"
theorem ykQ {v0 v1 v2 v3:PV}{h:AH}:yfl [7,8,9] "others" (.ins 9 ["parts","name","slot","others"] [v0,v1,v2,v3]) h=some (v3,h):=by walk_at "fv"
theorem yuj {x:PV}{ρ:PSt}{h:AH}:ykw [7,8,9] 0 "parts" (.own (.ins 9 [] [])::ρ) x h=some (.nx (.own (.ins 9 ["parts"] [x])::ρ),h):=by walk_at "iv"
theorem ywP {v0:PV}{x:PV}{ρ:PSt}{h:AH}:ykw [9,10] 0 "name" (.own (.ins 9 ["parts"] [v0])::ρ) x h=some (.nx (.own (.ins 9 ["parts","name"] [v0,x])::ρ),h):=by walk_at "iv"
theorem ywQ {v0 v1:PV}{x:PV}{ρ:PSt}{h:AH}:ykw [3,4,5,6,7,9,10] 0 "slot" (.own (.ins 9 ["parts","name"] [v0,v1])::ρ) x h=some (.nx (.own (.ins 9 ["parts","name","slot"] [v0,v1,x])::ρ),h):=by walk_at "iv"
theorem yrX {v0 v1 v2:PV}{x:PV}{ρ:PSt}{h:AH}:ykw [7,8,9] 0 "others" (.own (.ins 9 ["parts","name","slot"] [v0,v1,v2])::ρ) x h=some (.nx (.own (.ins 9 ["parts","name","slot","others"] [v0,v1,v2,x])::ρ),h):=by walk_at "iv"
theorem yrY {v0 v1:PV}{h:AH}:yfl [9,10] "name" (.ins 10 ["name","slot"] [v0,v1]) h=some (v0,h):=by walk_at "fv"
theorem yrZ {v0 v1:PV}{h:AH}:yfl [3,4,5,6,7,9,10] "slot" (.ins 10 ["name","slot"] [v0,v1]) h=some (v1,h):=by walk_at "fv"
theorem ysa {x:PV}{ρ:PSt}{h:AH}:ykw [9,10] 0 "name" (.own (.ins 10 [] [])::ρ) x h=some (.nx (.own (.ins 10 ["name"] [x])::ρ),h):=by walk_at "iv"
theorem ysb {v0:PV}{x:PV}{ρ:PSt}{h:AH}:ykw [3,4,5,6,7,9,10] 0 "slot" (.own (.ins 10 ["name"] [v0])::ρ) x h=some (.nx (.own (.ins 10 ["name","slot"] [v0,x])::ρ),h):=by walk_at "iv"
section
def sl_ (s:String):Array (Lean.TSyntax `Lean.Parser.Tactic.simpLemma):=(s.splitOn " ").toArray.map fun s=>⟨Lean.mkNode `Lean.Parser.Tactic.simpLemma #[Lean.mkNullNode,Lean.mkNullNode,Lean.mkIdent s.toName]⟩
local macro_rules | `(tactic| simp_all? only [$ls,*])=>`(tactic| simp only [$(sl_ "yB yMH yEx yBc yGe x_c yKw yMJ yOE yOg yHW yGf yKx yKy yMK yOF yML yOG yzi ytO yKz yMM yMN yMO yMP yHX x_call yOH yKA yKB yHY yKC yHZ yGg ykG ywv yMQ ynY yBd yKD yzj yKE yKF yMR yMS yMT yMU yIa yMV yMW yMX yMY yMZ x_i yOI yqd yKG yGh yKI yNa yNb yNc yNd yNe yGi yNf yNg yNh yNi yNj yNk yOJ yNl yKJ yEz yGj yKK yKL yKM yIc yww yGk yMI bind_some Option.bind_none List.set_cons_zero List.set_cons_succ length_cons length_nil decide_eq_true_eq Bool.not_eq_true' decide_eq_false_iff_not if_true if_false ite_true ite_false and_self Int.reducePow Int.reduceToNat Int.reduceLT Int.reduceLE Int.reduceNeg Int.reduceAdd Int.reduceSub Nat.reduceLT Nat.reduceLeDiff Nat.reduceAdd true_and and_true reduceIte Nat.reduceEqDiff ywC eq_self ytf yDt yIl yNt yOi yNp yNq yNr yNs Int.reduceEq Bool.not_true Bool.not_false yLn yLo yLp yuc ynl yrQ yqf yud yqg ywI yrR ywJ yrS yqh yqi yrT yop yqj yqk yrU yoq yue yrV yuf yrW yug ywK yuh ywL yzs yor ymB yzt ywM yui yhN yhn yos ynm ymC ywN ywO ykQ yuj ywP ywQ yrX yrY yrZ ysa ysb yIm yIn"),*,$ls,*])
local macro_rules | `(tactic| ac_rfl)=>`(tactic| simp_all? only [yB])
def tbO (cs:List Nat):List (Nat×Nat×Bool):=cs.flatMap fun i=>cs.map fun j=>(i,j,i == j)
def isaTb:List (Nat×Nat×Bool):=tbO [3,4,5,6,7,8,9,10,11]
structure Fa (ck:Ck):Prop where
 fl_stack:∀ k∈([0]:List Nat),Cls ck.K (ck.A k)/\NoAttr ck.K (ck.A k) "stack"
 fl_last_seen:∀ k∈([0]:List Nat),Cls ck.K (ck.A k)/\NoAttr ck.K (ck.A k) "last_seen"
 fl_held:∀ k∈([1]:List Nat),Cls ck.K (ck.A k)/\NoAttr ck.K (ck.A k) "held"
 fl_width:∀ k∈([1]:List Nat),Cls ck.K (ck.A k)/\NoAttr ck.K (ck.A k) "width"
 fl_log:∀ k∈([1]:List Nat),Cls ck.K (ck.A k)/\NoAttr ck.K (ck.A k) "log"
 fl_found:∀ k∈([1]:List Nat),Cls ck.K (ck.A k)/\NoAttr ck.K (ck.A k) "found"
 fl_slot:∀ k∈([3,4,5,6,7,9,10]:List Nat),Cls ck.K (ck.A k)/\NoAttr ck.K (ck.A k) "slot"
 fl_number:∀ k∈([3]:List Nat),Cls ck.K (ck.A k)/\NoAttr ck.K (ck.A k) "number"
 fl_word:∀ k∈([4]:List Nat),Cls ck.K (ck.A k)/\NoAttr ck.K (ck.A k) "word"
 fl_one:∀ k∈([4]:List Nat),Cls ck.K (ck.A k)/\NoAttr ck.K (ck.A k) "one"
 fl_other:∀ k∈([4]:List Nat),Cls ck.K (ck.A k)/\NoAttr ck.K (ck.A k) "other"
 fl_place:∀ k∈([5,6]:List Nat),Cls ck.K (ck.A k)/\NoAttr ck.K (ck.A k) "place"
 fl_parts:∀ k∈([7,8,9]:List Nat),Cls ck.K (ck.A k)/\NoAttr ck.K (ck.A k) "parts"
 fl_others:∀ k∈([7,8,9]:List Nat),Cls ck.K (ck.A k)/\NoAttr ck.K (ck.A k) "others"
 fl_name:∀ k∈([9,10]:List Nat),Cls ck.K (ck.A k)/\NoAttr ck.K (ck.A k) "name"
 isa:∀ r∈isaTb,∀ (H:Hp) (a dx:Addr) (fs:List (Str×V)),H a=some (.ins (ck.A r.1) dx fs)->IsI ck.K H (.ref a) (.ref (ck.A r.2.1)) r.2.2
def ydW:List PV->AH->Option (Nd×AH):=ytN 1 0 (yw (ydj [0] 0 "stack" (ygw (ygf (yb (ygw (ynZ)) (yn))))) (ydj [0] 0 "last_seen" (ygw (ynZ))))
def ygB:Fn:=ycI 4 (yw (ybA (xOp (ydk) (ycg [0] "stack" (yd 0)) (xUn yEm (xC (.int 1)))) (yx 3)) (yfn (yd 3) (yd 1) (yd 2)))
def ygi:Fn:=ycI 3 (yw (yEN true (ycg [0] "stack" (yd 0)) (yx 2) (ybv (yt (yBo false (yd 1) (yd 2))) (ybg (yfm (yd 2) (yd 1))) (yV))) (ybg (xC .non)))
def ygC:Fn:=ycI 1 (ydi (xBM ylN (ytR) (ycg [0] "stack" (yd 0)) (yb (ygw (ynZ)) (yn))))
def yfs:Fn:=ycI 3 (yw (ybA (xBM ylN (yqe) (ycg [0] "stack" (yd 0)) (yn)) (yx 1)) (yw (ybA (xOp (ydk) (ycg [0] "stack" (yd 0)) (xUn yEm (xC (.int 1)))) (yx 2)) (ydi (xBM yzq (yJp) (yd 2) (yb (yd 1) (yn))))))
def ygj:Fn:=ycI 1 (ydi (xBM ylN (yqe) (ycg [0] "stack" (yd 0)) (yn)))
def ykR:Fn:=ycI 3 (yfn (ycg [0] "last_seen" (yd 0)) (yd 1) (yd 2))
def ygk:Fn:=ycI 1 (ybg (ygw (yoe (ycg [0] "last_seen" (yd 0)))))
def ygD:Fn:=ycI 2 (yw (ybA (xOp (ydk) (ycg [0] "stack" (yd 0)) (xC (.int 0))) (yx 1)) (ybg (ygw (yoe (yd 1)))))
def ynE:Fn:=ycI 3 (yw (ybv (yt (xOp (oEq) (yd 0) (xC (.str "plus")))) (ybg (xOp oMod (xOp yiT (yd 1) (yd 2)) (xC (.int 18446744073709551616)))) (yV)) (yw (ybv (yt (xOp (oEq) (yd 0) (xC (.str "minus")))) (ybg (xOp oMod (xOp yHR (yd 1) (yd 2)) (xC (.int 18446744073709551616)))) (yV)) (yw (ybv (yt (xOp (oEq) (yd 0) (xC (.str "times")))) (ybg (xOp oMod (xOp yGc (yd 1) (yd 2)) (xC (.int 18446744073709551616)))) (yV)) (yw (ybv (yt (xOp (oEq) (yd 0) (xC (.str "less")))) (ybg (xIf (yt (xOp (oLt) (yd 1) (yd 2))) (xC (.int 1)) (xC (.int 0)))) (yV)) (ybg (xIf (yt (xOp (oEq) (yd 1) (yd 2))) (xC (.int 1)) (xC (.int 0))))))))
def yee:Fn:=ycI 1 (ybg (xBM isStr (ynX) (xC (.str "abcdefgh")) (yb (yd 0) (yn))))
def ydo:List PV->AH->Option (Nd×AH):=ytN 3 1 (yw (ydj [1] 0 "held" (ygw (ykC (ybM) (yb (yd 1) (yn))))) (yw (ydj [1] 0 "width" (yd 2)) (ydj [1] 0 "log" (ygw (ykF ydW (yn))))))
def ybu:Fn:=ycI 2 (ybg (xOp (ydk) (ycg [1] "held" (yd 0)) (yba yee (yb (yd 1) (yn)))))
def ycu:Fn:=ycI 3 (ytS (ycg [1] "held" (yd 0)) (yba yee (yb (yd 1) (yn))) (yd 2))
def ych:Fn:=ycI 2 (ybg (xOp oMod (yK 1 "held_in" ybu (yd 0) (yb (yd 1) (yn))) (ycg [1] "width" (yd 0))))
def ycM:Fn:=ycI 5 (ydi (yK 1 "hold" ycu (yd 0) (yb (yd 2) (yb (yba ynE (yb (yd 1) (yb (yK 1 "held_in" ybu (yd 0) (yb (yd 3) (yn))) (yb (yK 1 "held_in" ybu (yd 0) (yb (yd 4) (yn))) (yn))))) (yn)))))
def yeG:Fn:=ycI 3 (ydi (yK 0 "write" ygB (ycg [1] "log" (yd 0)) (yb (yK 1 "box_at" ych (yd 0) (yb (yd 1) (yn))) (yb (yK 1 "held_in" ybu (yd 0) (yb (yd 2) (yn))) (yn)))))
def ydX:Fn:=ycI 2 (ybg (xOp (yKs) (yK 0 "own" ygi (ycg [1] "log" (yd 0)) (yb (yK 1 "box_at" ych (yd 0) (yb (yd 1) (yn))) (yn))) (xC .non)))
def ydp:Fn:=ycI 3 (ydi (yK 1 "hold" ycu (yd 0) (yb (yd 1) (yb (yK 0 "own" ygi (ycg [1] "log" (yd 0)) (yb (yK 1 "box_at" ych (yd 0) (yb (yd 2) (yn))) (yn))) (yn)))))
def ycN:Fn:=ycI 5 (yw (ybA (yK 1 "box_at" ych (yd 0) (yb (yd 2) (yn))) (yx 4)) (yw (ydi (yK 0 "see" ykR (ycg [1] "log" (yd 0)) (yb (yd 4) (yb (xOp (ydk) (yd 3) (yd 4)) (yn))))) (ydi (yK 1 "hold" ycu (yd 0) (yb (yd 1) (yb (xOp (ydk) (yd 3) (yd 4)) (yn)))))))
def ydY:List PV->AH->Option (Nd×AH):=ytN 3 3 (yw (ydj [3,4,5,6,7,9,10] 0 "slot" (yd 1)) (ydj [3] 0 "number" (yd 2)))
def ycC:List PV->AH->Option (Nd×AH):=ytN 5 4 (yw (ydj [4] 0 "word" (yd 1)) (yw (ydj [3,4,5,6,7,9,10] 0 "slot" (yd 2)) (yw (ydj [4] 0 "one" (yd 3)) (ydj [4] 0 "other" (yd 4)))))
def ydq:List PV->AH->Option (Nd×AH):=ytN 3 5 (yw (ydj [3,4,5,6,7,9,10] 0 "slot" (yd 1)) (ydj [5,6] 0 "place" (yd 2)))
def ydZ:List PV->AH->Option (Nd×AH):=ytN 3 6 (yw (ydj [5,6] 0 "place" (yd 1)) (ydj [3,4,5,6,7,9,10] 0 "slot" (yd 2)))
def ycO:List PV->AH->Option (Nd×AH):=ytN 3 1 (yw (xBI 1 ydo (yb (yd 2) (yb (xCB (yfk) (yb (yd 1) (yn))) (yn)))) (ydj [1] 0 "found" (xFz (ykC (ybM) (yb (yd 1) (yn))))))
def ycD:Fn:=ycI 2 (ybv (yt (yK 1 "sees_at" ydX (yd 0) (yb (ycg [5,6] "place" (yd 1)) (yn)))) (ydi (yK 1 "take_seen" ycN (yd 0) (yb (ycg [3,4,5,6,7,9,10] "slot" (yd 1)) (yb (ycg [5,6] "place" (yd 1)) (yb (ycg [1] "found" (yd 0)) (yn)))))) (ydi (yK 1 "take_own" ydp (yd 0) (yb (ycg [3,4,5,6,7,9,10] "slot" (yd 1)) (yb (ycg [5,6] "place" (yd 1)) (yn))))))
def ycr:Fn:=ycI 2 (yw (ybv (yt (xCB (yfi isaTb) (yb (yd 1) (yb (xC (.cls 3)) (yn))))) (ydi (yK 1 "hold" ycu (yd 0) (yb (ycg [3,4,5,6,7,9,10] "slot" (yd 1)) (yb (ycg [3] "number" (yd 1)) (yn))))) (yV)) (yw (ybv (yt (xCB (yfi isaTb) (yb (yd 1) (yb (xC (.cls 4)) (yn))))) (ydi (yK 1 "do_reckon" ycM (yd 0) (yb (ycg [4] "word" (yd 1)) (yb (ycg [3,4,5,6,7,9,10] "slot" (yd 1)) (yb (ycg [4] "one" (yd 1)) (yb (ycg [4] "other" (yd 1)) (yn))))))) (yV)) (yw (ybv (yt (xCB (yfi isaTb) (yb (yd 1) (yb (xC (.cls 5)) (yn))))) (ydi (yK 1 "take_done" ycD (yd 0) (yb (yd 1) (yn)))) (yV)) (ybv (yt (xCB (yfi isaTb) (yb (yd 1) (yb (xC (.cls 6)) (yn))))) (ydi (yK 1 "do_put" yeG (yd 0) (yb (ycg [5,6] "place" (yd 1)) (yb (ycg [3,4,5,6,7,9,10] "slot" (yd 1)) (yn))))) (yV)))))
mutual
noncomputable def ybb:Nat->Fn
 | 0=>fun _ _=>none
 | n+1=>ycI 4 (yw (yxY (xIL (yd 1)) (yx 2) (yw (ybA (yK 1 "part_end" (yI n) (yd 0) (yb (yd 2) (yn))) (yx 3)) (ybv (yt (xOp (yGr) (yd 3) (xC (.tup [.str "done"])))) (ybg (yd 3)) (yV)))) (ybg (xC (.tup [.str "done"]))))
noncomputable def yI:Nat->Fn
 | 0=>fun _ _=>none
 | n+1=>ycI 2 (yw (ybv (yt (xCB (yfi isaTb) (yb (yd 1) (yb (xC (.cls 7)) (yn))))) (ybg (yK 1 "if_end" (yea n) (yd 0) (yb (yd 1) (yn)))) (yV)) (yw (ybv (yt (xCB (yfi isaTb) (yb (yd 1) (yb (xC (.cls 8)) (yn))))) (ybg (yK 1 "either_end" (ycs n) (yd 0) (yb (yd 1) (yn)))) (yV)) (yw (ybv (yt (xCB (yfi isaTb) (yb (yd 1) (yb (xC (.cls 9)) (yn))))) (ybg (yK 1 "try_end" (ydr n) (yd 0) (yb (yd 1) (yn)))) (yV)) (yw (ybv (yt (xCB (yfi isaTb) (yb (yd 1) (yb (xC (.cls 10)) (yn))))) (ybg (yeD (yb (xC (.str "fell")) (yb (ycg [9,10] "name" (yd 1)) (yb (yK 1 "held_in" ybu (yd 0) (yb (ycg [3,4,5,6,7,9,10] "slot" (yd 1)) (yn))) (yn)))))) (yV)) (yw (ybv (yt (xCB (yfi isaTb) (yb (yd 1) (yb (xC (.cls 11)) (yn))))) (ybg (xC (.tup [.str "waits"]))) (yV)) (yw (ydi (yK 1 "plain_done" ycr (yd 0) (yb (yd 1) (yn)))) (ybg (xC (.tup [.str "done"])))))))))
noncomputable def yea:Nat->Fn
 | 0=>fun _ _=>none
 | n+1=>ycI 2 (yw (ybv (yt (xOp (oNe) (yK 1 "held_in" ybu (yd 0) (yb (ycg [3,4,5,6,7,9,10] "slot" (yd 1)) (yn))) (xC (.int 0)))) (ybg (yK 1 "list_end" (ybb n) (yd 0) (yb (ycg [7,8,9] "parts" (yd 1)) (yn)))) (yV)) (ybg (yK 1 "list_end" (ybb n) (yd 0) (yb (ycg [7,8,9] "others" (yd 1)) (yn)))))
noncomputable def ycs:Nat->Fn
 | 0=>fun _ _=>none
 | n+1=>ycI 3 (yw (ybA (yK 1 "layered_end" (ybI n) (yd 0) (yb (ycg [7,8,9] "parts" (yd 1)) (yn))) (yx 2)) (yw (ybv (yt (xOp (yzo) (yd 2) (xC (.tup [.str "waits"])))) (ybg (yK 1 "list_end" (ybb n) (yd 0) (yb (ycg [7,8,9] "others" (yd 1)) (yn)))) (yV)) (ybg (yd 2))))
noncomputable def ydr:Nat->Fn
 | 0=>fun _ _=>none
 | n+1=>ycI 3 (yw (ybA (yK 1 "layered_end" (ybI n) (yd 0) (yb (ycg [7,8,9] "parts" (yd 1)) (yn))) (yx 2)) (yw (ybv (yAH (yt (xOp (oEq) (xOp (ybe) (yd 2) (xC (.int 0))) (xC (.str "fell")))) (yt (xOp (oEq) (xOp (ybe) (yd 2) (xC (.int 1))) (ycg [9,10] "name" (yd 1))))) (yw (ydi (yK 1 "hold" ycu (yd 0) (yb (ycg [3,4,5,6,7,9,10] "slot" (yd 1)) (yb (xOp (ybe) (yd 2) (xC (.int 2))) (yn))))) (ybg (yK 1 "list_end" (ybb n) (yd 0) (yb (ycg [7,8,9] "others" (yd 1)) (yn))))) (yV)) (ybg (yd 2))))
noncomputable def ybI:Nat->Fn
 | 0=>fun _ _=>none
 | n+1=>ycI 4 (yw (ybA (ygw (ykC (ybM) (yb (ycg [1] "held" (yd 0)) (yn)))) (yx 2)) (yw (ydi (yK 0 "begin" ygC (ycg [1] "log" (yd 0)) (yn))) (yw (ybA (yK 1 "list_end" (ybb n) (yd 0) (yb (yd 1) (yn))) (yx 3)) (yw (ybv (yt (xOp (yzo) (yd 3) (xC (.tup [.str "done"])))) (ydi (yK 0 "settle" yfs (ycg [1] "log" (yd 0)) (yn))) (yw (ydi (yK 0 "drop" ygj (ycg [1] "log" (yd 0)) (yn))) (yBx [1] "held" (yd 0) (yd 2)))) (ybg (yd 3))))))
end
def ysc:Fn:=ycI 5 (yw (ybA (ygw (ykF ycO (yb (yd 1) (yb (yd 2) (yn))))) (yx 3)) (yw (ybA (yK 1 "list_end" (ybb 20) (yd 3) (yb (yd 0) (yn))) (yx 4)) (yw (ybv (yt (xOp (yzo) (yd 4) (xC (.tup [.str "done"])))) (ybg (yeD (yb (yd 4) (yb (yK 0 "saw" ygk (ycg [1] "log" (yd 3)) (yn)) (yb (yK 0 "wrote" ygD (ycg [1] "log" (yd 3)) (yn)) (yb (ygw (ykC (ybM) (yb (ycg [1] "held" (yd 3)) (yn)))) (yn))))))) (yV)) (ybg (yeD (yb (yd 4) (yb (yK 0 "saw" ygk (ycg [1] "log" (yd 3)) (yn)) (yb (ygw (ygf (yn))) (yb (ygw (ykC (ybM) (yb (yd 2) (yn)))) (yn))))))))))
def yeH:List PV->AH->Option (Nd×AH):=ytN 4 7 (yw (ydj [3,4,5,6,7,9,10] 0 "slot" (yd 1)) (yw (ydj [7,8,9] 0 "parts" (xFz (ykC (ybM) (yb (yd 2) (yn))))) (ydj [7,8,9] 0 "others" (xFz (ykC (ybM) (yb (yd 3) (yn)))))))
def ycE:List PV->AH->Option (Nd×AH):=ytN 3 8 (yw (ydj [7,8,9] 0 "parts" (xFz (ykC (ybM) (yb (yd 1) (yn))))) (ydj [7,8,9] 0 "others" (xFz (ykC (ybM) (yb (yd 2) (yn))))))
def yeb:List PV->AH->Option (Nd×AH):=ytN 5 9 (yw (ydj [7,8,9] 0 "parts" (xFz (ykC (ybM) (yb (yd 1) (yn))))) (yw (ydj [9,10] 0 "name" (yd 2)) (yw (ydj [3,4,5,6,7,9,10] 0 "slot" (yd 3)) (ydj [7,8,9] 0 "others" (xFz (ykC (ybM) (yb (yd 4) (yn))))))))
def ycP:List PV->AH->Option (Nd×AH):=ytN 3 10 (yw (ydj [9,10] 0 "name" (yd 1)) (ydj [3,4,5,6,7,9,10] 0 "slot" (yd 2)))
def yot:Fn:=ycI 1 (ybg (xC (.int 0)))
def yqP:Fn:=ycI 1 (ybg (xC (.int 1)))
def ykS:Fn:=ycI 1 (ybg (xC (.int 1)))
def you:Fn:=ycI 1 (ybg (xC (.int 1)))
def yqQ:Fn:=ycI 1 (ybg (xC (.int 1)))
def ymD:Fn:=ycI 1 (ybg (xC (.int 1)))
def yov:Fn:=ycI 1 (ybg (xC (.int 1)))
mutual
noncomputable def yqR:Nat->Nat->Fn
 | 0,_=>fun _ _=>none
 | n+1,k=>match k with|12=>yot|3=>yqP|4=>ykS|5=>you|6=>yqQ|7=>ykT n|8=>yeI n|9=>yiW n|10=>ymD|11=>yov|_=>fun _ _=>none
noncomputable def ybU:Nat->Fn
 | 0=>fun _ _=>none
 | n+1=>ycI 1 (ybg (xCB (yDr) (yb (xFz (ynV (xIL (yd 0)) [] (yzh "long" (yqR n) (yd 0)))) (yn))))
noncomputable def ykT:Nat->Fn
 | 0=>fun _ _=>none
 | n+1=>ycI 1 (ybg (xOp yiT (xOp yiT (xC (.int 2)) (yba (ybU n) (yb (ycg [7,8,9] "parts" (yd 0)) (yn)))) (yba (ybU n) (yb (ycg [7,8,9] "others" (yd 0)) (yn)))))
noncomputable def yeI:Nat->Fn
 | 0=>fun _ _=>none
 | n+1=>ycI 1 (ybg (xOp yiT (xOp yiT (xC (.int 3)) (yba (ybU n) (yb (ycg [7,8,9] "parts" (yd 0)) (yn)))) (yba (ybU n) (yb (ycg [7,8,9] "others" (yd 0)) (yn)))))
noncomputable def yiW:Nat->Fn
 | 0=>fun _ _=>none
 | n+1=>ycI 1 (ybg (xOp yiT (xOp yiT (xC (.int 3)) (yba (ybU n) (yb (ycg [7,8,9] "parts" (yd 0)) (yn)))) (yba (ybU n) (yb (ycg [7,8,9] "others" (yd 0)) (yn)))))
end
def ymE:Fn:=ycI 1 (yw (ybv (yt (xCB (yfi isaTb) (yb (yd 0) (yb (xC (.cls 3)) (yn))))) (ybg (xFz (ygf (yb (yeD (yb (xC (.str "let")) (yb (ycg [3,4,5,6,7,9,10] "slot" (yd 0)) (yb (ycg [3] "number" (yd 0)) (yn))))) (yn))))) (yV)) (yw (ybv (yt (xCB (yfi isaTb) (yb (yd 0) (yb (xC (.cls 4)) (yn))))) (ybg (xFz (ygf (yb (yeD (yb (ycg [4] "word" (yd 0)) (yb (ycg [3,4,5,6,7,9,10] "slot" (yd 0)) (yb (ycg [4] "one" (yd 0)) (yb (ycg [4] "other" (yd 0)) (yn)))))) (yn))))) (yV)) (yw (ybv (yt (xCB (yfi isaTb) (yb (yd 0) (yb (xC (.cls 5)) (yn))))) (ybg (xFz (ygf (yb (yeD (yb (xC (.str "take")) (yb (ycg [3,4,5,6,7,9,10] "slot" (yd 0)) (yb (ycg [5,6] "place" (yd 0)) (yn))))) (yn))))) (yV)) (yw (ybv (yt (xCB (yfi isaTb) (yb (yd 0) (yb (xC (.cls 6)) (yn))))) (ybg (xFz (ygf (yb (yeD (yb (xC (.str "put")) (yb (ycg [5,6] "place" (yd 0)) (yb (ycg [3,4,5,6,7,9,10] "slot" (yd 0)) (yn))))) (yn))))) (yV)) (yw (ybv (yt (xCB (yfi isaTb) (yb (yd 0) (yb (xC (.cls 10)) (yn))))) (ybg (xFz (ygf (yb (yeD (yb (xC (.str "throw")) (yb (ycg [9,10] "name" (yd 0)) (yb (ycg [3,4,5,6,7,9,10] "slot" (yd 0)) (yn))))) (yn))))) (yV)) (yw (ybv (yt (xCB (yfi isaTb) (yb (yd 0) (yb (xC (.cls 11)) (yn))))) (ybg (xFz (ygf (yb (yeD (yb (xC (.str "wait")) (yn))) (yn))))) (yV)) (ybg (xFz (ygf (yn))))))))))
def yci:Fn:=ycI 2 (yw (ybv (yt (xCB (yfi isaTb) (yb (yd 0) (yb (xC (.cls 7)) (yn))))) (ybg (yeD (yb (xC (.str "unless")) (yb (ycg [3,4,5,6,7,9,10] "slot" (yd 0)) (yb (yd 1) (yn)))))) (yV)) (yw (ybv (yt (xCB (yfi isaTb) (yb (yd 0) (yb (xC (.cls 8)) (yn))))) (ybg (yeD (yb (xC (.str "either")) (yb (yd 1) (yn))))) (yV)) (ybg (yeD (yb (xC (.str "guard")) (yb (ycg [9,10] "name" (yd 0)) (yb (ycg [3,4,5,6,7,9,10] "slot" (yd 0)) (yb (yd 1) (yn)))))))))
def ycn:Fn:=ycI 2 (yw (ybv (yt (xCB (yfi isaTb) (yb (yd 0) (yb (xC (.cls 7)) (yn))))) (ybg (xFz (ygf (yb (yeD (yb (xC (.str "jump")) (yb (yd 1) (yn)))) (yn))))) (yV)) (ybg (xFz (ygf (yb (yeD (yb (xC (.str "settle")) (yn))) (yb (yeD (yb (xC (.str "jump")) (yb (yd 1) (yn)))) (yn)))))))
mutual
noncomputable def ycT:Nat->Fn
 | 0=>fun _ _=>none
 | n+1=>ycI 4 (yw (yrA (ygf (yn)) 2) (yw (yxY (xIL (yd 0)) (yx 3) (yzm 2 (yba (ygE n) (yb (yd 3) (yb (xOp yiT (yd 1) (yBu 2)) (yn)))))) (yEc 2 (ybg (yd 2)))))
noncomputable def ygE:Nat->Fn
 | 0=>fun _ _=>none
 | n+1=>ycI 2 (yw (ybv (xOr (yt (xCB (yfi isaTb) (yb (yd 0) (yb (xC (.cls 7)) (yn))))) (xOr (yt (xCB (yfi isaTb) (yb (yd 0) (yb (xC (.cls 8)) (yn))))) (yt (xCB (yfi isaTb) (yb (yd 0) (yb (xC (.cls 9)) (yn))))))) (ybg (yba (yft n) (yb (yd 0) (yb (yd 1) (yn))))) (yV)) (ybg (yba ymE (yb (yd 0) (yn)))))
noncomputable def yft:Nat->Fn
 | 0=>fun _ _=>none
 | n+1=>ycI 6 (yw (ybA (xOp yiT (yd 1) (yzh "long" (yqR 20) (yd 0))) (yx 2)) (yw (ybA (xOp yHR (yd 2) (yba (ybU 20) (yb (ycg [7,8,9] "others" (yd 0)) (yn)))) (yx 3)) (yw (ybA (yba (ycT n) (yb (ycg [7,8,9] "parts" (yd 0)) (yb (xOp yiT (yd 1) (xC (.int 1))) (yn)))) (yx 4)) (yw (ybA (yba (ycT n) (yb (ycg [7,8,9] "others" (yd 0)) (yb (yd 3) (yn)))) (yx 5)) (ybg (xFz (yAG yAY (xFz (yAG yAY (xFz (yAG yAY (xFz (ygf (yb (yba yci (yb (yd 0) (yb (yd 3) (yn)))) (yn)))) (yd 4))) (yba ycn (yb (yd 0) (yb (yd 2) (yn)))))) (yd 5))))))))
end
def ykU:Fn:=ycI 1 (ybg (xFz (yAG yAY (yba (ycT 20) (yb (yd 0) (yb (xC (.int 0)) (yn)))) (xFz (ygf (yb (yeD (yb (xC (.str "lay")) (yn))) (yn)))))))
def ycf:Fn:=ycI 1 (ybg (xOp oMod (xOp yGc (yd 0) (xC (.int 48271))) (xC (.int 999999999989))))
def ydI:Fn:=ycI 1 (ybg (xOp oMod (xOp yGc (yd 0) (xC (.int 982451653))) (xOp yKq (xC (.int 2)) (xC (.int 64)))))
def yH:Nat->Fn
 | 0=>fun _ _=>none
 | n+1=>ycI 3 (yw (ybv (yt (xCB (yfi isaTb) (yb (yd 1) (yb (xC (.ty "int")) (yn))))) (ybg (ywp (xCB (yfi isaTb) (yb (yd 0) (yb (xC (.ty "int")) (yn)))) (ywp (yDT (xCB (yfi isaTb) (yb (yd 0) (yb (xC (.ty "bool")) (yn))))) (xOp (oEq) (yd 0) (yd 1))))) (yV)) (yw (ybv (yt (xCB (yfi isaTb) (yb (yd 1) (yb (xC (.ty "str")) (yn))))) (ybg (ywp (xCB (yfi isaTb) (yb (yd 0) (yb (xC (.ty "str")) (yn)))) (xOp (oEq) (yd 0) (yd 1)))) (yV)) (yw (ybv (yt (xCB (yfi isaTb) (yb (yd 1) (yb (xC (.ty "tuple")) (yn))))) (ybv (yDU (yt (xCB (yfi isaTb) (yb (yd 0) (yb (xC (.ty "tuple")) (yn)))))) (ybg (xC (.bl false))) (yV)) (ybv (yDU (yt (xCB (yfi isaTb) (yb (yd 0) (yb (xC (.ty "list")) (yn)))))) (ybg (xC (.bl false))) (yV))) (yw (ybv (yt (xOp (oNe) (xCB (yfk) (yb (yd 0) (yn))) (xCB (yfk) (yb (yd 1) (yn))))) (ybg (xC (.bl false))) (yV)) (yw (yxY (yDp (yb (xCB (yfk) (yb (yd 1) (yn))) (yn))) (yx 2) (ybv (yDU (yt (yba (yH n) (yb (xOp (yDu) (yd 0) (yd 2)) (yb (xOp (yDu) (yd 1) (yd 2)) (yn)))))) (ybg (xC (.bl false))) (yV))) (ybg (xC (.bl true))))))))
def yfu:Fn:=ycI 10 (yw (ybA (xC (.str "abcdefghijklmnopqrstuvwxyz")) (yx 1)) (yw (ybA (yba ycf (yb (yd 0) (yn))) (yx 2)) (yw (ybA (xOp yiT (xC (.int 1)) (xOp oMod (yd 2) (xC (.int 8)))) (yx 3)) (yw (ybA (xOp oMod (xOp oDiv (yd 2) (xC (.int 8))) (yd 3)) (yx 4)) (yw (yrA (ygf (yn)) 5) (yw (yxY (yDp (yb (xC (.int 3)) (yn))) (yx 6) (yw (ybA (xC (.str "")) (yx 7)) (yw (yxY (yDp (yb (yd 3) (yn))) (yx 8) (yw (ybA (xOp yiT (xOp oDiv (xOp oDiv (yd 2) (xC (.int 64))) (xOp yiT (xOp yGc (yd 8) (yd 8)) (xC (.int 1)))) (yd 8)) (yx 9)) (yw (ybv (yt (xOp (oEq) (yd 8) (yd 4))) (ybA (xOp yiT (yd 9) (yd 6)) (yx 9)) (yV)) (ybA (xOp yEp (yd 7) (xOp (yya) (yd 1) (xOp oMod (yd 9) (xC (.int 26))))) (yx 7))))) (ygx 5 (yd 7))))) (yEc 5 (ybg (yd 5)))))))))
def yfv:Fn:=ycI 11 (yw (ybA (xSl yLT (xC (.str "abcdefgh")) (yfH) (yhD (xOp (ydk) (xFz (ygf (yb (xC (.int 2)) (yb (xC (.int 3)) (yb (xC (.int 8)) (yn)))))) (xOp oMod (yd 0) (xC (.int 3)))))) (yx 2)) (yw (ybA (xCB (yEq) (yb (yd 2) (yn))) (yx 3)) (yw (ybA (xOp oDiv (yd 0) (xC (.int 33))) (yx 4)) (yw (ybA (xOp (yya) (yd 2) (xOp oMod (yd 4) (yd 3))) (yx 5)) (yw (ybA (xOp (yya) (yd 2) (xOp oMod (xOp oDiv (yd 4) (yd 3)) (yd 3))) (yx 6)) (yw (ybA (xOp (yya) (yd 2) (xOp oMod (xOp oDiv (xOp oDiv (yd 4) (yd 3)) (yd 3)) (yd 3))) (yx 7)) (yw (ybA (xOp oMod (xOp oDiv (yd 0) (xC (.int 3))) (xC (.int 11))) (yx 8)) (yw (ybv (yt (xOp (oEq) (yd 8) (xC (.int 0)))) (ybg (xFz (ygf (yb (yeD (yb (xC (.str "let")) (yb (yd 5) (yb (yba ydI (yb (yd 1) (yn))) (yn))))) (yn))))) (yV)) (yw (ybv (yt (xOp (oLt) (yd 8) (xC (.int 3)))) (ybg (xFz (ygf (yb (yeD (yb (xC (.str "let")) (yb (yd 5) (yb (xOp oMod (xOp oDiv (yd 4) (xC (.int 1000))) (xC (.int 4))) (yn))))) (yn))))) (yV)) (yw (ybv (yt (xOp (oLt) (yd 8) (xC (.int 5)))) (yw (ybA (xOp (ydk) (xFz (ygf (yb (xC (.str "plus")) (yb (xC (.str "minus")) (yb (xC (.str "times")) (yb (xC (.str "less")) (yb (xC (.str "same")) (yn)))))))) (xOp oMod (xOp oDiv (yd 4) (xC (.int 1000))) (xC (.int 5)))) (yx 9)) (ybg (xFz (ygf (yb (yeD (yb (xC (.str "reckon")) (yb (yd 9) (yb (yd 5) (yb (yd 6) (yb (yd 7) (yn))))))) (yn)))))) (yV)) (yw (ybv (yt (xOp (oLt) (yd 8) (xC (.int 7)))) (ybg (xFz (ygf (yb (yeD (yb (xC (.str "take")) (yb (yd 5) (yb (yd 6) (yn))))) (yn))))) (yV)) (yw (ybv (yt (xOp (oLt) (yd 8) (xC (.int 9)))) (ybg (xFz (ygf (yb (yeD (yb (xC (.str "put")) (yb (yd 5) (yb (yd 6) (yn))))) (yn))))) (yV)) (yw (ybA (xOp (ydk) (xFz (ygf (yb (xC (.str "plus")) (yb (xC (.str "minus")) (yb (xC (.str "times")) (yn)))))) (xOp oMod (xOp oDiv (yd 4) (xC (.int 1000))) (xC (.int 3)))) (yx 9)) (yw (ybA (xFz (ygf (yb (yeD (yb (xC (.str "let")) (yb (yd 5) (yb (xOp oMod (xOp oDiv (yd 4) (xC (.int 3000))) (xC (.int 3))) (yn))))) (yb (yeD (yb (xC (.str "take")) (yb (yd 6) (yb (yd 5) (yn))))) (yn))))) (yx 10)) (ybg (xFz (yAG yAY (yd 10) (xFz (ygf (yb (yeD (yb (xC (.str "reckon")) (yb (yd 9) (yb (yd 6) (yb (yd 6) (yb (yd 7) (yn))))))) (yb (yeD (yb (xC (.str "put")) (yb (yd 5) (yb (yd 6) (yn))))) (yn))))))))))))))))))))))
def yfw:Fn:=ycI 8 (yw (ybA (xC (.str "abc")) (yx 4)) (yw (ybA (xOp (yya) (yd 4) (xOp oMod (xOp oDiv (yd 0) (xC (.int 9))) (xC (.int 3)))) (yx 5)) (yw (ybA (xOp oMod (yd 0) (xC (.int 3))) (yx 6)) (yw (ybv (yt (xOp (oEq) (yd 6) (xC (.int 0)))) (ybg (yeD (yb (xC (.str "if")) (yb (yd 5) (yb (yd 1) (yb (yd 2) (yn))))))) (yV)) (yw (ybA (yeD (yb (xC (.str "wait")) (yn))) (yx 7)) (yw (ybv (yt (xOp (oEq) (yd 6) (xC (.int 2)))) (ybA (yeD (yb (xC (.str "throw")) (yb (xOp (ydk) (yd 3) (xOp oMod (xOp oDiv (yd 0) (xC (.int 27))) (xC (.int 3)))) (yb (yd 5) (yn))))) (yx 7)) (yV)) (yw (ybv (yt (xOp (oEq) (xOp oMod (xOp oDiv (yd 0) (xC (.int 3))) (xC (.int 3))) (xC (.int 1)))) (ybA (xFz (yAG yAY (yd 1) (xFz (ygf (yb (yd 7) (yn)))))) (yx 1)) (yV)) (yw (ybv (yt (xOp (oEq) (xOp oMod (xOp oDiv (yd 0) (xC (.int 3))) (xC (.int 3))) (xC (.int 2)))) (ybA (xFz (yAG yAY (yd 1) (xFz (ygf (yb (yeD (yb (xC (.str "if")) (yb (yd 5) (yb (xFz (ygf (yb (yd 7) (yn)))) (yb (xFz (ygf (yn))) (yn)))))) (yn)))))) (yx 1)) (yV)) (yw (ybv (yt (xOp (oEq) (yd 6) (xC (.int 1)))) (ybg (yeD (yb (xC (.str "either")) (yb (yd 1) (yb (yd 2) (yn)))))) (yV)) (ybg (yeD (yb (xC (.str "try")) (yb (yd 1) (yb (xOp (ydk) (yd 3) (xOp oMod (xOp oDiv (yd 0) (xC (.int 81))) (xC (.int 3)))) (yb (xOp (yya) (yd 4) (xOp oMod (xOp oDiv (yd 0) (xC (.int 243))) (xC (.int 3)))) (yb (yd 2) (yn)))))))))))))))))
def ycU:Nat->Fn
 | 0=>fun _ _=>none
 | n+1=>ycI 12 (yw (yrA (ygf (yn)) 3) (yw (ybA (xC (.int 0)) (yx 4)) (yw (ymA 1000 (yt (xOp (oLt) (yd 4) (xCB (yfk) (yb (yd 0) (yn))))) (yw (ybA (xOp (ydk) (yd 0) (yd 4)) (yx 5)) (yw (ybA (yba ycf (yb (yd 5) (yn))) (yx 6)) (yw (ybA (xOp yiT (yd 4) (xC (.int 1))) (yx 4)) (ybv (xOr (yt (xOp (oEq) (yd 1) (xC (.int 0)))) (yt (xOp (oLt) (xOp oMod (yd 6) (xC (.int 11))) (xC (.int 6))))) (yEc 3 (yrA (yAG yAY (yd 3) (yba yfv (yb (xOp oDiv (yd 6) (xC (.int 11))) (yb (yd 5) (yn))))) 3)) (ybv (yt (xOp (oEq) (xOp oMod (yd 6) (xC (.int 11))) (xC (.int 6)))) (yw (ybA (xFz (ygf (yb (yeD (yb (xC (.str "wait")) (yn))) (yb (yeD (yb (xC (.str "throw")) (yb (xOp (ydk) (yd 2) (xOp oMod (xOp oDiv (yd 6) (xC (.int 33))) (xC (.int 3)))) (yb (xOp (yya) (xC (.str "abc")) (xOp oMod (xOp oDiv (yd 6) (xC (.int 99))) (xC (.int 3)))) (yn))))) (yn))))) (yx 7)) (ygx 3 (xOp (ydk) (yd 7) (xOp oDiv (xOp oMod (xOp oDiv (yd 6) (xC (.int 11))) (xC (.int 3))) (xC (.int 2)))))) (yw (ybA (xOp oMod (xOp oDiv (yd 6) (xC (.int 11))) (xC (.int 4))) (yx 8)) (yw (ybA (xOp oMod (xOp oDiv (yd 6) (xC (.int 44))) (xC (.int 3))) (yx 9)) (yw (ybA (yba (ycU n) (yb (xFz (yza yvP (yd 0) (yhD (yd 4)) (yhD (xOp yiT (yd 4) (yd 8))))) (yb (xOp yHR (yd 1) (xC (.int 1))) (yb (yd 2) (yn))))) (yx 10)) (yw (ybA (yba (ycU n) (yb (xFz (yza yvP (yd 0) (yhD (xOp yiT (yd 4) (yd 8))) (yhD (xOp yiT (xOp yiT (yd 4) (yd 8)) (yd 9))))) (yb (xOp yHR (yd 1) (xC (.int 1))) (yb (yd 2) (yn))))) (yx 11)) (yw (ybA (xOp yiT (xOp yiT (yd 4) (yd 8)) (yd 9)) (yx 4)) (ygx 3 (yba yfw (yb (xOp oDiv (yd 6) (xC (.int 132))) (yb (yd 10) (yb (yd 11) (yb (yd 2) (yn)))))))))))))))))) (yEc 3 (ybg (yd 3))))))
def ybV:Nat->Fn
 | 0=>fun _ _=>none
 | n+1=>ycI 3 (yw (yrA (ygf (yn)) 1) (yw (yxY (xIL (yd 0)) (yx 2) (ybv (yt (xOp (oEq) (xOp (ybe) (yd 2) (xC (.int 0))) (xC (.str "let")))) (ygx 1 (xFz (ykF ydY (yb (xOp (ybe) (yd 2) (xC (.int 1))) (yb (xOp (ybe) (yd 2) (xC (.int 2))) (yn)))))) (ybv (yt (xOp (oEq) (xOp (ybe) (yd 2) (xC (.int 0))) (xC (.str "reckon")))) (ygx 1 (xFz (ykF ycC (yb (xOp (ybe) (yd 2) (xC (.int 1))) (yb (xOp (ybe) (yd 2) (xC (.int 2))) (yb (xOp (ybe) (yd 2) (xC (.int 3))) (yb (xOp (ybe) (yd 2) (xC (.int 4))) (yn)))))))) (ybv (yt (xOp (oEq) (xOp (ybe) (yd 2) (xC (.int 0))) (xC (.str "take")))) (ygx 1 (xFz (ykF ydq (yb (xOp (ybe) (yd 2) (xC (.int 1))) (yb (xOp (ybe) (yd 2) (xC (.int 2))) (yn)))))) (ybv (yt (xOp (oEq) (xOp (ybe) (yd 2) (xC (.int 0))) (xC (.str "put")))) (ygx 1 (xFz (ykF ydZ (yb (xOp (ybe) (yd 2) (xC (.int 1))) (yb (xOp (ybe) (yd 2) (xC (.int 2))) (yn)))))) (ybv (yt (xOp (oEq) (xOp (ybe) (yd 2) (xC (.int 0))) (xC (.str "if")))) (ygx 1 (xFz (ykF yeH (yb (xOp (ybe) (yd 2) (xC (.int 1))) (yb (yba (ybV n) (yb (xOp (ybe) (yd 2) (xC (.int 2))) (yn))) (yb (yba (ybV n) (yb (xOp (ybe) (yd 2) (xC (.int 3))) (yn))) (yn))))))) (ybv (yt (xOp (oEq) (xOp (ybe) (yd 2) (xC (.int 0))) (xC (.str "either")))) (ygx 1 (xFz (ykF ycE (yb (yba (ybV n) (yb (xOp (ybe) (yd 2) (xC (.int 1))) (yn))) (yb (yba (ybV n) (yb (xOp (ybe) (yd 2) (xC (.int 2))) (yn))) (yn)))))) (ybv (yt (xOp (oEq) (xOp (ybe) (yd 2) (xC (.int 0))) (xC (.str "try")))) (ygx 1 (xFz (ykF yeb (yb (yba (ybV n) (yb (xOp (ybe) (yd 2) (xC (.int 1))) (yn))) (yb (xOp (ybe) (yd 2) (xC (.int 2))) (yb (xOp (ybe) (yd 2) (xC (.int 3))) (yb (yba (ybV n) (yb (xOp (ybe) (yd 2) (xC (.int 4))) (yn))) (yn)))))))) (ybv (yt (xOp (oEq) (xOp (ybe) (yd 2) (xC (.int 0))) (xC (.str "throw")))) (ygx 1 (xFz (ykF ycP (yb (xOp (ybe) (yd 2) (xC (.int 1))) (yb (xOp (ybe) (yd 2) (xC (.int 2))) (yn)))))) (ygx 1 (xFz (yyd 11)))))))))))) (yEc 1 (ybg (yd 1)))))
def yfx:Fn:=ycI 6 (yw (ybA (yba ycf (yb (yd 0) (yn))) (yx 1)) (yw (ybA (xOp (ydk) (xFz (ygf (yb (xC (.int 1)) (yb (xC (.int 2)) (yb (xC (.int 3)) (yb (xOp yiT (xC (.int 1)) (xOp oMod (xOp oDiv (yd 1) (xC (.int 4))) (xC (.int 16)))) (yn))))))) (xOp oMod (yd 1) (xC (.int 4)))) (yx 2)) (yw (yrA (ygf (yn)) 3) (yw (yxY (yDp (yb (yd 2) (yn))) (yx 4) (yw (ybA (xFz (ygf (yb (xOp oMod (xOp oDiv (xOp oDiv (yd 1) (xC (.int 64))) (xOp yiT (yd 4) (xC (.int 1)))) (xC (.int 5))) (yb (yba ydI (yb (xOp yiT (yd 0) (xOp yGc (yd 4) (yd 4))) (yn))) (yn))))) (yx 5)) (ygx 3 (xOp (ydk) (yd 5) (xOp oMod (xOp yiT (xOp oDiv (yd 1) (xC (.int 1000))) (yd 4)) (xC (.int 2))))))) (yEc 3 (ybg (yd 3)))))))
def yfy:Fn:=ycI 3 (yw (ybA (yba ycf (yb (yd 0) (yn))) (yx 1)) (yw (ybA (ygw (ynV (yDp (yb (xC (.int 8)) (yn))) [1] (xOp oMod (xOp oDiv (yd 1) (xOp yiT (xOp yGc (yd 0) (yd 0)) (xC (.int 3)))) (xC (.int 4))))) (yx 2)) (yw (ytS (yd 2) (xOp oMod (yd 1) (xC (.int 8))) (yba ydI (yb (yd 0) (yn)))) (ybg (yd 2)))))
def yiX:Fn:=ycI 3 (yw (ybv (yt (xOp (oEq) (yd 0) (xC (.str "less")))) (ybg (xCB (yBa) (yb (xOp (oLt) (yd 1) (yd 2)) (yn)))) (yV)) (yw (ybv (yt (xOp (oEq) (yd 0) (xC (.str "same")))) (ybg (xCB (yBa) (yb (xOp (oEq) (yd 1) (yd 2)) (yn)))) (yV)) (yw (ybv (yt (xOp (oEq) (yd 0) (xC (.str "plus")))) (ybg (xOp oMod (xOp yiT (yd 1) (yd 2)) (xOp yKq (xC (.int 2)) (xC (.int 64))))) (yV)) (yw (ybv (yt (xOp (oEq) (yd 0) (xC (.str "minus")))) (ybg (xOp oMod (xOp yHR (yd 1) (yd 2)) (xOp yKq (xC (.int 2)) (xC (.int 64))))) (yV)) (ybg (xOp oMod (xOp yGc (yd 1) (yd 2)) (xOp yKq (xC (.int 2)) (xC (.int 64)))))))))
def ybP:Fn:=ycI 1 (ybg (xFz (ynV (xIL (xFz (ykC yqN (yb (yd 0) (yn))))) [0] (yeD (yb (yd 0) (yb (yfm (yd 1) (yd 0)) (yn)))))))
def ycV:Fn:=ycI 3 (yw (yxY (yJq (yb (xOp yHR (xCB (yfk) (yb (yd 0) (yn))) (xC (.int 1))) (yb (xUn yEm (xC (.int 1))) (yb (xUn yEm (xC (.int 1))) (yn))))) (yx 2) (yw (ybv (yAH (yt (xOp (oEq) (xOp (ybe) (yd 1) (xC (.int 0))) (xC (.str "wait")))) (yt (xOp (oEq) (xOp (ybe) (xOp (ydk) (yd 0) (yd 2)) (xC (.int 0))) (xC (.str "either"))))) (ybg (yd 2)) (yV)) (ybv (yAH (yt (xOp (oEq) (xOp (ybe) (yd 1) (xC (.int 0))) (xC (.str "throw")))) (yAH (yt (xOp (oEq) (xOp (ybe) (xOp (ydk) (yd 0) (yd 2)) (xC (.int 0))) (xC (.str "guard")))) (yt (xOp (oEq) (xOp (ybe) (xOp (ydk) (yd 0) (yd 2)) (xC (.int 1))) (xOp (ybe) (yd 1) (xC (.int 1))))))) (ybg (yd 2)) (yV)))) (ybg (xUn yEm (xC (.int 1)))))
def ydJ:Fn:=ycI 2 (yw (ybv (yt (xOp (oEq) (xOp (ybe) (yd 0) (xC (.int 0))) (xC (.str "wait")))) (ybg (yeD (yb (xC (.str "waits")) (yn)))) (yV)) (ybg (yeD (yb (xC (.str "fell")) (yb (xOp (ybe) (yd 0) (xC (.int 1))) (yb (yfm (yd 1) (xOp (ybe) (yd 0) (xC (.int 2)))) (yn)))))))
def yck:Fn:=ycI 6 (yw (ybv (yt (xOp (oEq) (xOp (ybe) (yd 0) (xC (.int 0))) (xC (.str "let")))) (yfn (yd 3) (xOp (ybe) (yd 0) (xC (.int 1))) (xOp (ybe) (yd 0) (xC (.int 2)))) (ybv (yt (xOp (oEq) (xOp (ybe) (yd 0) (xC (.int 0))) (xC (.str "take")))) (yw (ybA (xOp oMod (yfm (yd 3) (xOp (ybe) (yd 0) (xC (.int 2)))) (xCB (yfk) (yb (yd 1) (yn)))) (yx 5)) (yw (ybv (yt (yBo true (yd 5) (yd 4))) (yfn (yd 2) (yd 5) (xOp (ydk) (yd 1) (yd 5))) (yV)) (yfn (yd 3) (xOp (ybe) (yd 0) (xC (.int 1))) (ytT (yd 4) (yd 5) (xOp (ydk) (yd 1) (yd 5)))))) (ybv (yt (xOp (oEq) (xOp (ybe) (yd 0) (xC (.int 0))) (xC (.str "put")))) (yfn (yd 4) (xOp oMod (yfm (yd 3) (xOp (ybe) (yd 0) (xC (.int 1)))) (xCB (yfk) (yb (yd 1) (yn)))) (yfm (yd 3) (xOp (ybe) (yd 0) (xC (.int 2))))) (ybv (yAH (yt (xOp (oEq) (xCB (yfk) (yb (yd 0) (yn))) (xC (.int 4)))) (yt (xOp (yGp false) (xOp (ybe) (yd 0) (xC (.int 0))) (yeD (yb (xC (.str "plus")) (yb (xC (.str "minus")) (yb (xC (.str "times")) (yb (xC (.str "less")) (yb (xC (.str "same")) (yn)))))))))) (yfn (yd 3) (xOp (ybe) (yd 0) (xC (.int 1))) (yba yiX (yb (xOp (ybe) (yd 0) (xC (.int 0))) (yb (yfm (yd 3) (xOp (ybe) (yd 0) (xC (.int 2)))) (yb (yfm (yd 3) (xOp (ybe) (yd 0) (xC (.int 3)))) (yn)))))) (yV))))) (ybg (ywp (xOp (oGt) (xCB (yfk) (yb (yd 0) (yn))) (xC (.int 0))) (xOp (yGp false) (xOp (ybe) (yd 0) (xC (.int 0))) (yeD (yb (xC (.str "let")) (yb (xC (.str "take")) (yb (xC (.str "put")) (yb (xC (.str "plus")) (yb (xC (.str "minus")) (yb (xC (.str "times")) (yb (xC (.str "less")) (yb (xC (.str "same")) (yn))))))))))))))
def ygF:Fn:=ycI 11 (yw (ybA (ygw (ykC (ydn) (yb (yd 2) (yn)))) (yx 3)) (yw (ybA (ygw (ynZ)) (yx 4)) (yw (ybA (ygw (ynZ)) (yx 5)) (yw (ybA (ygw (ygf (yn))) (yx 6)) (yw (ybA (xC (.int 0)) (yx 7)) (yw (ymA 1000 (yt (ytI (oLe) (oLt) (xC (.int 0)) (yd 7) (xCB (yfk) (yb (yd 0) (yn))))) (yw (ybA (xOp (ydk) (yd 0) (yd 7)) (yx 8)) (yw (ybA (xOp yiT (yd 7) (xC (.int 1))) (yx 7)) (yw (ybv (yt (xOp (oEq) (xOp (ybe) (yd 8) (xC (.int 0))) (xC (.str "lay")))) (ybg (yeD (yb (yeD (yb (xC (.str "done")) (yn))) (yb (yba ybP (yb (yd 5) (yn))) (yb (yba ybP (yb (yd 4) (yn))) (yb (xFz (ynV (xIS (xC (.str "abcdefgh"))) [3] (yfm (yd 1) (yd 0)))) (yn))))))) (yV)) (ybv (yt (xOp (oEq) (xOp (ybe) (yd 8) (xC (.int 0))) (xC (.str "jump")))) (ybA (xOp (ybe) (yd 8) (xC (.int 1))) (yx 7)) (ybv (yt (xOp (oEq) (xOp (ybe) (yd 8) (xC (.int 0))) (xC (.str "unless")))) (ybA (xIf (yt (xOp (oEq) (yfm (yd 3) (xOp (ybe) (yd 8) (xC (.int 1)))) (xC (.int 0)))) (xOp (ybe) (yd 8) (xC (.int 2))) (yd 7)) (yx 7)) (ybv (yt (xOp (oEq) (xOp (ybe) (yd 8) (xC (.int 0))) (xC (.str "settle")))) (ydi (xBM ylN (yqe) (yd 6) (yn))) (ybv (xOr (yt (xOp (oEq) (xOp (ybe) (yd 8) (xC (.int 0))) (xC (.str "either")))) (yt (xOp (oEq) (xOp (ybe) (yd 8) (xC (.int 0))) (xC (.str "guard"))))) (ydi (xBM ylN (ytR) (yd 6) (yb (yeD (yb (xOp (ybe) (yd 8) (xC (.int 0))) (yb (xOp (ybe) (yd 8) (xC (.int 1))) (yb (yd 8) (yb (ygw (ykC (ydn) (yb (yd 3) (yn)))) (yb (ygw (ykC (ydn) (yb (yd 4) (yn)))) (yn))))))) (yn)))) (ybv (xOr (yt (xOp (oEq) (xOp (ybe) (yd 8) (xC (.int 0))) (xC (.str "wait")))) (yt (xOp (oEq) (xOp (ybe) (yd 8) (xC (.int 0))) (xC (.str "throw"))))) (yw (ybA (yba ycV (yb (yd 6) (yb (yd 8) (yn)))) (yx 9)) (yw (ybv (yt (xOp (oLt) (yd 9) (xC (.int 0)))) (ybg (yeD (yb (yba ydJ (yb (yd 8) (yb (yd 3) (yn)))) (yb (yba ybP (yb (yd 5) (yn))) (yb (xFz (ygf (yn))) (yb (xFz (ynV (xIS (xC (.str "abcdefgh"))) [2] (yfm (yd 1) (yd 0)))) (yn))))))) (yV)) (yw (ybA (yba ydJ (yb (yd 8) (yb (yd 3) (yn)))) (yx 10)) (yw (ybA (ygw (ykC (ydn) (yb (xOp (ybe) (xOp (ydk) (yd 6) (yd 9)) (xC (.int 3))) (yn)))) (yx 3)) (yw (ybA (ygw (ykC (ydn) (yb (xOp (ybe) (xOp (ydk) (yd 6) (yd 9)) (xC (.int 4))) (yn)))) (yx 4)) (yw (ybA (xOp (ybe) (xOp (ybe) (xOp (ydk) (yd 6) (yd 9)) (xC (.int 2))) (xUn yEm (xC (.int 1)))) (yx 7)) (yw (ybv (yt (xOp (oEq) (xOp (ybe) (yd 8) (xC (.int 0))) (xC (.str "throw")))) (yfn (yd 3) (xOp (ybe) (xOp (ybe) (xOp (ydk) (yd 6) (yd 9)) (xC (.int 2))) (xC (.int 2))) (xOp (ybe) (yd 10) (xC (.int 2)))) (yV)) (ybA (ygw (yza yvP (yd 6) (yfH) (yhD (yd 9)))) (yx 6))))))))) (ybv (yDU (yt (yba yck (yb (yd 8) (yb (yd 1) (yb (yd 5) (yb (yd 3) (yb (yd 4) (yn))))))))) (ybg (xC .non)) (yV))))))))))) (ybg (xC .non))))))))
def yFd:Fn:=ycI 10 (yw (ybA (yba yfu (yb (xCB (yDr) (yb (xFz (yza yvP (yd 0) (yfH) (yhD (xC (.int 1))))) (yn))) (yn))) (yx 1)) (yw (yxY (yKX (yb (xC (.int 0)) (yb (xCB (yBr) (yb (xC (.int 1)) (yb (xCB (yfk) (yb (yd 0) (yn))) (yn)))) (yb (xC (.int 12)) (yn))))) (yx 2) (yw (ybA (xFz (yza yvP (yd 0) (yhD (yd 2)) (yhD (xOp yiT (yd 2) (xC (.int 12)))))) (yx 3)) (yw (ybA (yba (ybV 7) (yb (yba (ycU 5) (yb (yd 3) (yb (xC (.int 3)) (yb (yd 1) (yn))))) (yn))) (yx 4)) (yw (ybA (yba yfx (yb (xOp yiT (xCB (yDr) (yb (xFz (yza yvP (yd 3) (yhD (xC (.int 1))) (yhD (xC (.int 2))))) (yn))) (yd 2)) (yn))) (yx 5)) (yw (ybA (yba yfy (yb (xOp yiT (xCB (yDr) (yb (xFz (yza yvP (yd 3) (yfH) (yhD (xC (.int 1))))) (yn))) (yd 2)) (yn))) (yx 6)) (yw (ybA (ygw (ynZ)) (yx 7)) (yw (yxY (yDp (yb (xC (.int 8)) (yn))) (yx 8) (yfn (yd 7) (xOp (yya) (xC (.str "abcdefgh")) (yd 8)) (xOp (ydk) (yd 6) (yd 8)))) (yw (ybA (yba ygF (yb (yba ykU (yb (yd 4) (yn))) (yb (yd 5) (yb (yd 7) (yn))))) (yx 9)) (ybv (xOr (yt (xOp (yKs) (yd 9) (xC .non))) (yDU (yt (yba (yH 5) (yb (yba ysc (yb (yd 4) (yb (xFz (ykC (ybM) (yb (yd 5) (yn)))) (yb (xFz (ykC (ybM) (yb (yd 6) (yn)))) (yn))))) (yb (yd 9) (yn))))))) (ybg (xC (.bl false))) (yV)))))))))) (ybg (xC (.bl true)))))
def yGC:Prop:=True
def yNz:Prop:=True
section
variable {h:AH}
noncomputable def Stk (h:AH):List Nat->List (List Key×List PV)->Prop
 | [],[]=>True
 | l::ls,d::ds=>h[l]?=some (.dct d.1 d.2)/\Stk h ls ds
 | _,_=>False
theorem Stk.len {h:AH}:∀ {ls:List Nat}{ds:List (List Key×List PV)},Stk h ls ds->ds.length=ls.length
 | [],[],_=>rfl
 | _::_,_::_,s=>by rw [length_cons,length_cons,Stk.len s.2]
 | [],_::_,s=>s.elim
 | _::_,[],s=>s.elim
theorem Stk.mono {h h':AH}:∀ {ls:List Nat}{ds:List (List Key×List PV)},Stk h ls ds->(∀ l∈ls,∀ d,h[l]?=some d->h'[l]?=some d)->Stk h' ls ds
 | [],[],_,_=>trivial
 | l::ls,_::_,s,k=>⟨k l mem_cons_self _ s.1,Stk.mono s.2 fun l hl=>k l (mem_cons_of_mem _ hl)⟩
 | [],_::_,s,_=>s.elim
 | _::_,[],s,_=>s.elim
theorem Stk.app {h:AH}:∀ {ls ms:List Nat}{ds es:List (List Key×List PV)},Stk h ls ds->Stk h ms es->Stk h (ls++ms) (ds++es)
 | [],_,[],_,_,t=>t
 | _::_,_,_::_,_,s,t=>⟨s.1,Stk.app s.2 t⟩
 | [],_,_::_,_,s,_=>s.elim
 | _::_,_,[],_,s,_=>s.elim
theorem Stk.get {h:AH}:∀ {ls:List Nat}{ds:List (List Key×List PV)}(k:Nat),Stk h ls ds->k<ls.length->∃ l d,ls[k]?=some l/\ds[k]?=some d/\h[l]?=some (.dct d.1 d.2)
 | l::ls,d::ds,0,s,_=>⟨l,d,rfl,rfl,s.1⟩
 | l::ls,d::ds,k+1,s,hk=>by
  obtain ⟨l',d',e1,e2,e3⟩:=Stk.get k s.2 (by simpa using hk)
  exact ⟨l',d',by simpa using e1,by simpa using e2,e3⟩
 | [],[],_,_,hk=>by simp at hk
 | [],_::_,_,s,_=>s.elim
 | _::_,[],_,s,_=>s.elim
theorem Stk.split {h:AH}:∀ {ls:List Nat}{t:Nat}{ds:List (List Key×List PV)},Stk h (ls++[t]) ds->∃ es d,ds=es++[d]/\Stk h ls es/\h[t]?=some (.dct d.1 d.2)
 | [],t,[d],s=>⟨[],d,rfl,trivial,s.1⟩
 | [],t,[],s=>s.elim
 | [],t,_::_::_,s=>s.2.elim
 | l::ls,t,[],s=>s.elim
 | l::ls,t,d::ds,s=>by
  obtain ⟨es,d',e,s1,s2⟩:=Stk.split (ls:=ls) s.2
  exact ⟨d::es,d',by rw [e];rfl,⟨s.1,s1⟩,s2⟩
noncomputable def yJs (ds:List (List Key×List PV)) (j:Key):Nat->PV
 | 0=>.non
 | k+1=>match ds[k]? with|some d=>(match yfj d.1 d.2 j with|some x=>x|none=>yJs ds j k)|none=>.non
structure LG (h:AH) (o s b:Nat) (ls:List Nat) (ds:List (List Key×List PV)) (ks:List Key) (xs:List PV):Prop where
 ob:h[o]?=some (.ins 0 ["stack","last_seen"] [.loc s,.loc b])
 st:h[s]?=some (.lst (ls.map .loc))
 sn:h[b]?=some (.dct ks xs)
 dl:Stk h ls ds
theorem yjx {o s b:Nat}(e:h[o]?=some (.ins 0 ["stack","last_seen"] [.loc s,.loc b])):yfl [0] "stack" (.loc o) h=some (.loc s,h):=by
 unfold yfl yhE
 simp only [e]
 rw [if_pos (by rfl'),show idxOf ("stack":Str) ["stack","last_seen"]=0 by rfl']
 rfl
theorem yCb {o s b:Nat}(e:h[o]?=some (.ins 0 ["stack","last_seen"] [.loc s,.loc b])):yfl [0] "last_seen" (.loc o) h=some (.loc b,h):=by
 unfold yfl yhE
 simp only [e]
 rw [if_pos (by rfl'),show idxOf ("last_seen":Str) ["stack","last_seen"]=1 by rfl']
 rfl
theorem yCc {n:Nat}{l:List Nat}{t:Nat}(e:h[n]?=some (.lst ((l++[t]).map PV.loc))):ydk (.loc n) (.int (-1)) h=some (.loc t,h):=by
 unfold ydk
 simp only [e]
 have:atI ((l++[t]).map PV.loc) (-1)=some (.loc t):=by
  unfold atI ixN
  simp
  rw [if_pos (by omega),bind_some,show (-1+((l.length:Int)+1)).toNat=l.length by omega]
  simp
 rw [this]
theorem yfI {o s b:Nat}{m:Str}{f:Fn}{ys:List PV}{a:XE}{aa:XA}{ρ:PSt}{h0 h2:AH}(e:h[o]?=some (.ins 0 ["stack","last_seen"] [.loc s,.loc b])) (ea:a ρ h0=some (.loc o,h)) (hm:m∉(["stack","last_seen"]:List Str)) (eb:aa ρ h=some (ys,h2)):yK 0 m f a aa ρ h0=f (.loc o::ys) h2:=by
 unfold yK yhE
 rw [ea,yB]
 simp only [e]
 rw [if_pos ⟨trivial,hm⟩,eb,yB]
theorem yIN {n:Nat}{ks:List Key}{xs:List PV}{i:Int}{ek ed:XE}{ρ:PSt}(ek':ek ρ h=some (.int i,h)) (ed':ed ρ h=some (.loc n,h)) (e:h[n]?=some (.dct ks xs)):yBo false ek ed ρ h=some (.bl (yfj ks xs (.inl i)).isSome,h):=by
 unfold yBo
 rw [ek',yB,ed',yB]
 unfold yzY
 simp only [e,keyOf]
 rfl
theorem yyz {n:Nat}{ks:List Key}{xs:List PV}{i:Int}{x:PV}{ek ed:XE}{ρ:PSt}(ed':ed ρ h=some (.loc n,h)) (ek':ek ρ h=some (.int i,h)) (e:h[n]?=some (.dct ks xs)) (hx:yfj ks xs (.inl i)=some x):yfm ed ek ρ h=some (x,h):=by
 unfold yfm
 rw [ed',yB,ek',yB]
 unfold yzY
 simp only [e,keyOf,hx]
theorem ynF {n:Nat}{ks:List Key}{xs:List PV}{i:Int}{x:PV}{ed ek ev:XE}{ρ:PSt}(ev':ev ρ h=some (x,h)) (ed':ed ρ h=some (.loc n,h)) (ek':ek ρ h=some (.int i,h)) (e:h[n]?=some (.dct ks xs)) (hl:ks.length<1000) :
  yfn ed ek ev ρ h=some (.nx ρ,h.set n (.dct (yct ks xs (.inl i) x).1 (yct ks xs (.inl i) x).2)):=by
 unfold yfn
 rw [ev',yB,ed',yB,ek',yB]
 simp only [e,keyOf]
 rw [if_pos hl]
end
section
variable {h:AH}{o s b:Nat}{ls:List Nat}{ds:List (List Key×List PV)}{ks:List Key}{xs:List PV}
theorem yFe {i:Int}(g:LG h o s b ls ds ks xs):∀ (k:Nat),k<=ls.length->∀ c:PVar,
  ob (yBA s true (yx 2) (ybv (yt (yBo false (yd 1) (yd 2))) (ybg (yfm (yd 2) (yd 1))) (yV)) k (ls.length-k) [.val (.loc o),.val (.int i),c] h) (fun o h1=>ob (sqK (ybg (xC .non)) o h1) fnK)=some (yJs ds (.inl i) k,h):=by
 intro k
 induction k with
 | zero =>
  intro _ c
  unfold yBA
  simp only [g.st]
  rw [if_pos (by simp),yB,ywv]
  rfl
 | succ k ih =>
  intro hk c
  unfold yBA
  simp only [g.st]
  obtain ⟨l,d,e1,e2,e3⟩:=g.dl.get k (by omega)
  have e4:(ls.map PV.loc)[k]?=some (.loc l):=by rw [getElem?_map,e1];rfl
  simp only [if_true,e4]
  have er:yx 2 (.loc l) [.val (.loc o),.val (.int i),c]=some [.val (.loc o),.val (.int i),.val (.loc l)]:=rfl
  rw [er,bind_some,yKD,yGf,yIN (n:=l) rfl rfl e3,yB,yOg,yB]
  have ek:ls.length-(k+1)+1=ls.length-k:=by omega
  unfold yJs
  simp only [e2]
  cases hg:yfj d.1 d.2 (.inl i) with
  | none =>
   rw [if_neg (by simp),yGg,yB]
   dsimp only
   rw [ek]
   exact ih (by omega) _
  | some x =>
   rw [if_pos (show (some x).isSome=true from rfl),yBd,yyz (n:=l) rfl rfl e3 hg,yB,yB]
   rfl
theorem yLq {i:Int}(g:LG h o s b ls ds ks xs):ygi [.loc o,.int i] h=some (yJs ds (.inl i) ls.length,h):=by
 unfold ygi
 rw [yC]
 show ob (yw _ _ [.val (.loc o),.val (.int i),.no] h) fnK=_
 rw [ykG]
 have:=yFe (i:=i) g ls.length (Nat.le_refl _) .no
 rw [sub_self] at this
 rw [yEx,<- this]
 unfold yEN
 rw [yqd,show yd 0 [PVar.val (.loc o),.val (.int i),.no] h=some (.loc o,h) from rfl,yB,yjx g.ob,yB]
 simp only [g.st,length_map]
theorem yFf {i:Int}{v:PV}{t:Nat}{d:List Key×List PV}(g:LG h o s b (ls++[t]) ds ks xs) (ht:h[t]?=some (.dct d.1 d.2)) (hl:d.1.length<1000):ygB [.loc o,.int i,v] h=some (.non,h.set t (.dct (yct d.1 d.2 (.inl i) v).1 (yct d.1 d.2 (.inl i) v).2)):=by
 unfold ygB
 rw [yC,ykG,yzj,yKw,yqd,show yd 0 ([PV.loc o,.int i,v].map .val++replicate (4-[PV.loc o,.int i,v].length) .no) h=some (.loc o,h) from rfl,yB,yjx g.ob,yB]
 show ob (ob (ob (ydk (.loc s) (.int (-1)) h) _) _) _=_
 rw [yCc g.st,yB]
 show ob (yfn (yd 3) (yd 1) (yd 2) [.val (.loc o),.val (.int i),.val v,.val (.loc t)] h) fnK=_
 rw [ynF (n:=t) (i:=i) (x:=v) rfl rfl rfl ht hl,yB]
 rfl
theorem yFg (g:LG h o s b ls ds ks xs) (hl:ls.length<1000):ygC [.loc o] h=some (.non,(h++[Nd.dct [] []]).set s (.lst ((ls++[h.length]).map .loc))):=by
 have hs:(h++[Nd.dct [] []])[s]?=some (.lst (ls.map .loc)):=by rw [getElem?_append_left (List.getElem?_eq_some_iff.mp g.st).1];exact g.st
 unfold ygC
 rw [yC,ynY,yKB,yqd,show yd 0 ([PV.loc o].map .val++replicate (1-[PV.loc o].length) .no) h=some (.loc o,h) from rfl,yB,yjx g.ob,yB,if_pos (yhL g.st)]
 show ob (ob (ytR (.loc s) [.loc h.length] (h++[Nd.dct [] []])) _) fnK=_
 rw [yBt hs (by rw [length_map];omega),yB,yB,map_append]
 rfl
theorem yCd {n:Nat}{l:List Nat}{t:Nat}(e:h[n]?=some (.lst ((l++[t]).map PV.loc))):yqe (.loc n) [] h=some (.loc t,h.set n (.lst (l.map .loc))):=by
 unfold yqe
 simp only [e]
 have:((l++[t]).map PV.loc)[((l++[t]).map PV.loc).length-1]?=some (.loc t):=by simp
 rw [this]
 simp
theorem yIO {t:Nat}(g:LG h o s b (ls++[t]) ds ks xs):ygj [.loc o] h=some (.non,h.set s (.lst (ls.map .loc))):=by
 unfold ygj
 rw [yC,ynY,yKB,yqd,show yd 0 ([PV.loc o].map .val++replicate (1-[PV.loc o].length) .no) h=some (.loc o,h) from rfl,yB,yjx g.ob,yB,if_pos (yhL g.st),yzi,yB,yCd g.st,yB,yB]
 rfl
theorem yGD {L:List PV}(g:LG h o s b ls ds ks xs) (e:sortI ks xs=some L):ygk [.loc o] h=some (.loc h.length,h++[.lst L]):=by
 unfold ygk
 rw [yC,yBd,yHX]
 unfold yoe
 rw [yqd,show yd 0 ([PV.loc o].map .val++replicate (1-[PV.loc o].length) .no) h=some (.loc o,h) from rfl,yB,yCb g.ob,yB]
 unfold yni
 simp only [g.sn,e]
 rfl
end
section
variable {h:AH}{o s b:Nat}{ls:List Nat}{ds:List (List Key×List PV)}{ks:List Key}{xs:List PV}
theorem yLr {i:Int}{v:PV}(g:LG h o s b ls ds ks xs) (hl:ks.length<1000):ykR [.loc o,.int i,v] h=some (.non,h.set b (.dct (yct ks xs (.inl i) v).1 (yct ks xs (.inl i) v).2)):=by
 unfold ykR
 rw [yC]
 rw [ynF (n:=b) (i:=i) (x:=v) rfl (by rw [yqd];show ob (some (PV.loc o,h)) _=_;rw [yB,yCb g.ob]) rfl g.sn hl,yB]
 rfl
end
section
variable {h:AH}{o s b:Nat}{ls:List Nat}{ds:List (List Key×List PV)}{ks:List Key}{xs:List PV}
theorem yCe {t u:Nat}{dt du:List Key×List PV}(g:LG h o s b (ls++[u]++[t]) ds ks xs) (ho:o≠s) (hus:u≠s) (hts:t≠s) (hut:u≠t) (eu:h[u]?=some (.dct du.1 du.2)) (et:h[t]?=some (.dct dt.1 dt.2)) (hl:du.1.length+dt.1.length<1000) :
  yfs [.loc o] h=some (.non,(h.set s (.lst ((ls++[u]).map .loc))).set u (.dct (ytW dt.1 dt.2 du.1 du.2).1 (ytW dt.1 dt.2 du.1 du.2).2)):=by
 have hs:s<h.length:=(List.getElem?_eq_some_iff.mp g.st).1
 have e1:(h.set s (.lst ((ls++[u]).map PV.loc)))[s]?=some (.lst ((ls++[u]).map PV.loc)):=getElem?_set_self hs
 have e2:(h.set s (.lst ((ls++[u]).map PV.loc)))[o]?=some (.ins 0 ["stack","last_seen"] [.loc s,.loc b]):=(getElem?_set_ne (Ne.symm ho)).trans g.ob
 have e3:(h.set s (.lst ((ls++[u]).map PV.loc)))[u]?=some (.dct du.1 du.2):=(getElem?_set_ne (Ne.symm hus)).trans eu
 have e4:(h.set s (.lst ((ls++[u]).map PV.loc)))[t]?=some (.dct dt.1 dt.2):=(getElem?_set_ne (Ne.symm hts)).trans et
 unfold yfs
 rw [yC,ykG,yzj,yKB,yqd,show yd 0 ([PV.loc o].map .val++replicate (3-[PV.loc o].length) .no) h=some (.loc o,h) from rfl,yB,yjx g.ob,yB,if_pos (yhL g.st),yzi,yB,yCd g.st,yB]
 generalize hh:h.set s (.lst ((ls++[u]).map PV.loc))=h1 at *
 show ob (yw _ _ [.val (.loc o),.val (.loc t),.no] h1) fnK=_
 rw [ykG,yzj,yKw,yqd,show yd 0 [PVar.val (.loc o),.val (.loc t),.no] h1=some (.loc o,h1) from rfl,yB,yjx e2,yB]
 show ob (ob (ob (ydk (.loc s) (.int (-1)) h1) _) _) _=_
 rw [yCc e1,yB]
 show ob (ydi (xBM yzq yJp (yd 2) (yb (yd 1) yn)) [.val (.loc o),.val (.loc t),.val (.loc u)] h1) fnK=_
 rw [ynY,yKB]
 show ob (ob (if yzq (.loc u) h1=true then yJp (.loc u) [.loc t] h1 else none) _) fnK=_
 rw [if_pos (by unfold yzq yni;simp only [e3];rfl)]
 unfold yJp
 simp only [e3,e4]
 rw [if_pos ⟨hut,hl⟩,yB,yB]
 rfl
end
section
variable {h:AH}
def Tl (L:List PV):Prop:=L.length<=1000/\∀ x∈L,∃ a b,x=.tup [.int a,.int b]
theorem yNA {i:Int}:yfi isaTb [.int i,.ty "int"] h=some (.bl true,h):=rfl
theorem yNB {i:Int}:yfi isaTb [.int i,.ty "bool"] h=some (.bl false,h):=rfl
theorem yNC {xs}:yfi isaTb [.tup xs,.ty "int"] h=some (.bl false,h):=rfl
theorem yND {xs}:yfi isaTb [.tup xs,.ty "str"] h=some (.bl false,h):=rfl
theorem yNE {xs}:yfi isaTb [.tup xs,.ty "tuple"] h=some (.bl true,h):=rfl
theorem yNF {xs}:yfi isaTb [.lst xs,.ty "int"] h=some (.bl false,h):=rfl
theorem yNG {xs}:yfi isaTb [.lst xs,.ty "str"] h=some (.bl false,h):=rfl
theorem yIP {xs}:yfi isaTb [.lst xs,.ty "tuple"] h=some (.bl false,h):=rfl
theorem yOo {n:Nat}{xs:List PV}(e:h[n]?=some (.lst xs)):yfi isaTb [.loc n,.ty "list"] h=some (.bl true,h):=by
 unfold yfi yHV ydG
 simp only [e]
 rfl
theorem yCf {n:Nat}{xs:List PV}{i:Nat}(e:h[n]?=some (.lst xs)) (hi:i<xs.length):yDu (.loc n) (.int i) h=some (xs[i],h):=by
 unfold yDu ydk
 simp only [e]
 rw [ycb (List.getElem?_eq_getElem hi)]
local macro_rules | `(tactic| walk_at "pt")=>`(tactic| simp_all? only [$(sl_ "yNA yNB yNC yND yNE yNF yNG yIP ne_eq not_true_eq_false"),*])
theorem ysd {n:Nat}{i:Int}:yH (n+1) [.int i,.int i] h=some (.bl true,h):=by
 unfold yH
 rw [yC]
 show ob (yw _ _ [.val (.int i),.val (.int i),.no] h) fnK=_
 walk_at "pt"
theorem yIQ {n:Nat}{a b:Int}:yH (n+2) [.tup [.int a,.int b],.tup [.int a,.int b]] h=some (.bl true,h):=by
 unfold yH
 rw [yC]
 show ob (yw _ _ [.val (.tup [.int a,.int b]),.val (.tup [.int a,.int b]),.no] h) fnK=_
 walk_at "pt"
 rw [ykK (j:=2) (h1:=h) (by walk_at "pt";rfl) (by omega) (by omega),yB]
 refine ygg (fun i ρ h1=>h1=h/\∃ c,ρ=[.val (.tup [.int a,.int b]),.val (.tup [.int a,.int b]),c]) ⟨rfl,.no,rfl⟩ ?_ ?_
 .rintro i x ρ h1 hx ⟨rfl,c,rfl⟩
  obtain ⟨hi,rfl⟩:=yhK hx
  rw [zero_add]
  refine ⟨_,[.val (.tup [.int a,.int b]),.val (.tup [.int a,.int b]),.val (.int i)],h1,rfl,.inl ?_,rfl,_,rfl⟩
  have hi:i<2:=by simpa using hi
  walk_at "pt"
  rw [ycb (List.getElem?_eq_getElem (show i<[PV.int a,.int b].length by simpa using hi))]
  walk_at "pt"
  match i,hi with
  | 0,_=>show ob (yH (n+1) [.int a,.int a] h1) _=_;rw [ysd];walk_at "pt"
  | 1,_=>show ob (yH (n+1) [.int b,.int b] h1) _=_;rw [ysd];walk_at "pt"
 .rintro ρ' h' ⟨rfl,c,rfl⟩
  walk_at "pt"
theorem yCg {f:Nat}{L:List PV}(e:h[f]?=some (.lst L)) (hL:Tl L):yH 4 [.loc f,.lst L] h=some (.bl true,h):=by
 unfold yH
 rw [yC]
 show ob (yw _ _ [.val (.loc f),.val (.lst L),.no] h) fnK=_
 walk_at "pt"
 rw [yOo e]
 walk_at "pt"
 rw [ywD e]
 walk_at "pt"
 rw [ykK (j:=(L.length:Int)) (h1:=h) (by walk_at "pt") (by omega) (by have:=hL.1;omega),yB]
 refine ygg (fun i ρ h1=>h1=h/\∃ c,ρ=[.val (.loc f),.val (.lst L),c]) ⟨rfl,.no,rfl⟩ ?_ ?_
 .rintro i x ρ h1 hx ⟨rfl,c,rfl⟩
  obtain ⟨hi,rfl⟩:=yhK hx
  rw [zero_add]
  have hi:i<L.length:=by omega
  refine ⟨_,[.val (.loc f),.val (.lst L),.val (.int i)],h1,rfl,.inl ?_,rfl,_,rfl⟩
  walk_at "pt"
  rw [yCf e hi]
  walk_at "pt"
  rw [ycb (List.getElem?_eq_getElem hi)]
  obtain ⟨a,b,eq⟩:=hL.2 _ (getElem_mem hi)
  rw [eq]
  walk_at "pt"
  rw [yIQ]
  walk_at "pt"
 .rintro ρ' h' ⟨rfl,c,rfl⟩
  walk_at "pt"
end
theorem ymF:∀ {l₁ l₂:List (Int×PV)},l₁.Pairwise (fun a b=>a.1<b.1)->l₂.Pairwise (fun a b=>a.1<b.1)->(∀ a,a∈l₁ ↔ a∈l₂)->l₁=l₂
 | [],[],_,_,_=>rfl
 | [],b::_,_,_,h=>absurd ((h b).mpr mem_cons_self) (by simp)
 | a::_,[],_,_,h=>absurd ((h a).mp mem_cons_self) (by simp)
 | a::r,b::t,h1,h2,h=>by
  obtain ⟨p1,p2⟩:=List.pairwise_cons.mp h1
  obtain ⟨q1,q2⟩:=List.pairwise_cons.mp h2
  have e:a=b:=by
   rcases mem_cons.mp ((h a).mp mem_cons_self) with e|e
   .exact e
   rcases mem_cons.mp ((h b).mpr mem_cons_self) with e'|e'
   .exact e'.symm
   have:=q1 a e
   have:=p1 b e'
   omega
  subst e
  rw [ymF p2 q2 fun x=>⟨fun hx=>?_,fun hx=>?_⟩]
  .rcases mem_cons.mp ((h x).mp (mem_cons_of_mem _ hx)) with e|e
   .subst e;exact absurd (p1 _ hx) (Int.lt_irrefl _)
   .exact e
  .rcases mem_cons.mp ((h x).mpr (mem_cons_of_mem _ hx)) with e|e
   .subst e;exact absurd (q1 _ hx) (Int.lt_irrefl _)
   .exact e
theorem ykV {j:Int}{x:PV}:∀ {js:List Int}{xs:List PV},js.Nodup->xs.length=js.length->((j,x)∈js.zip xs ↔ yfj (js.map .inl) xs (.inl j)=some x)
 | [],[],_,_=>by simp [yfj]
 | [],_::_,_,h=>by cases h
 | _::_,[],_,h=>by cases h
 | i::js,y::xs,hn,hl=>by
  obtain ⟨n1,n2⟩:=List.nodup_cons.mp hn
  have ih:=ykV (j:=j) (x:=x) n2 (by simpa using hl)
  rw [zip_cons_cons,mem_cons]
  show _ ↔ (if (Sum.inl i:Key)=.inl j then some y else yfj (js.map .inl) xs (.inl j))=some x
  by_cases e:i=j
  .subst e
   rw [if_pos rfl]
   constructor
   .rintro (z|z)
    .cases z;rfl
    .exact absurd (of_mem_zip z).1 n1
   .intro z;cases z;exact .inl rfl
  .rw [if_neg fun z=>e (by cases z;rfl),<- ih]
   constructor
   .rintro (z|z)
    .cases z;exact absurd rfl e
    .exact z
   .exact .inr
theorem hasK_int {j:Int}:∀ {js:List Int},ynB (js.map .inl) (.inl j)=true ↔ j∈js
 | []=>by simp [ynB]
 | i::js=>by
  show (if (Sum.inl i:Key)=.inl j then true else ynB (js.map .inl) (.inl j))=true ↔ _
  by_cases e:i=j
  .subst e;simp
  .rw [if_neg fun z=>e (by cases z;rfl),hasK_int,mem_cons]
   exact ⟨.inr,fun z=>z.elim (fun z=>absurd z.symm e) id⟩
theorem yyA {k:Key}{v:Int}:∀ (ks:List Key) (vs:List Int),∃ ws:List Int,setK ks (vs.map PV.int) k (.int v)=ws.map .int/\ws.length=vs.length
 | [],vs=>⟨vs,by cases vs<;>rfl,rfl⟩
 | _::_,[]=>⟨[],rfl,rfl⟩
 | i::ks,w::vs=>by
  obtain ⟨ws,e,l⟩:=yyA (k:=k) (v:=v) ks vs
  show ∃ ws:List Int,(if i=k then PV.int v::setK ks (vs.map PV.int) k (.int v) else .int w::setK ks (vs.map PV.int) k (.int v))=ws.map .int/\_
  split
  .exact ⟨v::ws,by rw [e];rfl,by simp [l]⟩
  .exact ⟨w::ws,by rw [e];rfl,by simp [l]⟩
structure ID (js vs:List Int):Prop where
 nd:js.Nodup
 rg:∀ j∈js,0<=j/\j<16
 ln:vs.length=js.length
theorem ID.put {js vs:List Int}(d:ID js vs) {j v:Int}(hj:0<=j/\j<16):∃ js' vs',yct (js.map .inl) (vs.map PV.int) (.inl j) (.int v)=(js'.map .inl,vs'.map .int)/\ID js' vs'/\js'.length<=js.length+1:=by
 unfold yct
 by_cases h:j∈js
 .rw [if_pos (hasK_int.mpr h)]
  obtain ⟨ws,e,l⟩:=yyA (k:=.inl j) (v:=v) (js.map .inl) vs
  exact ⟨js,ws,by rw [e],⟨d.nd,d.rg,by rw [l,d.ln]⟩,Nat.le_succ _⟩
 .rw [if_neg fun z=>h (hasK_int.mp z)]
  refine ⟨js++[j],vs++[v],by simp,⟨?_,?_,by simp [d.ln]⟩,by simp⟩
  .rw [List.nodup_append]
   exact ⟨d.nd,by simp,fun a ha b hb z=>by
    have:b=j:=by simpa using hb
    subst this;subst z;exact h ha⟩
  .intro i hi
   rcases List.mem_append.mp hi with hi|hi
   .exact d.rg i hi
   .have:i=j:=by simpa using hi
    subst this;exact hj
theorem yow:∀ (js:List Int),yzp (js.map .inl)=some js
 | []=>rfl
 | j::js=>by
  show (yzp (js.map .inl)).map (j::·)=_
  rw [yow js];rfl
def iv16:List Int:=(List.range 16).map fun (k:Nat)=>(0:Int)+(k:Int)
def pk (js vs:List Int) (i:Int):Option (Int×PV):=(yfj (js.map .inl) (vs.map PV.int) (.inl i)).map fun x=>(i,x)
theorem yCh {js vs:List Int}(d:ID js vs):yrJ (js.zip (vs.map PV.int))=iv16.filterMap (pk js vs):=by
 have hl:(vs.map PV.int).length=js.length:=by simp [d.ln]
 have hk:(js.zip (vs.map PV.int)).map (·.1)=js:=map_fst_zip (by omega)
 refine ymF ?_ ?_ fun a=>?_
 .have h1:=ynD (js.zip (vs.map PV.int))
  have h2:((yrJ (js.zip (vs.map PV.int))).map (·.1)).Nodup:=by
   have:=((ydH (js.zip (vs.map PV.int))).map (·.1))
   rw [hk] at this
   exact this.nodup_iff.mpr d.nd
  exact (h1.and (List.pairwise_map.mp h2)).imp fun ⟨a,b⟩=>by omega
 .refine List.Pairwise.filterMap (R:=fun a b=>a<b) (pk js vs) (fun a a' hlt b hb b' hb'=>?_) (by decide)
  unfold pk at hb hb'
  obtain ⟨x,_,rfl⟩:=Option.map_eq_some_iff.mp hb
  obtain ⟨x',_,rfl⟩:=Option.map_eq_some_iff.mp hb'
  exact hlt
 .obtain ⟨j,x⟩:=a
  rw [(ydH _).mem_iff,ykV d.nd hl,List.mem_filterMap]
  constructor
  .intro e
   have hj:j∈js:=(of_mem_zip ((ykV d.nd hl).mpr e)).1
   obtain ⟨r1,r2⟩:=d.rg j hj
   refine ⟨j,?_,by unfold pk;rw [e];rfl⟩
   unfold iv16
   exact List.mem_map.mpr ⟨j.toNat,List.mem_range.mpr (by omega),by omega⟩
  .rintro ⟨i,_,e⟩
   unfold pk at e
   obtain ⟨y,e1,e2⟩:=Option.map_eq_some_iff.mp e
   cases e2
   exact e1
def ywR (js vs:List Int):List PV:=(iv16.filterMap (pk js vs)).map fun p=>.tup [.int p.1,p.2]
theorem yyB {js vs:List Int}(d:ID js vs) (h64:js.length<64):sortI (js.map .inl) (vs.map PV.int)=some (ywR js vs):=by
 unfold sortI
 rw [yow]
 dsimp only
 rw [if_pos h64,yCh d]
 rfl
theorem yFh {ks:List Key}{j:Key}:∀ {vs:List Int}{x:PV},yfj ks (vs.map PV.int) j=some x->∃ v,x=.int v:=by
 induction ks with
 | nil=>intro vs x e;cases vs<;>cases e
 | cons k ks ih =>
  intro vs x e
  cases vs with
  | nil=>cases e
  | cons v vs =>
   have e:(if k=j then some (PV.int v) else yfj ks (vs.map PV.int) j)=some x:=e
   split at e
   .cases e;exact ⟨v,rfl⟩
   .exact ih e
inductive T where
 | let_ (r:Str) (n:Int)
 | reckon (w r s t:Str)
 | take (r s:Str)
 | put (s t:Str)
 | if_ (r:Str) (a b:List T)
 | either (a b:List T)
 | try_ (a:List T) (nm r:Str) (b:List T)
 | throw (nm r:Str)
 | wait
mutual
noncomputable def ykW:T->Nat
 | .if_ _ a b=>1+max (ybs a) (ybs b)
 | .either a b=>1+max (ybs a) (ybs b)
 | .try_ a _ _ b=>1+max (ybs a) (ybs b)
 | _=>0
noncomputable def ybs:List T->Nat
 | []=>0
 | t::r=>max (ykW t) (ybs r)
end
mutual
noncomputable def ybw:T->PV
 | .let_ r n=>.ins 3 ["slot","number"] [.str r,.int n]
 | .reckon w r s t=>.ins 4 ["word","slot","one","other"] [.str w,.str r,.str s,.str t]
 | .take r s=>.ins 5 ["slot","place"] [.str r,.str s]
 | .put s t=>.ins 6 ["place","slot"] [.str s,.str t]
 | .if_ r a b=>.ins 7 ["slot","parts","others"] [.str r,.lst (yE a),.lst (yE b)]
 | .either a b=>.ins 8 ["parts","others"] [.lst (yE a),.lst (yE b)]
 | .try_ a nm r b=>.ins 9 ["parts","name","slot","others"] [.lst (yE a),.str nm,.str r,.lst (yE b)]
 | .throw nm r=>.ins 10 ["name","slot"] [.str nm,.str r]
 | .wait=>.ins 11 [] []
noncomputable def yE:List T->List PV
 | []=>[]
 | t::r=>ybw t::yE r
end
theorem yiY:∀ ts:List T,yE ts=ts.map ybw
 | []=>rfl
 | t::r=>by show ybw t::yE r=_;rw [yiY r];rfl
def SL:List Str:=["a","b","c","d","e","f","g","h"]
def okS (r:Str):Prop:=r∈SL
def sx (r:Str):Nat:=SL.idxOf r
def WDS:List Str:=["plus","minus","times","less","same"]
def okW (w:Str):Prop:=w∈WDS
def N64 (v:Int):Prop:=0<=v/\v<18446744073709551616
mutual
noncomputable def okT:T->Prop
 | .let_ r n=>okS r/\N64 n
 | .reckon w r s t=>okW w/\okS r/\okS s/\okS t
 | .take r s=>okS r/\okS s
 | .put s t=>okS s/\okS t
 | .if_ r a b=>okS r/\okL a/\okL b
 | .either a b=>yNz/\okL a/\okL b
 | .try_ a _ r b=>yGC/\okS r/\okL a/\okL b
 | .throw _ r=>yGC/\okS r
 | .wait=>True
noncomputable def okL:List T->Prop
 | []=>True
 | t::r=>okT t/\okL r
end
theorem yFi {r:Str}(h:okS r):sx r<8:=List.idxOf_lt_length_of_mem h
inductive En where|done|waits|fell (nm:Str) (v:Int)
def enV:En->PV
 | .done=>.tup [.str "done"]
 | .waits=>.tup [.str "waits"]
 | .fell nm v=>.tup [.str "fell",.str nm,.int v]
abbrev Vw:=Int->Option Int
def upV (f:Vw) (j v:Int):Vw:=fun i=>if i=j then some v else f i
structure AS where
 hs:List Int
 v:Vw
 s:Vw
noncomputable def rk (w:Str) (a b:Int):Int :=
 if w = "plus" then (a+b)%18446744073709551616 else if w = "minus" then (a-b)%18446744073709551616 else if w = "times" then a*b%18446744073709551616 else if w = "less" then (if a<b then 1 else 0) else if a=b then 1 else 0
def AS.at_ (σ:AS) (r:Str):Int:=σ.hs.getD (sx r) 0
def AS.put_ (σ:AS) (r:Str) (v:Int):AS:=⟨σ.hs.set (sx r) v,σ.v,σ.s⟩
def AS.box (σ:AS) (bx:List Int) (r:Str):Int:=σ.at_ r%bx.length
noncomputable def tkV (bx:List Int) (σ:AS) (r:Str) (j:Int):Option Int->AS
 | some v=>σ.put_ r v
 | none=>(⟨σ.hs,σ.v,upV σ.s j (bx.getD j.toNat 0)⟩:AS).put_ r (bx.getD j.toNat 0)
def evP (bx:List Int):T->AS->AS
 | .let_ r n,σ=>σ.put_ r n
 | .reckon w r s t,σ=>σ.put_ r (rk w (σ.at_ s) (σ.at_ t))
 | .take r s,σ=>tkV bx σ r (σ.box bx s) (σ.v (σ.box bx s))
 | .put s t,σ=>⟨σ.hs,upV σ.v (σ.box bx s) (σ.at_ t),σ.s⟩
 | _,σ=>σ
mutual
noncomputable def evT (bx:List Int):T->AS->En×AS
 | .if_ r a b,σ=>if σ.at_ r≠0 then evL bx a σ else evL bx b σ
 | .either a b,σ=>(match evL bx a σ with
  | (.waits,τ)=>evL bx b ⟨σ.hs,σ.v,τ.s⟩
  | (.fell nm v,τ)=>(.fell nm v,⟨σ.hs,σ.v,τ.s⟩)
  | (.done,τ)=>(.done,τ))
 | .try_ a nm r b,σ=>(match evL bx a σ with
  | (.fell m v,τ)=>if m=nm then evL bx b ((⟨σ.hs,σ.v,τ.s⟩:AS).put_ r v) else (.fell m v,⟨σ.hs,σ.v,τ.s⟩)
  | (.waits,τ)=>(.waits,⟨σ.hs,σ.v,τ.s⟩)
  | (.done,τ)=>(.done,τ))
 | .throw nm r,σ=>(.fell nm (σ.at_ r),σ)
 | .wait,σ=>(.waits,σ)
 | .let_ r n,σ=>(.done,evP bx (.let_ r n) σ)
 | .reckon w r s t,σ=>(.done,evP bx (.reckon w r s t) σ)
 | .take r s,σ=>(.done,evP bx (.take r s) σ)
 | .put s t,σ=>(.done,evP bx (.put s t) σ)
noncomputable def evL (bx:List Int):List T->AS->En×AS
 | [],σ=>(.done,σ)
 | t::r,σ=>(match evT bx t σ with
  | (.done,τ)=>evL bx r τ
  | (.waits,τ)=>(.waits,τ)
  | (.fell nm v,τ)=>(.fell nm v,τ))
end
def gI (d:List Key×List PV) (j:Int):Option Int:=match yfj d.1 d.2 (.inl j) with|some (.int v)=>some v|_=>none
def orV:Option Int->Option Int->Option Int
 | some v,_=>some v
 | none,b=>b
noncomputable def vwN (ds:List (List Key×List PV)) (j:Int):Nat->Option Int
 | 0=>none
 | k+1=>match ds[k]? with|some d=>orV (gI d j) (vwN ds j k)|none=>none
def ofO:Option Int->PV|none=>.non|some v=>.int v
section
variable {h h':AH}
theorem yeT {i:Nat}{d:Nd}(e:h[i]?=some d):i<h.length:=(List.getElem?_eq_some_iff.mp e).1
theorem ydK {i:Nat}{d x:Nd}(e:h[i]?=some d):(h++[x])[i]?=some d:=by rw [getElem?_append_left (yeT e)];exact e
theorem yF {i t:Nat}{d x:Nd}(hi:i≠t) (e:h[i]?=some d):(h.set t x)[i]?=some d:=(getElem?_set_ne (Ne.symm hi)).trans e
theorem set_same {t:Nat}{d x:Nd}(e:h[t]?=some d):(h.set t x)[t]?=some x:=getElem?_set_self (yeT e)
theorem Stk.lt:∀ {ls:List Nat}{ds:List (List Key×List PV)},Stk h ls ds->∀ l∈ls,l<h.length
 | _::_,_::_,s,l,hl=>by
  rcases mem_cons.mp hl with rfl|hl
  .exact yeT s.1
  .exact Stk.lt s.2 l hl
 | [],_,_,l,hl=>by simp at hl
 | _::_,[],s,_,_=>s.elim
def Frm (X:Nat->Prop) (h h':AH):Prop:=h.length<=h'.length/\∀ n,n<h.length->X n->h'[n]?=h[n]?
theorem Frm.refl {X:Nat->Prop}:Frm X h h:=⟨Nat.le_refl _,fun _ _ _=>rfl⟩
theorem Frm.trans {X:Nat->Prop}{h1 h2:AH}(a:Frm X h h1) (b:Frm X h1 h2):Frm X h h2:=⟨Nat.le_trans a.1 b.1,fun n hn hx=>(b.2 n (lt_of_lt_of_le hn a.1) hx).trans (a.2 n hn hx)⟩
theorem Frm.set {X:Nat->Prop}{t:Nat}{x:Nd}(a:Frm X h h') (ht:¬ X t):Frm X h (h'.set t x):=⟨by rw [length_set];exact a.1,fun n hn hx=>(getElem?_set_ne (fun (z:t=n)=>ht (by rw [z];exact hx))).trans (a.2 n hn hx)⟩
theorem Frm.app {X:Nat->Prop}{x:Nd}(a:Frm X h h'):Frm X h (h'++[x]):=by
 refine ⟨by rw [length_append];exact Nat.le_trans a.1 (le_add_right _ _),fun n hn hx=>?_⟩
 rw [getElem?_append_left (by have:=a.1;omega),a.2 n hn hx]
theorem Frm.imp {X Y:Nat->Prop}(a:Frm X h h') (k:∀ n,Y n->X n):Frm Y h h':=⟨a.1,fun n hn hy=>a.2 n hn (k n hy)⟩
theorem Frm.get {X:Nat->Prop}{n:Nat}{d:Nd}(a:Frm X h h') (hx:X n) (e:h[n]?=some d):h'[n]?=some d:=(a.2 n (yeT e) hx).trans e
def isID (d:List Key×List PV):Prop:=∃ js vs,d=(js.map .inl,vs.map .int)/\ID js vs
theorem ID.le {js vs:List Int}(d:ID js vs):js.length<=16:=by
 have:js.length<=iv16.length:=List.Nodup.length_le_of_subset d.nd fun j hj=>by
  obtain ⟨r1,r2⟩:=d.rg j hj
  unfold iv16
  exact List.mem_map.mpr ⟨j.toNat,List.mem_range.mpr (by omega),by omega⟩
 exact this
theorem isID.put {d:List Key×List PV}(hd:isID d) {j v:Int}(hj:0<=j/\j<16):isID (yct d.1 d.2 (.inl j) (.int v)):=by
 obtain ⟨js,vs,rfl,d⟩:=hd
 obtain ⟨js',vs',e,d',_⟩:=d.put (v:=v) hj
 exact ⟨js',vs',e,d'⟩
theorem isID.mrg:∀ (js us:List Int) {d:List Key×List PV},isID d->(∀ j∈js,0<=j/\j<16)->isID (ytW (js.map .inl) (us.map PV.int) d.1 d.2)
 | [],us,d,hd,_=>by
  have:ytW (([]:List Int).map .inl) (us.map PV.int) d.1 d.2=d:=by cases us<;>rfl
  rw [this];exact hd
 | j::js,[],d,hd,_=>by
  have:ytW ((j::js).map .inl) (([]:List Int).map PV.int) d.1 d.2=d:=rfl
  rw [this];exact hd
 | j::js,u::us,d,hd,hr=>isID.mrg js us (hd.put (v:=u) (hr j mem_cons_self)) fun i hi=>hr i (mem_cons_of_mem _ hi)
theorem isID.len {d:List Key×List PV}(hd:isID d):d.1.length<=16:=by
 obtain ⟨js,vs,rfl,d⟩:=hd
 show (js.map _).length<=16
 rw [length_map];exact d.le
theorem isID.nil:isID ([],[]):=⟨[],[],rfl,by simp,by simp,rfl⟩
theorem yFj {ks:List Key}{xs:List PV}{k j:Key}{x:PV}(hl:xs.length=ks.length):yfj (yct ks xs k x).1 (yct ks xs k x).2 j=if k=j then some x else yfj ks xs j:=by
 unfold yct
 have app:∀ (ks:List Key) (xs:List PV),xs.length=ks.length->ynB ks k=false->yfj (ks++[k]) (xs++[x]) j=if k=j then some x else yfj ks xs j:=by
  intro ks
  induction ks with
  | nil=>intro xs hl _;have:xs=[]:=(by simpa using hl);subst this;show (if k=j then some x else none)=_;split<;>rfl
  | cons i ks ih =>
   intro xs hl hh
   cases xs with
   | nil=>simp at hl
   | cons y xs =>
    have hh:(if i=k then true else ynB ks k)=false:=hh
    have hik:¬ i=k:=fun z=>by rw [if_pos z] at hh;cases hh
    rw [if_neg hik] at hh
    show (if i=j then some y else yfj (ks++[k]) (xs++[x]) j)=if k=j then some x else if i=j then some y else yfj ks xs j
    rw [ih xs (by simpa using hl) hh]
    by_cases h1:i=j
    .rw [if_pos h1,if_neg fun z=>hik (h1.trans z.symm),if_pos h1]
    .rw [if_neg h1,if_neg h1]
 have st:∀ (ks:List Key) (xs:List PV),xs.length=ks.length->ynB ks k=true->yfj ks (setK ks xs k x) j=if k=j then some x else yfj ks xs j:=by
  intro ks
  induction ks with
  | nil=>intro xs hl hh;cases hh
  | cons i ks ih =>
   intro xs hl hh
   cases xs with
   | nil=>simp at hl
   | cons y xs =>
    by_cases hik:i=k
    .subst hik
     have e:setK (i::ks) (y::xs) i x=x::setK ks xs i x:=if_pos rfl
     rw [e]
     show (if i=j then some x else yfj ks (setK ks xs i x) j)=if i=j then some x else if i=j then some y else yfj ks xs j
     by_cases h1:i=j
     .rw [if_pos h1,if_pos h1]
     .rw [if_neg h1,if_neg h1,if_neg h1]
      by_cases h2:ynB ks i=true
      .rw [ih xs (by simpa using hl) h2,if_neg h1]
      .have:∀ (ks:List Key) (xs:List PV),ynB ks i=false->setK ks xs i x=xs:=by
        intro ks
        induction ks with
        | nil=>intro xs _;cases xs<;>rfl
        | cons a ks ih2 =>
         intro xs hh
         have hh:(if a=i then true else ynB ks i)=false:=hh
         have hai:¬ a=i:=fun z=>by rw [if_pos z] at hh;cases hh
         rw [if_neg hai] at hh
         cases xs with
         | nil=>rfl
         | cons b xs =>
          show (if a=i then x::setK ks xs i x else b::setK ks xs i x)=_
          rw [if_neg hai,ih2 xs hh]
       rw [this ks xs (by simpa using h2)]
    .have hh:(if i=k then true else ynB ks k)=true:=hh
     rw [if_neg hik] at hh
     have e:setK (i::ks) (y::xs) k x=y::setK ks xs k x:=if_neg hik
     rw [e]
     show (if i=j then some y else yfj ks (setK ks xs k x) j)=if k=j then some x else if i=j then some y else yfj ks xs j
     rw [ih xs (by simpa using hl) hh]
     by_cases h1:i=j
     .rw [if_pos h1,if_neg fun z=>hik (h1.trans z.symm),if_pos h1]
     .rw [if_neg h1,if_neg h1]
 by_cases hh:ynB ks k=true
 .rw [if_pos hh];exact st ks xs hl hh
 .rw [if_neg hh];exact app ks xs hl (by simpa using hh)
theorem isID.ln {d:List Key×List PV}(hd:isID d):d.2.length=d.1.length:=by
 obtain ⟨js,vs,rfl,d⟩:=hd
 simp [d.ln]
theorem isID.get {d:List Key×List PV}(hd:isID d) (j:Int):yfj d.1 d.2 (.inl j)=(gI d j).map .int:=by
 obtain ⟨js,vs,rfl,_⟩:=hd
 unfold gI
 cases e:yfj (js.map .inl) (vs.map PV.int) (.inl j) with
 | none=>rfl
 | some x=>obtain ⟨v,rfl⟩:=yFh e;rfl
theorem yuk {d:List Key×List PV}(hd:isID d) {k j v:Int}:gI (yct d.1 d.2 (.inl k) (.int v)) j=if j=k then some v else gI d j:=by
 unfold gI
 rw [yFj hd.ln]
 by_cases h:j=k
 .subst h;rw [if_pos rfl,if_pos rfl]
 .rw [if_neg fun z=>h (by cases z;rfl),if_neg h]
theorem yLs {j:Int}:gI ([],[]) j=none:=rfl
theorem yGE:∀ (js us:List Int) {d:List Key×List PV},isID d->(∀ j∈js,0<=j/\j<16)->js.Nodup->us.length=js.length->∀ j,gI (ytW (js.map .inl) (us.map PV.int) d.1 d.2) j=orV (gI (js.map .inl,us.map PV.int) j) (gI d j)
 | [],us,d,hd,_,_,hl,j=>by
  have:us=[]:=by simpa using hl
  subst this
  rfl
 | i::js,[],d,hd,_,_,hl,j=>by simp at hl
 | i::js,u::us,d,hd,hr,hn,hl,j=>by
  obtain ⟨n1,n2⟩:=List.nodup_cons.mp hn
  have ih:=yGE js us (hd.put (v:=u) (hr i mem_cons_self)) (fun i hi=>hr i (mem_cons_of_mem _ hi)) n2 (by simpa using hl) j
  show gI (ytW (js.map .inl) (us.map PV.int) (yct d.1 d.2 (.inl i) (.int u)).1 (yct d.1 d.2 (.inl i) (.int u)).2) j=_
  rw [ih,yuk hd]
  have e:gI ((i::js).map .inl,(u::us).map PV.int) j=if j=i then some u else gI (js.map .inl,us.map PV.int) j:=by
   unfold gI
   show (match (if (Sum.inl i:Key)=.inl j then some (PV.int u) else yfj (js.map .inl) (us.map PV.int) (.inl j)) with|some (.int v)=>some v|_=>none)=_
   by_cases h:j=i
   .subst h;rw [if_pos rfl,if_pos rfl]
   .rw [if_neg fun z=>h (by cases z;rfl),if_neg h]
  rw [e]
  by_cases h:j=i
  .subst h
   rw [if_pos rfl,if_pos rfl]
   have:gI (js.map .inl,us.map PV.int) j=none:=by
    unfold gI
    have:yfj (js.map .inl) (us.map PV.int) (.inl j)=none:=by
     cases e:yfj (js.map .inl) (us.map PV.int) (.inl j) with
     | none=>rfl
     | some x=>exact absurd (of_mem_zip ((ykV n2 (by simpa using hl)).mpr e)).1 n1
    simp only [this]
   rw [this]
   rfl
  .rw [if_neg h,if_neg h]
theorem yCi {ds:List (List Key×List PV)}(hi:∀ d∈ds,isID d) {j:Int}:∀ k,yJs ds (.inl j) k=ofO (vwN ds j k)
 | 0=>rfl
 | k+1=>by
  unfold yJs vwN
  cases e:ds[k]? with
  | none=>rfl
  | some d =>
   have:=(hi d (mem_of_getElem? e)).get j
   simp only [this]
   cases gI d j with
   | none=>exact yCi hi k
   | some v=>rfl
theorem yCj {es fs:List (List Key×List PV)}{j:Int}:∀ k,k<=es.length->vwN (es++fs) j k=vwN es j k
 | 0,_=>rfl
 | k+1,hk=>by
  unfold vwN
  rw [getElem?_append_left (by omega),yCj k (by omega)]
theorem yCk {es:List (List Key×List PV)}{d:List Key×List PV}{j:Int}:vwN (es++[d]) j (es++[d]).length=orV (gI d j) (vwN es j es.length):=by
 rw [length_append]
 show vwN (es++[d]) j (es.length+1)=_
 rw [vwN]
 rw [getElem?_append_right (Nat.le_refl _),sub_self,yCj es.length (Nat.le_refl _)]
 rfl
end
theorem yse:(("minus":Str) = "plus")=False:=by grind
theorem ysf:(("plus":Str) = "minus")=False:=by grind
theorem ysg:(("times":Str) = "plus")=False:=by grind
theorem ysh:(("plus":Str) = "times")=False:=by grind
theorem yql:(("times":Str) = "minus")=False:=by grind
theorem yqm:(("minus":Str) = "times")=False:=by grind
theorem yul:(("less":Str) = "plus")=False:=by grind
theorem yum:(("plus":Str) = "less")=False:=by grind
theorem ysi:(("less":Str) = "minus")=False:=by grind
theorem ysj:(("minus":Str) = "less")=False:=by grind
theorem ysk:(("less":Str) = "times")=False:=by grind
theorem ysl:(("times":Str) = "less")=False:=by grind
theorem yun:(("same":Str) = "plus")=False:=by grind
theorem yuo:(("plus":Str) = "same")=False:=by grind
theorem ysm:(("same":Str) = "minus")=False:=by grind
theorem ysn:(("minus":Str) = "same")=False:=by grind
theorem yso:(("same":Str) = "times")=False:=by grind
theorem ysp:(("times":Str) = "same")=False:=by grind
theorem yup:(("same":Str) = "less")=False:=by grind
local macro_rules | `(tactic| walk_at "pw")=>`(tactic| simp_all? only [$(sl_ "yse ysf ysg ysh yql yqm yul yum ysi ysj ysk ysl yun yuo ysm ysn yso ysp yup if_true if_false"),*])
section
variable {h:AH}
structure DG (h:AH) (X:Nat->Prop) (d hl o s b:Nat) (l:List Nat) (t:Nat) (es:List (List Key×List PV)) (bx hs:List Int) (top:List Key×List PV) (sj sv:List Int):Prop where
 ob:h[d]?=some (.ins 1 ["held","width","log","found"] [.loc hl,.int bx.length,.loc o,.lst (bx.map .int)])
 hh:h[hl]?=some (.lst (hs.map .int))
 g:LG h o s b (l++[t]) (es++[top]) (sj.map .inl) (sv.map .int)
 st:Stk h l es
 tp:h[t]?=some (.dct top.1 top.2)
 nd:(d::hl::o::s::b::(l++[t])).Nodup
 ge:∀ x∈d::hl::o::s::b::(l++[t]),¬ X x
 idT:isID top
 idE:∀ e∈es,isID e
 idS:ID sj sv
 h8:hs.length=8
 b1:1<=bx.length
 b16:bx.length<=16
 xl:∀ n,X n->n<h.length
variable {X:Nat->Prop}{d hl o s b t:Nat}{l:List Nat}{es:List (List Key×List PV)}{bx hs:List Int}{top:List Key×List PV}{sj sv:List Int}
theorem yyC {u1 u2 u3 u4:PV}(e:h[d]?=some (.ins 1 ["held","width","log","found"] [u1,u2,u3,u4])):yfl [1] "held" (.loc d) h=some (u1,h):=by
 unfold yfl yhE
 simp only [e]
 rw [if_pos (by rfl'),show idxOf ("held":Str) ["held","width","log","found"]=0 by rfl']
 rfl
theorem yIR {u1 u2 u3 u4:PV}(e:h[d]?=some (.ins 1 ["held","width","log","found"] [u1,u2,u3,u4])):yfl [1] "width" (.loc d) h=some (u2,h):=by
 unfold yfl yhE
 simp only [e]
 rw [if_pos (by rfl'),show idxOf ("width":Str) ["held","width","log","found"]=1 by rfl']
 rfl
theorem yqn {u1 u2 u3 u4:PV}(e:h[d]?=some (.ins 1 ["held","width","log","found"] [u1,u2,u3,u4])):yfl [1] "log" (.loc d) h=some (u3,h):=by
 unfold yfl yhE
 simp only [e]
 rw [if_pos (by rfl'),show idxOf ("log":Str) ["held","width","log","found"]=2 by rfl']
 rfl
theorem yIS {u1 u2 u3 u4:PV}(e:h[d]?=some (.ins 1 ["held","width","log","found"] [u1,u2,u3,u4])):yfl [1] "found" (.loc d) h=some (u4,h):=by
 unfold yfl yhE
 simp only [e]
 rw [if_pos (by rfl'),show idxOf ("found":Str) ["held","width","log","found"]=3 by rfl']
 rfl
theorem yho {u1 u2 u3 u4:PV}{m:Str}{f:Fn}{ys:List PV}{a:XE}{aa:XA}{ρ:PSt}{h0 h2:AH}(e:h[d]?=some (.ins 1 ["held","width","log","found"] [u1,u2,u3,u4])) (ea:a ρ h0=some (.loc d,h)) (hm:m∉(["held","width","log","found"]:List Str)) (eb:aa ρ h=some (ys,h2)):yK 1 m f a aa ρ h0=f (.loc d::ys) h2:=by
 unfold yK yhE
 rw [ea,yB]
 simp only [e]
 rw [if_pos ⟨trivial,hm⟩,eb,yB]
theorem yIT {r:Str}(hr:okS r):ynX (.str "abcdefgh") [.str r] h=some (.int (sx r),h):=by
 unfold okS SL at hr
 simp only [mem_cons,not_mem_nil,or_false] at hr
 rcases hr with rfl|rfl|rfl|rfl|rfl|rfl|rfl|rfl<;>(unfold ynX;simp only [];rfl)
theorem ykX {r:Str}(hr:okS r):yee [.str r] h=some (.int (sx r),h):=by
 unfold yee
 rw [yC]
 show ob (ybg _ [.val (.str r)] h) fnK=_
 ac_rfl
 rw [yIT hr,yB]
theorem yCl {n:Nat}{xs:List Int}{i:Nat}(e:h[n]?=some (.lst (xs.map .int))) (hi:i<xs.length):ydk (.loc n) (.int i) h=some (.int (xs.getD i 0),h):=by
 unfold ydk
 simp only [e]
 have:(xs.map PV.int)[i]?=some (.int (xs.getD i 0)):=by
  rw [getElem?_map,List.getElem?_eq_getElem hi,getD_eq_getElem?_getD,List.getElem?_eq_getElem hi];rfl
 rw [ycb this]
theorem DG.nx (D:DG h X d hl o s b l t es bx hs top sj sv):d≠hl/\d≠o/\d≠s/\d≠b/\d∉l++[t]/\hl≠o/\hl≠s/\hl≠b/\hl∉l++[t]/\o≠s/\o≠b/\o∉l++[t]/\s≠b/\s∉l++[t]/\b∉l++[t]/\(l++[t]).Nodup:=by
 obtain ⟨n1,r⟩:=List.nodup_cons.mp D.nd
 obtain ⟨n2,r⟩:=List.nodup_cons.mp r
 obtain ⟨n3,r⟩:=List.nodup_cons.mp r
 obtain ⟨n4,r⟩:=List.nodup_cons.mp r
 obtain ⟨n5,r⟩:=List.nodup_cons.mp r
 simp only [mem_cons,not_or] at n1 n2 n3 n4 n5
 exact ⟨n1.1,n1.2.1,n1.2.2.1,n1.2.2.2.1,n1.2.2.2.2,n2.1,n2.2.1,n2.2.2.1,n2.2.2.2,n3.1,n3.2.1,n3.2.2,n4.1,n4.2,n5,r⟩
theorem ydL {r:Str}(D:DG h X d hl o s b l t es bx hs top sj sv) (hr:okS r):ybu [.loc d,.str r] h=some (.int (hs.getD (sx r) 0),h):=by
 unfold ybu
 rw [yC]
 show ob (ybg _ [.val (.loc d),.val (.str r)] h) fnK=_
 ac_rfl
 rw [yyC D.ob,yB,ykX hr,yB,yCl D.hh (by rw [D.h8];exact yFi hr),yB]
theorem yox {r:Str}{v:Int}(D:DG h X d hl o s b l t es bx hs top sj sv) (hr:okS r):ycu [.loc d,.str r,.int v] h=some (.non,h.set hl (.lst ((hs.set (sx r) v).map .int))):=by
 unfold ycu
 rw [yC]
 show ob (ytS _ _ _ [.val (.loc d),.val (.str r),.val (.int v)] h) fnK=_
 unfold ytS
 show ob (ob (some (PV.int v,h)) _) _=_
 rw [yB]
 ac_rfl
 rw [yyC D.ob,yB,ykX hr,yB]
 have hi:sx r<hs.length:=by rw [D.h8];exact yFi hr
 have e:ixN (hs.map PV.int).length (sx r:Nat)=some (sx r):=by
  unfold ixN
  simp [hi]
 simp only [D.hh,e]
 rw [yB,map_set]
 rfl
theorem ykY {r:Str}(D:DG h X d hl o s b l t es bx hs top sj sv) (hr:okS r):ych [.loc d,.str r] h=some (.int (hs.getD (sx r) 0%bx.length),h):=by
 unfold ych
 rw [yC]
 show ob (ybg _ [.val (.loc d),.val (.str r)] h) fnK=_
 ac_rfl
 rw [yho D.ob rfl (by rfl') rfl,ydL D hr,yB,yIR D.ob,yB]
 have:=D.b1
 ac_rfl
 rw [if_pos (by omega)]
theorem yNH {w:Str}{x y:Int}(hw:okW w) (hx:N64 x):ynE [.str w,.int x,.int y] h=some (.int (rk w x y),h):=by
 have hm:MulOk x y:=.inl ⟨by have:=hx.1;omega,hx.2⟩
 unfold ynE
 rw [yC]
 show ob (yw _ _ [.val (.str w),.val (.int x),.val (.int y)] h) fnK=_
 unfold okW WDS at hw
 simp only [mem_cons,not_mem_nil,or_false] at hw
 unfold rk
 rcases hw with rfl|rfl|rfl|rfl|rfl
 .walk_at "pw"
 .walk_at "pw"
 .walk_at "pw"
  rw [if_pos hm]
 .walk_at "pw"
  split<;>rfl
 .walk_at "pw"
  split<;>rfl
theorem yuq {w r p q:Str}(D:DG h X d hl o s b l t es bx hs top sj sv) (hw:okW w) (hr:okS r) (hp:okS p) (hq:okS q) (hN:∀ v∈hs,N64 v):ycM [.loc d,.str w,.str r,.str p,.str q] h=some (.non,h.set hl (.lst ((hs.set (sx r) (rk w (hs.getD (sx p) 0) (hs.getD (sx q) 0))).map .int))):=by
 have hi:sx p<hs.length:=by rw [D.h8];exact yFi hp
 have hv:N64 (hs.getD (sx p) 0):=hN _ (by rw [getD_eq_getElem?_getD,List.getElem?_eq_getElem hi];exact getElem_mem hi)
 unfold ycM
 rw [yC]
 show ob (ydi _ [.val (.loc d),.val (.str w),.val (.str r),.val (.str p),.val (.str q)] h) fnK=_
 rw [ynY,yho (h2:=h) (ys:=[.str r,.int (rk w (hs.getD (sx p) 0) (hs.getD (sx q) 0))]) D.ob rfl (by rfl') (by
  ac_rfl
  rw [yho D.ob rfl (by rfl') rfl,ydL D hp,yB,yho D.ob rfl (by rfl') rfl,ydL D hq,yB,yNH hw hv]
  ac_rfl),yox D hr,yB,yB]
 rfl
theorem yCm {p q:Str}(D:DG h X d hl o s b l t es bx hs top sj sv) (hp:okS p) (hq:okS q):yeG [.loc d,.str p,.str q] h=some (.non,h.set t (.dct (yct top.1 top.2 (.inl (hs.getD (sx p) 0%bx.length)) (.int (hs.getD (sx q) 0))).1 (yct top.1 top.2 (.inl (hs.getD (sx p) 0%bx.length)) (.int (hs.getD (sx q) 0))).2)):=by
 unfold yeG
 rw [yC]
 show ob (ydi _ [.val (.loc d),.val (.str p),.val (.str q)] h) fnK=_
 have hl':=D.idT.len
 rw [ynY,yfI (h:=h) (h2:=h) (ys:=[.int (hs.getD (sx p) 0%bx.length),.int (hs.getD (sx q) 0)]) D.g.ob (by
  ac_rfl
  rw [yqn D.ob]) (by rfl') (by
  ac_rfl
  rw [yho D.ob rfl (by rfl') rfl,ykY D hp,yB,yho D.ob rfl (by rfl') rfl,ydL D hq,yB]),yFf D.g D.tp (by omega),yB,yB]
 rfl
theorem yGF {p:Str}(D:DG h X d hl o s b l t es bx hs top sj sv) (j:Int):ygi [.loc o,.int j] h=some (ofO (orV (gI top j) (vwN es j es.length)),h):=by
 rw [yLq D.g,yCi (fun e he=>by
  rcases List.mem_append.mp he with he|he
  .exact D.idE e he
  .rw [List.mem_singleton.mp he];exact D.idT),show (l++[t]).length=(es++[top]).length by rw [length_append,length_append,D.st.len];rfl,yCk]
theorem yzu {p:Str}(D:DG h X d hl o s b l t es bx hs top sj sv) (hp:okS p):ydX [.loc d,.str p] h=some (.bl (isN (ofO (orV (gI top (hs.getD (sx p) 0%bx.length)) (vwN es (hs.getD (sx p) 0%bx.length) es.length)))),h):=by
 unfold ydX
 rw [yC]
 show ob (ybg _ [.val (.loc d),.val (.str p)] h) fnK=_
 ac_rfl
 rw [yfI (h:=h) (h2:=h) (ys:=[.int (hs.getD (sx p) 0%bx.length)]) D.g.ob (by
  ac_rfl
  rw [yqn D.ob]) (by rfl') (by
  ac_rfl
  rw [yho D.ob rfl (by rfl') rfl,ykY D hp,yB]),yGF (p:=p) D]
 ac_rfl
theorem ywS {r p:Str}{v:Int}(D:DG h X d hl o s b l t es bx hs top sj sv) (hr:okS r) (hp:okS p) (hv:(orV (gI top (hs.getD (sx p) 0%bx.length)) (vwN es (hs.getD (sx p) 0%bx.length) es.length))=some v):ydp [.loc d,.str r,.str p] h=some (.non,h.set hl (.lst ((hs.set (sx r) v).map .int))):=by
 unfold ydp
 rw [yC]
 show ob (ydi _ [.val (.loc d),.val (.str r),.val (.str p)] h) fnK=_
 rw [ynY,yho (h2:=h) (ys:=[.str r,.int v]) D.ob rfl (by rfl') (by
  ac_rfl
  rw [yfI (h:=h) (h2:=h) (ys:=[.int (hs.getD (sx p) 0%bx.length)]) D.g.ob (by
   ac_rfl
   rw [yqn D.ob]) (by rfl') (by
   ac_rfl
   rw [yho D.ob rfl (by rfl') rfl,ykY D hp,yB]),yGF (p:=p) D,hv]
  ac_rfl
  rfl),yox D hr,yB,yB]
 rfl
end
section
variable {h:AH}{X:Nat->Prop}{d hl o s b t:Nat}{l:List Nat}{es:List (List Key×List PV)}{bx hs:List Int}{top:List Key×List PV}{sj sv:List Int}
theorem DG.hold {hs':List Int}(D:DG h X d hl o s b l t es bx hs top sj sv) (h8:hs'.length=8):DG (h.set hl (.lst (hs'.map .int))) X d hl o s b l t es bx hs' top sj sv:=by
 obtain ⟨n1,n2,n3,n4,n5,n6,n7,n8,n9,n10,n11,n12,n13,n14,n15,n16⟩:=D.nx
 have ne:∀ x∈l++[t],x≠hl:=fun x hx z=>n9 (z ▸ hx)
 exact { D with
  ob:=yF n1 D.ob
  hh:=set_same D.hh
  g:=⟨yF (Ne.symm n6) D.g.ob,yF (Ne.symm n7) D.g.st,yF (Ne.symm n8) D.g.sn,D.g.dl.mono fun x hx d e=>yF (ne x hx) e⟩
  st:=D.st.mono fun x hx d e=>yF (ne x (mem_append_left _ hx)) e
  tp:=yF (ne t (by simp)) D.tp
  h8:=h8
  xl:=fun n hn=>by rw [length_set];exact D.xl n hn }
theorem DG.write {top':List Key×List PV}(D:DG h X d hl o s b l t es bx hs top sj sv) (hi:isID top'):DG (h.set t (.dct top'.1 top'.2)) X d hl o s b l t es bx hs top' sj sv:=by
 obtain ⟨n1,n2,n3,n4,n5,n6,n7,n8,n9,n10,n11,n12,n13,n14,n15,n16⟩:=D.nx
 have m:t∈l++[t]:=by simp
 have ne:∀ x∈l,x≠t:=fun x hx=>(List.nodup_append.mp n16).2.2 x hx t (by simp)
 have st':Stk (h.set t (.dct top'.1 top'.2)) l es:=D.st.mono fun x hx d e=>yF (ne x hx) e
 exact { D with
  ob:=yF (fun z=>n5 (z ▸ m)) D.ob
  hh:=yF (fun z=>n9 (z ▸ m)) D.hh
  g:=⟨yF (fun z=>n12 (z ▸ m)) D.g.ob,yF (fun z=>n14 (z ▸ m)) D.g.st,yF (fun z=>n15 (z ▸ m)) D.g.sn,st'.app ⟨set_same D.tp,trivial⟩⟩
  st:=st'
  tp:=set_same D.tp
  idT:=hi
  xl:=fun n hn=>by rw [length_set];exact D.xl n hn }
theorem DG.see {sj' sv':List Int}(D:DG h X d hl o s b l t es bx hs top sj sv) (hi:ID sj' sv'):DG (h.set b (.dct (sj'.map .inl) (sv'.map .int))) X d hl o s b l t es bx hs top sj' sv':=by
 obtain ⟨n1,n2,n3,n4,n5,n6,n7,n8,n9,n10,n11,n12,n13,n14,n15,n16⟩:=D.nx
 have ne:∀ x∈l++[t],x≠b:=fun x hx z=>n15 (z ▸ hx)
 exact { D with
  ob:=yF n4 D.ob
  hh:=yF n8 D.hh
  g:=⟨yF n11 D.g.ob,yF n13 D.g.st,set_same D.g.sn,D.g.dl.mono fun x hx d e=>yF (ne x hx) e⟩
  st:=D.st.mono fun x hx d e=>yF (ne x (mem_append_left _ hx)) e
  tp:=yF (ne t (by simp)) D.tp
  idS:=hi
  xl:=fun n hn=>by rw [length_set];exact D.xl n hn }
theorem ixF {i:Int}(h0:0<=i) (h1:i<bx.length):atI (bx.map PV.int) i=some (.int (bx.getD i.toNat 0)):=by
 obtain ⟨n,rfl⟩:=Int.eq_ofNat_of_zero_le h0
 have hi:n<bx.length:=by omega
 have:(bx.map PV.int)[n]?=some (.int (bx.getD n 0)):=by
  rw [getElem?_map,List.getElem?_eq_getElem hi,getD_eq_getElem?_getD,List.getElem?_eq_getElem hi];rfl
 exact ycb this
theorem yur (x:Int) (h1:1<=bx.length) (h16:bx.length<=16):0<=x%bx.length/\x%bx.length<bx.length/\x%bx.length<16:=by
 have a:=Int.emod_nonneg x (b:=(bx.length:Int)) (by omega)
 have c:=Int.emod_lt_of_pos x (b:=(bx.length:Int)) (by omega)
 exact ⟨a,c,by omega⟩
theorem yus {r p:Str}{sj' sv':List Int}(D:DG h X d hl o s b l t es bx hs top sj sv) (hr:okS r) (hp:okS p)
  (hput:yct (sj.map .inl) (sv.map PV.int) (.inl (hs.getD (sx p) 0%bx.length)) (.int (bx.getD (hs.getD (sx p) 0%bx.length).toNat 0))=(sj'.map .inl,sv'.map .int)) (hi:ID sj' sv') :
  ycN [.loc d,.str r,.str p,.lst (bx.map .int)] h=some (.non,(h.set b (.dct (sj'.map .inl) (sv'.map .int))).set hl (.lst ((hs.set (sx r) (bx.getD (hs.getD (sx p) 0%bx.length).toNat 0)).map .int))):=by
 obtain ⟨i1,i2,i3⟩:=yur (bx:=bx) (hs.getD (sx p) 0) D.b1 D.b16
 have sl:=D.idS.le
 unfold ycN
 rw [yC]
 show ob (yw _ _ [.val (.loc d),.val (.str r),.val (.str p),.val (.lst (bx.map .int)),.no] h) fnK=_
 ac_rfl
 rw [yho D.ob rfl (by rfl') rfl,ykY D hp,yB]
 rw [yfI (h:=h) (h2:=h) (ys:=[.int (hs.getD (sx p) 0%bx.length),.int (bx.getD (hs.getD (sx p) 0%bx.length).toNat 0)]) D.g.ob (by
  ac_rfl
  rw [yqn D.ob]) (by rfl') (by
  ac_rfl
  rw [ixF i1 i2]
  rfl),yLr D.g (by rw [length_map];omega),hput,yB]
 have D1:=D.see hi
 rw [yho (h2:=h.set b (.dct (sj'.map .inl) (sv'.map .int))) (ys:=[.str r,.int (bx.getD (hs.getD (sx p) 0%bx.length).toNat 0)]) D1.ob rfl (by rfl') (by
  ac_rfl
  rw [ixF i1 i2]
  rfl),yox D1 hr,yB]
structure PR (h:AH) (X:Nat->Prop) (d o s b:Nat) (l:List Nat) (t:Nat) (es:List (List Key×List PV)) (bx:List Int) (σ:AS):Prop where
 ex:∃ hl top sj sv,DG h X d hl o s b l t es bx σ.hs top sj sv/\(∀ j,orV (gI top j) (vwN es j es.length)=σ.v j)/\∀ j,gI (sj.map .inl,sv.map PV.int) j=σ.s j
 nh:∀ v∈σ.hs,N64 v
 nv:∀ j v,σ.v j=some v->N64 v
 nb:∀ v∈bx,N64 v
theorem yOp {w:Str}{x y:Int}:N64 (rk w x y):=by
 unfold rk N64
 repeat' split
 all_goals omega
theorem yCn {hs:List Int}{i:Nat}{v:Int}(hN:∀ v∈hs,N64 v) (hv:N64 v):∀ u∈hs.set i v,N64 u:=fun u hu=>by
 rcases List.mem_or_eq_of_mem_set hu with z|z
 .exact hN u z
 .rw [z];exact hv
theorem yut {hs:List Int}{i:Nat}(hN:∀ v∈hs,N64 v):N64 (hs.getD i 0):=by
 rw [getD_eq_getElem?_getD]
 cases e:hs[i]? with
 | none=>exact ⟨Int.le_refl _,by decide⟩
 | some v=>exact hN v (mem_of_getElem? e)
end
theorem yNI {i j:Nat}{ns:List Str}{xs:List PV}{h:AH}(h1:3<=i) (h2:i<=11) (h3:3<=j) (h4:j<=11):yfi isaTb [.ins i ns xs,.cls j] h=some (.bl (i == j),h):=by
 have:∀ i∈List.range 12,∀ j∈List.range 12,3<=i->3<=j->((isaTb.find? fun r=>r.1 == i && r.2.1 == j).map (·.2.2))=some (i == j):=by rfl'
 show (match ((isaTb.find? fun r=>r.1 == i && r.2.1 == j).map (·.2.2)) with|some b=>some (PV.bl b,h)|none=>none)=_
 rw [this i (List.mem_range.mpr (by omega)) j (List.mem_range.mpr (by omega)) h1 h3]
local macro_rules | `(tactic| walk_at "pi")=>`(tactic| simp_all? only [yNI,Nat.reduceBEq])
section
variable {h:AH}{β:Type}{k:Out->AH->Option β}{a b s:XS}{ρ:PSt}{z w:Str}{r:List PV}{c0 c1:PVar}{i j:Nat}{ns:List Str}{xs:List PV}
theorem yGG {t:XT}{ρ:PSt}(e:t ρ h=some (false,h)):ybv t a b ρ h=b ρ h:=by unfold ybv;rw [e];rfl
theorem yOP (n:(z=w)=False):yt (xOp (oEq) (xOp (ybe) (yd 2) (xC (.int 0))) (xC (.str w))) (c0::c1::.val (.tup (.str z::r))::ρ) h=some (false,h):=by
 ac_rfl
 simp only [n,decide_false]
theorem ybt (n:(z=w)=False):ybv (yt (xOp (oEq) (xOp (ybe) (yd 2) (xC (.int 0))) (xC (.str w)))) a b (c0::c1::.val (.tup (.str z::r))::ρ) h=b (c0::c1::.val (.tup (.str z::r))::ρ) h:=yGG (yOP n)
theorem ybW (i j:Nat) (e:3<=i/\i<=11/\3<=j/\j<=11/\(i == j)=false:=by decide):ob (yw (ybv (yt (xCB (yfi isaTb) (yb (yd 1) (yb (xC (.cls j)) (yn))))) a yV) s (c0::.val (.ins i ns xs)::ρ) h) k=ob (s (c0::.val (.ins i ns xs)::ρ) h) k:=by
 rw [ykG,yGG]
 .rfl
 .show ob (yfi isaTb [.ins i ns xs,.cls j] h) _=_
  rw [yNI e.1 e.2.1 e.2.2.1 e.2.2.2.1,e.2.2.2.2];rfl
end
section
variable {h:AH}{X:Nat->Prop}{d o s b t:Nat}{l:List Nat}{es:List (List Key×List PV)}{bx:List Int}{σ:AS}
def yuu:T->Prop
 | .let_ ..=>True
 | .reckon ..=>True
 | .take ..=>True
 | .put ..=>True
 | _=>False
theorem yFk {u:T}(hp:yuu u) (hu:okT u) (R:PR h X d o s b l t es bx σ):∃ h',ycr [.loc d,ybw u] h=some (.non,h')/\PR h' X d o s b l t es bx (evP bx u σ)/\Frm X h h':=by
 obtain ⟨⟨hl,top,sj,sv,D,hv,hs⟩,nh,nv,nb⟩:=R
 have gh:¬ X hl:=D.ge hl (by simp)
 have gb:¬ X b:=D.ge b (by simp)
 have gt:¬ X t:=D.ge t (by simp)
 have len8:∀ {i:Nat}{v:Int},(σ.hs.set i v).length=8:=by intro i v;rw [length_set];exact D.h8
 unfold ycr
 cases u with
 | let_ r n =>
  obtain ⟨k1,k2⟩:=hu
  refine ⟨_,?_,⟨⟨hl,top,sj,sv,D.hold (hs':=σ.hs.set (sx r) n) len8,hv,hs⟩,yCn nh k2,nv,nb⟩,Frm.refl.set gh⟩
  rw [yC]
  show ob (yw _ _ [.val (.loc d),.val (.ins 3 ["slot","number"] [.str r,.int n])] h) fnK=_
  walk_at "pi"
  rw [yho (h2:=h) (ys:=[.str r,.int n]) D.ob rfl (by rfl') (by walk_at "pi"),yox D k1,yB]
 | reckon w r p q =>
  obtain ⟨k0,k1,k2,k3⟩:=hu
  refine ⟨_,?_,⟨⟨hl,top,sj,sv,D.hold (hs':=σ.hs.set (sx r) (rk w (σ.hs.getD (sx p) 0) (σ.hs.getD (sx q) 0))) len8,hv,hs⟩,yCn nh yOp,nv,nb⟩,Frm.refl.set gh⟩
  rw [yC]
  show ob (yw _ _ [.val (.loc d),.val (.ins 4 ["word","slot","one","other"] [.str w,.str r,.str p,.str q])] h) fnK=_
  rw [ybW 4 3]
  walk_at "pi"
  rw [yho (h2:=h) (ys:=[.str w,.str r,.str p,.str q]) D.ob rfl (by rfl') (by walk_at "pi"),yuq D k0 k1 k2 k3 nh,yB]
 | take r p =>
  obtain ⟨k1,k2⟩:=hu
  obtain ⟨i1,i2,i3⟩:=yur (bx:=bx) (σ.hs.getD (sx p) 0) D.b1 D.b16
  have hj:=hv (σ.hs.getD (sx p) 0%bx.length)
  have key:∃ h',ycD [.loc d,.ins 5 ["slot","place"] [.str r,.str p]] h=some (.non,h')/\PR h' X d o s b l t es bx (evP bx (.take r p) σ)/\Frm X h h':=by
   unfold ycD
   rw [yC]
   show ∃ h',ob (ybv _ _ _ [.val (.loc d),.val (.ins 5 ["slot","place"] [.str r,.str p])] h) fnK=_/\_
   walk_at "pi"
   rw [yho (h2:=h) (ys:=[.str p]) D.ob rfl (by rfl') (by walk_at "pi"),yzu D k2,yB]
   cases e:orV (gI top (σ.hs.getD (sx p) 0%bx.length)) (vwN es (σ.hs.getD (sx p) 0%bx.length) es.length) with
   | some v =>
    rw [e] at hj
    have ev:evP bx (.take r p) σ=⟨σ.hs.set (sx r) v,σ.v,σ.s⟩:=by
     show tkV bx σ r (σ.hs.getD (sx p) 0%bx.length) (σ.v (σ.hs.getD (sx p) 0%bx.length))=_
     rw [<- hj]
     rfl
    refine ⟨_,?_,by rw [ev];exact ⟨⟨hl,top,sj,sv,D.hold (hs':=σ.hs.set (sx r) v) len8,hv,hs⟩,yCn nh (nv _ _ hj.symm),nv,nb⟩,Frm.refl.set gh⟩
    show ob (oB (.bl false) h) _=_
    walk_at "pi"
    rw [yho (h2:=h) (ys:=[.str r,.str p]) D.ob rfl (by rfl') (by walk_at "pi"),ywS D k1 k2 e,yB]
   | none =>
    rw [e] at hj
    obtain ⟨sj',sv',hput,hi,_⟩:=D.idS.put (v:=bx.getD (σ.hs.getD (sx p) 0%bx.length).toNat 0) ⟨i1,i3⟩
    have ev:evP bx (.take r p) σ=⟨σ.hs.set (sx r) (bx.getD (σ.hs.getD (sx p) 0%bx.length).toNat 0),σ.v,upV σ.s (σ.hs.getD (sx p) 0%bx.length) (bx.getD (σ.hs.getD (sx p) 0%bx.length).toNat 0)⟩:=by
     show tkV bx σ r (σ.hs.getD (sx p) 0%bx.length) (σ.v (σ.hs.getD (sx p) 0%bx.length))=_
     rw [<- hj]
     rfl
    have D2:=(D.see hi).hold (hs':=σ.hs.set (sx r) (bx.getD (σ.hs.getD (sx p) 0%bx.length).toNat 0)) len8
    rw [ev]
    refine ⟨_,?_,⟨⟨hl,top,sj',sv',D2,hv,fun j=>?_⟩,yCn nh (yut nb),nv,nb⟩,(Frm.refl.set gb).set gh⟩
    .show ob (oB (.bl true) h) _=_
     walk_at "pi"
     rw [yho (h2:=h) (ys:=[.str r,.str p,.lst (bx.map .int)]) D.ob rfl (by rfl') (by
      walk_at "pi"
      rw [yIS D.ob]
      rfl),yus D k1 k2 hput hi,yB]
    .have hd:isID (sj.map .inl,sv.map PV.int):=⟨sj,sv,rfl,D.idS⟩
     have:=yuk hd (k:=σ.hs.getD (sx p) 0%bx.length) (j:=j) (v:=bx.getD (σ.hs.getD (sx p) 0%bx.length).toNat 0)
     rw [hput] at this
     rw [this,hs]
     rfl
  obtain ⟨h',e1,R',F⟩:=key
  refine ⟨h',?_,R',F⟩
  rw [yC]
  show ob (yw _ _ [.val (.loc d),.val (.ins 5 ["slot","place"] [.str r,.str p])] h) fnK=_
  rw [ybW 5 3,ybW 5 4]
  walk_at "pi"
  rw [yho (h2:=h) (ys:=[.ins 5 ["slot","place"] [.str r,.str p]]) D.ob rfl (by rfl') (by walk_at "pi"),e1,yB]
 | put p q =>
  obtain ⟨k1,k2⟩:=hu
  obtain ⟨i1,i2,i3⟩:=yur (bx:=bx) (σ.hs.getD (sx p) 0) D.b1 D.b16
  have D2:=D.write (D.idT.put (v:=σ.hs.getD (sx q) 0) ⟨i1,i3⟩)
  refine ⟨_,?_,⟨⟨hl,_,sj,sv,D2,fun j=>?_,hs⟩,nh,fun j v e=>?_,nb⟩,Frm.refl.set gt⟩
  .rw [yC]
   show ob (yw _ _ [.val (.loc d),.val (.ins 6 ["place","slot"] [.str p,.str q])] h) fnK=_
   rw [ybW 6 3,ybW 6 4,ybW 6 5]
   walk_at "pi"
   rw [yho (h2:=h) (ys:=[.str p,.str q]) D.ob rfl (by rfl') (by walk_at "pi"),yCm D k1 k2,yB]
  .rw [yuk D.idT]
   show _=upV σ.v (σ.hs.getD (sx p) 0%bx.length) (σ.hs.getD (sx q) 0) j
   unfold upV
   by_cases hj:j=σ.hs.getD (sx p) 0%bx.length
   .rw [if_pos hj,if_pos hj];rfl
   .rw [if_neg hj,if_neg hj];exact hv j
  .have e:(if j=σ.hs.getD (sx p) 0%bx.length then some (σ.hs.getD (sx q) 0) else σ.v j)=some v:=e
   split at e
   .cases e;exact yut nh
   .exact nv j v e
 | if_ _ _ _=>exact hp.elim
 | either _ _=>exact hp.elim
 | try_ _ _ _ _=>exact hp.elim
 | throw _ _=>exact hp.elim
 | wait=>exact hp.elim
end
section
variable {h:AH}{X:Nat->Prop}{d o s b t:Nat}{l:List Nat}{es:List (List Key×List PV)}{bx hs:List Int}{σ:AS}
theorem PR.ob (R:PR h X d o s b l t es bx σ):∃ hl,h[d]?=some (.ins 1 ["held","width","log","found"] [.loc hl,.int bx.length,.loc o,.lst (bx.map .int)]):=let ⟨hl,_,_,_,D,_⟩:=R.ex;⟨hl,D.ob⟩
theorem yzv (e:En):yGr (enV e) (.tup [.str "done"]) h=some (.bl (match e with|.done=>false|_=>true),h):=by
 cases e with
 | done =>
  unfold yGr enV pairE
  simp [ynj,eqP,sv,eqV]
 | waits =>
  have z:¬ ("waits":Str) = "done":=by rfl'
  unfold yGr enV pairE
  simp [ynj,eqP,sv,eqV,z]
 | fell nm v =>
  have z:¬ ("fell":Str) = "done":=by rfl'
  unfold yGr enV pairE
  simp [ynj,eqP,sv,eqV,z]
theorem yqS (e:En):yzo (enV e) (.tup [.str "done"]) h=some (.bl (match e with|.done=>true|_=>false),h):=by
 cases e with
 | done =>
  unfold yzo enV pairE
  simp [ynj,eqP,sv,eqV]
 | waits =>
  have z:¬ ("waits":Str) = "done":=by rfl'
  unfold yzo enV pairE
  simp [ynj,eqP,sv,eqV,z]
 | fell nm v =>
  have z:¬ ("fell":Str) = "done":=by rfl'
  unfold yzo enV pairE
  simp [ynj,eqP,sv,eqV,z]
theorem ywT (e:En):yzo (enV e) (.tup [.str "waits"]) h=some (.bl (match e with|.waits=>true|_=>false),h):=by
 cases e with
 | done =>
  have z:¬ ("done":Str) = "waits":=by rfl'
  unfold yzo enV pairE
  simp [ynj,eqP,sv,eqV,z]
 | waits =>
  unfold yzo enV pairE
  simp [ynj,eqP,sv,eqV]
 | fell nm v =>
  have z:¬ ("fell":Str) = "waits":=by rfl'
  unfold yzo enV pairE
  simp [ynj,eqP,sv,eqV,z]
theorem ydf {n:Nat}{u:T}(hp:yuu u) (hu:okT u) (R:PR h X d o s b l t es bx σ):∃ h',yI (n+1) [.loc d,ybw u] h=some (.tup [.str "done"],h')/\PR h' X d o s b l t es bx (evP bx u σ)/\Frm X h h':=by
 obtain ⟨h',e,R',F⟩:=yFk hp hu R
 obtain ⟨hl,eo⟩:=R.ob
 refine ⟨h',?_,R',F⟩
 unfold yI
 rw [yC]
 cases u with
 | let_ r n =>
  show ob (yw _ _ [.val (.loc d),.val (.ins 3 ["slot","number"] [.str r,.int n])] h) fnK=_
  rw [ybW 3 7,ybW 3 8,ybW 3 9,ybW 3 10,ybW 3 11]
  walk_at "pi"
  rw [yho (h2:=h) (ys:=[ybw (.let_ r n)]) eo rfl (by rfl') rfl,e,yB]
 | reckon w r p q =>
  show ob (yw _ _ [.val (.loc d),.val (.ins 4 ["word","slot","one","other"] [.str w,.str r,.str p,.str q])] h) fnK=_
  rw [ybW 4 7,ybW 4 8,ybW 4 9,ybW 4 10,ybW 4 11]
  walk_at "pi"
  rw [yho (h2:=h) (ys:=[ybw (.reckon w r p q)]) eo rfl (by rfl') rfl,e,yB]
 | take r p =>
  show ob (yw _ _ [.val (.loc d),.val (.ins 5 ["slot","place"] [.str r,.str p])] h) fnK=_
  rw [ybW 5 7,ybW 5 8,ybW 5 9,ybW 5 10,ybW 5 11]
  walk_at "pi"
  rw [yho (h2:=h) (ys:=[ybw (.take r p)]) eo rfl (by rfl') rfl,e,yB]
 | put p q =>
  show ob (yw _ _ [.val (.loc d),.val (.ins 6 ["place","slot"] [.str p,.str q])] h) fnK=_
  rw [ybW 6 7,ybW 6 8,ybW 6 9,ybW 6 10,ybW 6 11]
  walk_at "pi"
  rw [yho (h2:=h) (ys:=[ybw (.put p q)]) eo rfl (by rfl') rfl,e,yB]
 | if_ _ _ _=>exact hp.elim
 | either _ _=>exact hp.elim
 | try_ _ _ _ _=>exact hp.elim
 | throw _ _=>exact hp.elim
 | wait=>exact hp.elim
def EnN:En->Prop
 | .fell _ v=>N64 v
 | _=>True
noncomputable def yyD (n:Nat):Prop:=∀ (X:Nat->Prop) (d o s b t:Nat) (l:List Nat) (es:List (List Key×List PV)) (bx:List Int) (us:List T) (h:AH) (σ:AS),4*ybs us+2<=n->okL us->l.length+ybs us<=60->PR h X d o s b l t es bx σ ->
 ∃ h',ybb n [.loc d,.lst (yE us)] h=some (enV (evL bx us σ).1,h')/\PR h' X d o s b l t es bx (evL bx us σ).2/\Frm X h h'/\EnN (evL bx us σ).1
noncomputable def yGH (n:Nat):Prop:=∀ (X:Nat->Prop) (d o s b t:Nat) (l:List Nat) (es:List (List Key×List PV)) (bx:List Int) (u:T) (h:AH) (σ:AS),4*ykW u+1<=n->okT u->l.length+ykW u<=60->PR h X d o s b l t es bx σ ->
 ∃ h',yI n [.loc d,ybw u] h=some (enV (evT bx u σ).1,h')/\PR h' X d o s b l t es bx (evT bx u σ).2/\Frm X h h'/\EnN (evT bx u σ).1
theorem ymG {n:Nat}(G:yGH n):yyD (n+1):=by
 intro X d o s b t l es bx us h σ hd hu hl R
 have key:∀ (ds:List PV) (us:List T) (h:AH) (σ:AS) (c2 c3:PVar),4*ybs us+1<=n->okL us->l.length+ybs us<=60->PR h X d o s b l t es bx σ->∃ h',
   ob (ymz (yx 2) (yw (ybA (yK 1 "part_end" (yI n) (yd 0) (yb (yd 2) (yn))) (yx 3)) (ybv (yt (xOp (yGr) (yd 3) (xC (.tup [.str "done"])))) (ybg (yd 3)) (yV))) (yE us) [.val (.loc d),.val (.lst ds),c2,c3] h)
    (fun o h1=>ob (sqK (ybg (xC (.tup [.str "done"]))) o h1) fnK)=some (enV (evL bx us σ).1,h')/\PR h' X d o s b l t es bx (evL bx us σ).2/\Frm X h h'/\EnN (evL bx us σ).1:=by
  intro ds us
  induction us with
  | nil =>
   intro h σ c2 c3 _ _ _ R
   exact ⟨h,rfl,R,Frm.refl,trivial⟩
  | cons u us ih =>
   intro h σ c2 c3 hd hu hl R
   have hd:4*max (ykW u) (ybs us)+1<=n:=hd
   have hl:l.length+max (ykW u) (ybs us)<=60:=hl
   obtain ⟨h1,e1,R1,F1,E1⟩:=G X d o s b t l es bx u h σ (by omega) hu.1 (by omega) R
   obtain ⟨hl0,eo⟩:=R.ob
   show ∃ h',ob (ymz _ _ (ybw u::yE us) _ h) _=some (enV (match evT bx u σ with|(.done,τ)=>evL bx us τ|(.waits,τ)=>(.waits,τ)|(.fell nm v,τ)=>(.fell nm v,τ)).1,h')/\PR h' X d o s b l t es bx (match evT bx u σ with|(.done,τ)=>evL bx us τ|(.waits,τ)=>(.waits,τ)|(.fell nm v,τ)=>(.fell nm v,τ)).2/\Frm X h h'/\EnN (match evT bx u σ with|(.done,τ)=>evL bx us τ|(.waits,τ)=>(.waits,τ)|(.fell nm v,τ)=>(.fell nm v,τ)).1
   rw [yBe,show yx 2 (ybw u) [.val (.loc d),.val (.lst ds),c2,c3]=some [.val (.loc d),.val (.lst ds),.val (ybw u),c3] from rfl,bind_some,ykG,yzj,yho (h2:=h) (ys:=[ybw u]) eo rfl (by rfl') rfl,e1,yB]
   generalize evT bx u σ=r at *
   obtain ⟨e,τ⟩:=r
   rw [show yx 3 (enV e) [.val (.loc d),.val (.lst ds),.val (ybw u),c3]=some [.val (.loc d),.val (.lst ds),.val (ybw u),.val (enV e)] from rfl,bind_some,yB,ywv]
   walk_at "pi"
   rw [yzv]
   cases e with
   | done =>
    obtain ⟨h2,e2,R2,F2,E2⟩:=ih h1 τ (.val (ybw u)) (.val (enV .done)) (by omega) hu.2 (by omega) R1
    exact ⟨h2,e2,R2,F1.trans F2,E2⟩
   | waits=>exact ⟨h1,rfl,R1,F1,trivial⟩
   | fell nm v=>exact ⟨h1,rfl,R1,F1,E1⟩
 obtain ⟨h',e,R',F,E'⟩:=key (yE us) us h σ .no .no (by omega) hu hl R
 refine ⟨h',?_,R',F,E'⟩
 unfold ybb
 rw [yC]
 show ob (yw _ _ [.val (.loc d),.val (.lst (yE us)),.no,.no] h) fnK=_
 rw [ykG,yIa,show xIL (yd 1) [.val (.loc d),.val (.lst (yE us)),.no,.no] h=some (yE us,h) from rfl,yB,yEx]
 exact e
end
section
variable {h:AH}{X:Nat->Prop}{d hl o s b t:Nat}{l:List Nat}{es:List (List Key×List PV)}{bx hs:List Int}{top:List Key×List PV}{sj sv:List Int}{σ:AS}
theorem DG.ext {x:Nd}(D:DG h X d hl o s b l t es bx hs top sj sv):DG (h++[x]) X d hl o s b l t es bx hs top sj sv :=
 { D with
  ob:=ydK D.ob
  hh:=ydK D.hh
  g:=⟨ydK D.g.ob,ydK D.g.st,ydK D.g.sn,D.g.dl.mono fun _ _ _ e=>ydK e⟩
  st:=D.st.mono fun _ _ _ e=>ydK e
  tp:=ydK D.tp
  xl:=fun n hn=>by rw [length_append];exact Nat.lt_add_right _ (D.xl n hn) }
theorem DG.begin {B:Nat}{nb:Nd}(D:DG h X d hl o s b l t es bx hs top sj sv) (hB:h[B]?=some nb) (nB:B∉d::hl::o::s::b::(l++[t])) :
  DG ((h++[Nd.dct [] []]).set s (.lst ((l++[t]++[h.length]).map .loc))) (fun n=>X n\/n=B) d hl o s b (l++[t]) h.length (es++[top]) bx hs ([],[]) sj sv:=by
 obtain ⟨n1,n2,n3,n4,n5,n6,n7,n8,n9,n10,n11,n12,n13,n14,n15,n16⟩:=D.nx
 have new:∀ {i y},h[i]?=some y->i≠h.length:=fun e=>ne_of_lt (yeT e)
 have lm:∀ x∈l++[t],x≠h.length:=fun x hx=>ne_of_lt (D.g.dl.lt x hx)
 have up:∀ {x y},x≠s->h[x]?=some y->((h++[Nd.dct [] []]).set s (.lst ((l++[t]++[h.length]).map .loc)))[x]?=some y:=fun hx e=>yF hx (ydK e)
 have st':Stk ((h++[Nd.dct [] []]).set s (.lst ((l++[t]++[h.length]).map .loc))) (l++[t]) (es++[top]):=D.g.dl.mono fun x hx y e=>up (fun z=>n14 (z ▸ hx)) e
 have tp':((h++[Nd.dct [] []]).set s (.lst ((l++[t]++[h.length]).map .loc)))[h.length]?=some (.dct [] []):=yF (Ne.symm (new D.g.st)) (by simp)
 refine ⟨up n3 D.ob,up n7 D.hh,⟨up n10 D.g.ob,set_same (ydK D.g.st),up (Ne.symm n13) D.g.sn,st'.app ⟨tp',trivial⟩⟩,st',tp',?_,?_,isID.nil,fun e he=>?_,D.idS,D.h8,D.b1,D.b16,fun n hn=>?_⟩
 .have nd:=D.nd
  have q:∀ x∈d::hl::o::s::b::(l++[t]),x≠h.length:=fun x hx=>by
   simp only [mem_cons] at hx
   rcases hx with rfl|rfl|rfl|rfl|rfl|hx
   .exact new D.ob
   .exact new D.hh
   .exact new D.g.ob
   .exact new D.g.st
   .exact new D.g.sn
   .exact lm x hx
  rw [show d::hl::o::s::b::(l++[t]++[h.length])=(d::hl::o::s::b::(l++[t]))++[h.length] by simp,List.nodup_append]
  exact ⟨nd,by simp,fun x hx y hy=>by rw [List.mem_singleton.mp hy];exact q x hx⟩
 .intro x hx
  rw [show d::hl::o::s::b::(l++[t]++[h.length])=(d::hl::o::s::b::(l++[t]))++[h.length] by simp] at hx
  rcases List.mem_append.mp hx with hx|hx
  .rintro (z|z)
   .exact D.ge x hx z
   .exact nB (z ▸ hx)
  .rw [List.mem_singleton.mp hx]
   rintro (z|z)
   .exact lt_irrefl _ (D.xl _ z)
   .exact new hB z.symm
 .rcases List.mem_append.mp he with he|he
  .exact D.idE e he
  .rw [List.mem_singleton.mp he];exact D.idT
 .rw [length_set,length_append]
  rcases hn with hn|hn
  .exact Nat.lt_add_right _ (D.xl n hn)
  .rw [hn];exact Nat.lt_add_right _ (yeT hB)
theorem DG.drop {Y:Nat->Prop}{t':Nat}{inn:List Key×List PV}(D:DG h Y d hl o s b (l++[t]) t' (es++[top]) bx hs inn sj sv) (hX:∀ n,X n->Y n):DG (h.set s (.lst ((l++[t]).map .loc))) X d hl o s b l t es bx hs top sj sv:=by
 obtain ⟨n1,n2,n3,n4,n5,n6,n7,n8,n9,n10,n11,n12,n13,n14,n15,n16⟩:=D.nx
 have m:∀ x∈l++[t],x∈l++[t]++[t']:=fun x hx=>mem_append_left _ hx
 have up:∀ {x y},x≠s->h[x]?=some y->(h.set s (.lst ((l++[t]).map .loc)))[x]?=some y:=fun hx e=>yF hx e
 obtain ⟨fs,f,ef,s1,s2⟩:=D.st.split
 obtain ⟨e1,e2⟩:=List.append_inj' ef rfl
 cases e2
 subst e1
 have st':Stk (h.set s (.lst ((l++[t]).map .loc))) (l++[t]) (es++[top]):=D.st.mono fun x hx y e=>up (fun z=>n14 (z ▸ m x hx)) e
 refine ⟨up n3 D.ob,up n7 D.hh,⟨up n10 D.g.ob,set_same D.g.st,up (Ne.symm n13) D.g.sn,st'⟩,s1.mono fun x hx y e=>up (fun z=>n14 (m _ (by rw [<- z];exact mem_append_left _ hx))) e,up (fun z=>n14 (m _ (by rw [<- z];simp))) s2,?_,fun x hx z=>?_,D.idE top (by simp),fun e he=>D.idE e (mem_append_left _ he),D.idS,D.h8,D.b1,D.b16,fun n hn=>by rw [length_set];exact D.xl n (hX n hn)⟩
 .have nd:=D.nd
  rw [show d::hl::o::s::b::(l++[t]++[t'])=(d::hl::o::s::b::(l++[t]))++[t'] by simp] at nd
  exact (List.nodup_append.mp nd).1
 .refine D.ge x ?_ (hX x z)
  rw [show d::hl::o::s::b::(l++[t]++[t'])=(d::hl::o::s::b::(l++[t]))++[t'] by simp]
  exact mem_append_left _ hx
end
section
variable {h:AH}{X:Nat->Prop}{d hl o s b t:Nat}{l:List Nat}{es:List (List Key×List PV)}{bx hs:List Int}{top:List Key×List PV}{sj sv:List Int}{σ:AS}
theorem DG.reheld {B:Nat}{hs':List Int}(D:DG h X d hl o s b l t es bx hs top sj sv) (hB:h[B]?=some (.lst (hs'.map .int))) (h8:hs'.length=8) (nB:B∉d::o::s::b::(l++[t])) (xB:¬ X B) :
  DG (h.set d (.ins 1 ["held","width","log","found"] [.loc B,.int bx.length,.loc o,.lst (bx.map .int)])) X d B o s b l t es bx hs' top sj sv:=by
 obtain ⟨n1,n2,n3,n4,n5,n6,n7,n8,n9,n10,n11,n12,n13,n14,n15,n16⟩:=D.nx
 simp only [mem_cons,not_or] at nB
 obtain ⟨m1,m2,m3,m4,m5⟩:=nB
 have ne:∀ x∈l++[t],x≠d:=fun x hx z=>n5 (z ▸ hx)
 refine ⟨set_same D.ob,yF m1 hB,⟨yF (Ne.symm n2) D.g.ob,yF (Ne.symm n3) D.g.st,yF (Ne.symm n4) D.g.sn,D.g.dl.mono fun x hx y e=>yF (ne x hx) e⟩,D.st.mono fun x hx y e=>yF (ne x (mem_append_left _ hx)) e,yF (ne t (by simp)) D.tp,?_,fun x hx=>?_,D.idT,D.idE,D.idS,h8,D.b1,D.b16,fun n hn=>by rw [length_set];exact D.xl n hn⟩
 .simp only [List.nodup_cons,mem_cons,not_or]
  exact ⟨⟨Ne.symm m1,n2,n3,n4,n5⟩,⟨m2,m3,m4,m5⟩,⟨n10,n11,n12⟩,⟨n13,n14⟩,n15,n16⟩
 .simp only [mem_cons] at hx
  rcases hx with rfl|rfl|rfl|rfl|rfl|hx
  .exact D.ge _ (by simp)
  .exact xB
  .exact D.ge _ (by simp)
  .exact D.ge _ (by simp)
  .exact D.ge _ (by simp)
  .exact D.ge x (by simp only [mem_cons];simp [hx])
def yOQ (σ:AS):En×AS->AS
 | (.done,τ)=>τ
 | (.waits,τ)=>⟨σ.hs,σ.v,τ.s⟩
 | (.fell _ _,τ)=>⟨σ.hs,σ.v,τ.s⟩
theorem yCo {a b c:Option Int}:orV (orV a b) c=orV a (orV b c):=by cases a<;>rfl
theorem yGI {n:Nat}(G:yyD n) {us:List T}(hd:4*ybs us+2<=n) (hu:okL us) (hl':l.length+1+ybs us<=60) (R:PR h X d o s b l t es bx σ) :
  ∃ h',ybI (n+1) [.loc d,.lst (yE us)] h=some (enV (evL bx us σ).1,h')/\PR h' X d o s b l t es bx (yOQ σ (evL bx us σ))/\Frm X h h'/\EnN (evL bx us σ).1:=by
 obtain ⟨⟨hl,top,sj,sv,D,hv,hs⟩,nh,nv,nb⟩:=R
 have gs:¬ X s:=D.ge s (by simp)
 have gt:¬ X t:=D.ge t (by simp)
 have gd:¬ X d:=D.ge d (by simp)
 have D0:=D.ext (x:=.lst (σ.hs.map .int))
 have hB:(h++[Nd.lst (σ.hs.map .int)])[h.length]?=some (.lst (σ.hs.map .int)):=by simp
 have nB:h.length∉d::hl::o::s::b::(l++[t]):=fun z=>by
  simp only [mem_cons] at z
  rcases z with z|z|z|z|z|z
  .exact absurd (yeT D.ob) (by omega)
  .exact absurd (yeT D.hh) (by omega)
  .exact absurd (yeT D.g.ob) (by omega)
  .exact absurd (yeT D.g.st) (by omega)
  .exact absurd (yeT D.g.sn) (by omega)
  .exact absurd (D.g.dl.lt _ z) (by omega)
 have xB:¬ X h.length:=fun z=>lt_irrefl _ (D.xl _ z)
 have D1:=D0.begin hB nB
 have ll:(l++[t]).length<1000:=by simp;omega
 have be:=yFg D0.g ll
 have F1:Frm X h (((h++[Nd.lst (σ.hs.map .int)])++[Nd.dct [] []]).set s (.lst ((l++[t]++[(h++[Nd.lst (σ.hs.map .int)]).length]).map .loc))):=((Frm.refl.app).app).set gs
 have hB1:(((h++[Nd.lst (σ.hs.map .int)])++[Nd.dct [] []]).set s (.lst ((l++[t]++[(h++[Nd.lst (σ.hs.map .int)]).length]).map .loc)))[h.length]?=some (.lst (σ.hs.map .int)):=yF (fun z=>nB (by rw [z];simp)) (ydK hB)
 generalize ((h++[Nd.lst (σ.hs.map .int)])++[Nd.dct [] []]).set s (.lst ((l++[t]++[(h++[Nd.lst (σ.hs.map .int)]).length]).map .loc))=h1 at *
 generalize (h++[Nd.lst (σ.hs.map .int)]).length=t' at *
 have R1:PR h1 (fun n=>X n\/n=h.length) d o s b (l++[t]) t' (es++[top]) bx σ:=⟨⟨hl,([],[]),sj,sv,D1,fun j=>by rw [yLs,yCk];exact hv j,hs⟩,nh,nv,nb⟩
 obtain ⟨h2,e2,R2,F2,E2⟩:=G _ d o s b t' (l++[t]) (es++[top]) bx us h1 σ hd hu (by simp;omega) R1
 have hB2:h2[h.length]?=some (.lst (σ.hs.map .int)):=F2.get (.inr rfl) hB1
 have F12:Frm X h h2:=F1.trans (F2.imp fun n hn=>.inl hn)
 generalize hev:evL bx us σ=r at *
 obtain ⟨e,τ⟩:=r
 obtain ⟨⟨hl2,inn,sj2,sv2,D2,hv2,hs2⟩,nh2,nv2,_⟩:=R2
 obtain ⟨n1,n2,n3,n4,n5,n6,n7,n8,n9,n10,n11,n12,n13,n14,n15,n16⟩:=D2.nx
 have D3:=D2.drop (X:=X) fun n hn=>.inl hn
 unfold ybI
 rw [yC]
 show ∃ h',ob (yw _ _ [.val (.loc d),.val (.lst (yE us)),.no,.no] h) fnK=_/\_
 walk_at "pi"
 rw [yyC D.ob,yB,yrH D.hh]
 walk_at "pi"
 rw [yfI (h:=h++[Nd.lst (σ.hs.map .int)]) D0.g.ob (by
  walk_at "pi"
  rw [yqn D0.ob]) (by rfl') rfl,be,yB]
 rw [yho (h2:=h1) (ys:=[.lst (yE us)]) D1.ob rfl (by rfl') rfl,e2,yB,yqS,yB]
 have stop:∀ (τ':AS),τ'=⟨σ.hs,σ.v,τ.s⟩->∃ h',(ob (yK 0 "drop" ygj (ycg [1] "log" (yd 0)) yn [.val (.loc d),.val (.lst (yE us)),.val (.loc h.length),.val (enV e)] h2) fun x k=>ob (yBx [1] "held" (yd 0) (yd 2) [.val (.loc d),.val (.lst (yE us)),.val (.loc h.length),.val (enV e)] k) fun x k=>ob (sqK (ybg (yd 3)) x k) fnK)=some (enV e,h')/\PR h' X d o s b l t es bx τ'/\Frm X h h':=by
  rintro τ' rfl
  have D4:=D3.reheld (hs':=σ.hs) (yF (fun z=>nB (by rw [z];simp)) hB2) D.h8 (fun z=>nB (by
   simp only [mem_cons] at z ⊢
   rcases z with z|z|z|z|z<;>simp [z])) xB
  refine ⟨_,?_,⟨⟨h.length,top,sj2,sv2,D4,hv,hs2⟩,nh,nv,nb⟩,?_⟩
  .rw [yfI (h:=h2) D2.g.ob (by
    walk_at "pi"
    rw [yqn D2.ob]) (by rfl') rfl,yIO D2.g,yB]
   unfold yBx
   show ob (ob (some (PV.loc h.length,_)) _) _=_
   rw [yB]
   show ob (ob (some (PV.loc d,_)) _) _=_
   rw [yB]
   simp only [D3.ob]
   rw [if_pos (by rfl'),show putN "held" (PV.loc h.length) ["held","width","log","found"] [PV.loc hl2,.int bx.length,.loc o,.lst (bx.map .int)]=(((["held","width","log","found"]:List Str)),[PV.loc h.length,.int bx.length,.loc o,.lst (bx.map .int)]) from by unfold putN;rw [if_pos (by rfl')];rfl,yB,ywv]
   rfl
  .exact (F12.set gs).set gd
 cases e with
 | done =>
  obtain ⟨ij,iv,rfl,iID⟩:=D2.idT
  have tID:isID top:=D.idT
  have hl1:=tID.len
  have hl2':=iID.le
  have ut:t≠t':=(List.nodup_append.mp n16).2.2 t (by simp) t' (by simp)
  have us_:t≠s:=fun z=>n14 (by rw [<- z];simp)
  have ts_:t'≠s:=fun z=>n14 (by rw [<- z];simp)
  obtain ⟨fs,f,ef,s1,s2⟩:=D2.st.split
  obtain ⟨q1,q2⟩:=List.append_inj' ef rfl
  cases q2
  subst q1
  have hM:isID (ytW (ij.map .inl) (iv.map PV.int) top.1 top.2):=isID.mrg ij iv tID iID.rg
  have D4:=D3.write hM
  refine ⟨_,?_,⟨⟨hl2,_,sj2,sv2,D4,fun j=>?_,hs2⟩,nh2,nv2,nb⟩,(F12.set gs).set gt,E2⟩
  .show ob (oB (.bl true) h2) _=_
   walk_at "pi"
   rw [yfI (h:=h2) D2.g.ob (by
    walk_at "pi"
    rw [yqn D2.ob]) (by rfl') rfl,yCe D2.g n10 us_ ts_ ut s2 D2.tp (by rw [length_map];omega),yB]
  .rw [yGE ij iv tID iID.rg iID.nd iID.ln,yCo]
   have:=hv2 j
   rw [yCk] at this
   exact this
 | waits =>
  obtain ⟨h',q1,q2,q3⟩:=stop _ rfl
  refine ⟨h',?_,q2,q3,E2⟩
  show ob (oB (.bl false) h2) _=_
  walk_at "pi"
  exact q1
 | fell nm v =>
  obtain ⟨h',q1,q2,q3⟩:=stop _ rfl
  refine ⟨h',?_,q2,q3,E2⟩
  show ob (oB (.bl false) h2) _=_
  walk_at "pi"
  exact q1
theorem yIU {n:Nat}(G:∀ m,m<=n->yyD m):yGH (n+2):=by
 intro X d o s b t l es bx u h σ hd hu hl R
 obtain ⟨hl0,eo⟩:=R.ob
 obtain ⟨hlR,topR,sjR,svR,DR,hvR,hsR⟩:=R.ex
 have pp:∀ {P:AH->Prop}{Q:AH->Prop}{S:AH->Prop},(∃ h',P h'/\Q h'/\S h')->∃ h',P h'/\Q h'/\S h'/\True:=fun ⟨h',p,q,r⟩=>⟨h',p,q,r,trivial⟩
 cases u with
 | let_ r n=>exact pp (ydf (u:=.let_ r n) trivial hu R)
 | reckon w r p q=>exact pp (ydf (u:=.reckon w r p q) trivial hu R)
 | take r p=>exact pp (ydf (u:=.take r p) trivial hu R)
 | put p q=>exact pp (ydf (u:=.put p q) trivial hu R)
 | wait =>
  refine ⟨h,?_,R,Frm.refl,trivial⟩
  unfold yI
  rw [yC]
  show ob (yw _ _ [.val (.loc d),.val (.ins 11 [] [])] h) fnK=_
  rw [ybW 11 7,ybW 11 8,ybW 11 9,ybW 11 10]
  walk_at "pi"
  rfl
 | throw nm r =>
  refine ⟨h,?_,R,Frm.refl,yut R.nh⟩
  unfold yI
  rw [yC]
  show ob (yw _ _ [.val (.loc d),.val (.ins 10 ["name","slot"] [.str nm,.str r])] h) fnK=_
  rw [ybW 10 7,ybW 10 8,ybW 10 9]
  walk_at "pi"
  rw [yho (h2:=h) (ys:=[.str r]) eo rfl (by rfl') (by walk_at "pi"),ydL DR hu.2,yB]
  (try walk_at "pi")
  rfl
 | if_ r x y =>
  have hd:4*(1+max (ybs x) (ybs y))+1<=n+2:=hd
  have hl:l.length+(1+max (ybs x) (ybs y))<=60:=hl
  obtain ⟨k1,k2,k3⟩:=hu
  obtain ⟨m,rfl⟩:∃ m,n=m+1:=⟨n-1,by omega⟩
  have key:∃ h',yea (m+2) [.loc d,ybw (.if_ r x y)] h=some (enV (evT bx (.if_ r x y) σ).1,h')/\PR h' X d o s b l t es bx (evT bx (.if_ r x y) σ).2/\Frm X h h'/\EnN (evT bx (.if_ r x y) σ).1:=by
   unfold yea
   rw [yC]
   show ∃ h',ob (yw _ _ [.val (.loc d),.val (.ins 7 ["slot","parts","others"] [.str r,.lst (yE x),.lst (yE y)])] h) fnK=some (enV (if σ.at_ r≠0 then evL bx x σ else evL bx y σ).1,h')/\PR h' X d o s b l t es bx (if σ.at_ r≠0 then evL bx x σ else evL bx y σ).2/\_/\EnN (if σ.at_ r≠0 then evL bx x σ else evL bx y σ).1
   walk_at "pi"
   rw [yho (h2:=h) (ys:=[.str r]) eo rfl (by rfl') (by walk_at "pi"),ydL DR k1,yB]
   walk_at "pi"
   by_cases hz:σ.hs.getD (sx r) 0=0
   .obtain ⟨h',e,R',F,E'⟩:=G (m+1) (Nat.le_refl _) X d o s b t l es bx y h σ (by omega) k3 (by omega) R
    rw [if_neg (show ¬ σ.at_ r≠0 from fun z=>z hz)]
    refine ⟨h',?_,R',F,E'⟩
    rw [if_neg (fun z=>z hz),yho (h2:=h) (ys:=[.lst (yE y)]) eo rfl (by rfl') (by walk_at "pi"),e,yB]
   .obtain ⟨h',e,R',F,E'⟩:=G (m+1) (Nat.le_refl _) X d o s b t l es bx x h σ (by omega) k2 (by omega) R
    rw [if_pos (show σ.at_ r≠0 from hz)]
    refine ⟨h',?_,R',F,E'⟩
    rw [if_pos hz,yho (h2:=h) (ys:=[.lst (yE x)]) eo rfl (by rfl') (by walk_at "pi"),e,yB]
  obtain ⟨h',e,R',F,E'⟩:=key
  refine ⟨h',?_,R',F,E'⟩
  unfold yI
  rw [yC]
  show ob (yw _ _ [.val (.loc d),.val (.ins 7 ["slot","parts","others"] [.str r,.lst (yE x),.lst (yE y)])] h) fnK=_
  walk_at "pi"
  rw [yho (h2:=h) (ys:=[ybw (.if_ r x y)]) eo rfl (by rfl') rfl,e,yB]
 | either x y =>
  have hd:4*(1+max (ybs x) (ybs y))+1<=n+2:=hd
  have hl:l.length+(1+max (ybs x) (ybs y))<=60:=hl
  obtain ⟨-,k2,k3⟩:=hu
  obtain ⟨m,rfl⟩:∃ m,n=m+1:=⟨n-1,by omega⟩
  obtain ⟨h1,e1,R1,F1,E1⟩:=yGI (G m (by omega)) (us:=x) (by omega) k2 (by omega) R
  obtain ⟨hl1,eo1⟩:=R1.ob
  have key:∃ h',ycs (m+2) [.loc d,ybw (.either x y)] h=some (enV (evT bx (.either x y) σ).1,h')/\PR h' X d o s b l t es bx (evT bx (.either x y) σ).2/\Frm X h h'/\EnN (evT bx (.either x y) σ).1:=by
   unfold ycs
   rw [yC]
   show ∃ h',ob (yw _ _ [.val (.loc d),.val (.ins 8 ["parts","others"] [.lst (yE x),.lst (yE y)]),.no] h) fnK=some (enV (match evL bx x σ with|(.waits,τ)=>evL bx y ⟨σ.hs,σ.v,τ.s⟩|(.fell nm v,τ)=>(.fell nm v,⟨σ.hs,σ.v,τ.s⟩)|(.done,τ)=>(.done,τ)).1,h')/\PR h' X d o s b l t es bx (match evL bx x σ with|(.waits,τ)=>evL bx y ⟨σ.hs,σ.v,τ.s⟩|(.fell nm v,τ)=>(.fell nm v,⟨σ.hs,σ.v,τ.s⟩)|(.done,τ)=>(.done,τ)).2/\_/\EnN (match evL bx x σ with|(.waits,τ)=>evL bx y ⟨σ.hs,σ.v,τ.s⟩|(.fell nm v,τ)=>(.fell nm v,⟨σ.hs,σ.v,τ.s⟩)|(.done,τ)=>(.done,τ)).1
   walk_at "pi"
   rw [yho (h2:=h) (ys:=[.lst (yE x)]) eo rfl (by rfl') (by walk_at "pi"),e1,yB]
   generalize evL bx x σ=r at *
   obtain ⟨e,τ⟩:=r
   rw [ywT,yB]
   cases e with
   | waits =>
    obtain ⟨h',e',R',F',E'⟩:=G (m+1) (Nat.le_refl _) X d o s b t l es bx y h1 ⟨σ.hs,σ.v,τ.s⟩ (by omega) k3 (by omega) R1
    refine ⟨h',?_,R',F1.trans F',E'⟩
    show ob (oB (.bl true) h1) _=_
    walk_at "pi"
    rw [yho (h2:=h1) (ys:=[.lst (yE y)]) eo1 rfl (by rfl') (by walk_at "pi"),e',yB]
   | done =>
    refine ⟨h1,?_,R1,F1,trivial⟩
    show ob (oB (.bl false) h1) _=_
    walk_at "pi"
   | fell nm v =>
    refine ⟨h1,?_,R1,F1,E1⟩
    show ob (oB (.bl false) h1) _=_
    walk_at "pi"
  obtain ⟨h',e,R',F,E'⟩:=key
  refine ⟨h',?_,R',F,E'⟩
  unfold yI
  rw [yC]
  show ob (yw _ _ [.val (.loc d),.val (.ins 8 ["parts","others"] [.lst (yE x),.lst (yE y)])] h) fnK=_
  rw [ybW 8 7]
  walk_at "pi"
  rw [yho (h2:=h) (ys:=[ybw (.either x y)]) eo rfl (by rfl') rfl,e,yB]
 | try_ x nm r y =>
  have hd:4*(1+max (ybs x) (ybs y))+1<=n+2:=hd
  have hl:l.length+(1+max (ybs x) (ybs y))<=60:=hl
  obtain ⟨-,k1,k2,k3⟩:=hu
  obtain ⟨m,rfl⟩:∃ m,n=m+1:=⟨n-1,by omega⟩
  obtain ⟨h1,e1,R1,F1,E1⟩:=yGI (G m (by omega)) (us:=x) (by omega) k2 (by omega) R
  obtain ⟨hl1,eo1⟩:=R1.ob
  have key:∃ h',ydr (m+2) [.loc d,ybw (.try_ x nm r y)] h=some (enV (evT bx (.try_ x nm r y) σ).1,h')/\PR h' X d o s b l t es bx (evT bx (.try_ x nm r y) σ).2/\Frm X h h'/\EnN (evT bx (.try_ x nm r y) σ).1:=by
   unfold ydr
   rw [yC]
   show ∃ h',ob (yw _ _ [.val (.loc d),.val (.ins 9 ["parts","name","slot","others"] [.lst (yE x),.str nm,.str r,.lst (yE y)]),.no] h) fnK=some (enV (match evL bx x σ with|(.fell m v,τ)=>if m=nm then evL bx y ((⟨σ.hs,σ.v,τ.s⟩:AS).put_ r v) else (.fell m v,⟨σ.hs,σ.v,τ.s⟩)|(.waits,τ)=>(.waits,⟨σ.hs,σ.v,τ.s⟩)|(.done,τ)=>(.done,τ)).1,h')/\PR h' X d o s b l t es bx (match evL bx x σ with|(.fell m v,τ)=>if m=nm then evL bx y ((⟨σ.hs,σ.v,τ.s⟩:AS).put_ r v) else (.fell m v,⟨σ.hs,σ.v,τ.s⟩)|(.waits,τ)=>(.waits,⟨σ.hs,σ.v,τ.s⟩)|(.done,τ)=>(.done,τ)).2/\_/\EnN (match evL bx x σ with|(.fell m v,τ)=>if m=nm then evL bx y ((⟨σ.hs,σ.v,τ.s⟩:AS).put_ r v) else (.fell m v,⟨σ.hs,σ.v,τ.s⟩)|(.waits,τ)=>(.waits,⟨σ.hs,σ.v,τ.s⟩)|(.done,τ)=>(.done,τ)).1
   walk_at "pi"
   rw [yho (h2:=h) (ys:=[.lst (yE x)]) eo rfl (by rfl') (by walk_at "pi"),e1,yB]
   generalize evL bx x σ=q at *
   obtain ⟨e,τ⟩:=q
   have wf:¬ ("waits":Str) = "fell":=by rfl'
   have df:¬ ("done":Str) = "fell":=by rfl'
   cases e with
   | waits =>
    refine ⟨h1,?_,R1,F1,trivial⟩
    show ob (ybe (.tup [.str "waits"]) (.int 0) h1) _=_
    walk_at "pi"
    rw [if_neg wf]
   | done =>
    refine ⟨h1,?_,R1,F1,trivial⟩
    show ob (ybe (.tup [.str "done"]) (.int 0) h1) _=_
    walk_at "pi"
    rw [if_neg df]
   | fell q v =>
    by_cases hq:q=nm
    .subst hq
     obtain ⟨hl2,top2,sj2,sv2,D2,hv2,hs2⟩:=R1.ex
     have R2:PR (h1.set hl2 (.lst ((σ.hs.set (sx r) v).map .int))) X d o s b l t es bx ((⟨σ.hs,σ.v,τ.s⟩:AS).put_ r v):=⟨⟨hl2,top2,sj2,sv2,D2.hold (by rw [length_set];exact D2.h8),hv2,hs2⟩,yCn R1.nh E1,R1.nv,R1.nb⟩
     obtain ⟨hl3,eo3⟩:=R2.ob
     obtain ⟨h',e',R',F',E'⟩:=G (m+1) (Nat.le_refl _) X d o s b t l es bx y _ _ (by omega) k3 (by omega) R2
     dsimp only
     rw [if_pos rfl]
     refine ⟨h',?_,R',(F1.set (D2.ge hl2 (by simp))).trans F',E'⟩
     simp only [show enV (.fell q v)=.tup [.str "fell",.str q,.int v] from rfl]
     walk_at "pi"
     have ea:yb (ycg [3,4,5,6,7,9,10] "slot" (yd 1)) (yb (xOp ybe (yd 2) (xC (.int 2))) yn) [.val (.loc d),.val (.ins 9 ["parts","name","slot","others"] [.lst (yE x),.str q,.str r,.lst (yE y)]),.val (.tup [.str "fell",.str q,.int v])] h1=some ([.str r,.int v],h1):=by
      walk_at "pi"
     rw [yho D2.ob rfl (by rfl') ea,yox D2 k1,yB]
     rw [yho (h2:=h1.set hl2 (.lst ((σ.hs.set (sx r) v).map .int))) (ys:=[.lst (yE y)]) eo3 rfl (by rfl') (by walk_at "pi"),e',yB]
    .dsimp only
     rw [if_neg hq]
     refine ⟨h1,?_,R1,F1,E1⟩
     simp only [show enV (.fell q v)=.tup [.str "fell",.str q,.int v] from rfl]
     walk_at "pi"
     rw [if_neg hq]
  obtain ⟨h',e,R',F,E'⟩:=key
  refine ⟨h',?_,R',F,E'⟩
  unfold yI
  rw [yC]
  show ob (yw _ _ [.val (.loc d),.val (.ins 9 ["parts","name","slot","others"] [.lst (yE x),.str nm,.str r,.lst (yE y)])] h) fnK=_
  rw [ybW 9 7,ybW 9 8]
  walk_at "pi"
  rw [yho (h2:=h) (ys:=[ybw (.try_ x nm r y)]) eo rfl (by rfl') rfl,e,yB]
theorem yCp:∀ n,yyD n
 | 0=>fun X d o s b t l es bx us h σ hd=>by omega
 | 1=>fun X d o s b t l es bx us h σ hd=>by omega
 | 2=>ymG (n:=1) (by
  intro X d o s b t l es bx u h σ hd hu hl R
  obtain ⟨hlR,topR,sjR,svR,DR,hvR,hsR⟩:=R.ex
  have pp:∀ {P:AH->Prop}{Q:AH->Prop}{S:AH->Prop},(∃ h',P h'/\Q h'/\S h')->∃ h',P h'/\Q h'/\S h'/\True:=fun ⟨h',p,q,r⟩=>⟨h',p,q,r,trivial⟩
  cases u with
  | let_ r n=>exact pp (ydf (n:=0) (u:=.let_ r n) trivial hu R)
  | reckon w r p q=>exact pp (ydf (n:=0) (u:=.reckon w r p q) trivial hu R)
  | take r p=>exact pp (ydf (n:=0) (u:=.take r p) trivial hu R)
  | put p q=>exact pp (ydf (n:=0) (u:=.put p q) trivial hu R)
  | wait =>
   refine ⟨h,?_,R,Frm.refl,trivial⟩
   unfold yI
   rw [yC]
   show ob (yw _ _ [.val (.loc d),.val (.ins 11 [] [])] h) fnK=_
   rw [ybW 11 7,ybW 11 8,ybW 11 9,ybW 11 10]
   walk_at "pi"
   rfl
  | throw nm r =>
   refine ⟨h,?_,R,Frm.refl,yut R.nh⟩
   unfold yI
   rw [yC]
   show ob (yw _ _ [.val (.loc d),.val (.ins 10 ["name","slot"] [.str nm,.str r])] h) fnK=_
   rw [ybW 10 7,ybW 10 8,ybW 10 9]
   walk_at "pi"
   rw [yho (h2:=h) (ys:=[.str r]) DR.ob rfl (by rfl') (by walk_at "pi"),ydL DR hu.2,yB]
   (try walk_at "pi")
   rfl
  | if_ r x y=>exact absurd (show 4*(1+max (ybs x) (ybs y))+1<=1 from hd) (by omega)
  | either x y=>exact absurd (show 4*(1+max (ybs x) (ybs y))+1<=1 from hd) (by omega)
  | try_ x nm r y=>exact absurd (show 4*(1+max (ybs x) (ybs y))+1<=1 from hd) (by omega))
 | n+3=>ymG (yIU fun m hm=>yCp m)
end
section
variable {h:AH}
def ygG (f:Vw):List PV:=(iv16.filterMap fun i=>(f i).map fun v=>(i,PV.int v)).map fun p=>.tup [.int p.1,p.2]
theorem ywU {js vs:List Int}(d:ID js vs) {f:Vw}(hf:∀ j,gI (js.map .inl,vs.map PV.int) j=f j):ywR js vs=ygG f:=by
 unfold ywR ygG
 congr 2
 funext i
 unfold pk
 rw [(show isID (js.map .inl,vs.map PV.int) from ⟨js,vs,rfl,d⟩).get i,hf]
 cases f i<;>rfl
theorem yyE (f:Vw):Tl (ygG f):=by
 refine ⟨?_,fun x hx=>?_⟩
 .unfold ygG
  rw [length_map]
  have:=List.length_filterMap_le (fun i=>(f i).map fun v=>(i,PV.int v)) iv16
  have h:iv16.length=16:=rfl
  omega
 .unfold ygG at hx
  obtain ⟨⟨i,y⟩,h1,rfl⟩:=List.mem_map.mp hx
  obtain ⟨a,_,h2⟩:=List.mem_filterMap.mp h1
  obtain ⟨z,h3,h4⟩:=Option.map_eq_some_iff.mp h2
  cases h4
  exact ⟨_,z,rfl⟩
theorem yCq {ρ:PSt}:ynZ ρ h=some (.dct [] [],h):=id rfl
theorem yIV:ydW [] h=some (.ins 0 ["stack","last_seen"] [.loc (h.length+1),.loc (h.length+2)],h++[Nd.dct [] []]++[Nd.lst [.loc h.length]]++[Nd.dct [] []]):=by
 unfold ydW
 rw [yeO]
 show ob (yw _ _ [.own (.ins 0 [] [])] h) inK=_
 ac_rfl
 simp only [yCq,yB]
 simp
end
section
variable {h:AH}{X:Nat->Prop}{d o s b t:Nat}{l:List Nat}{es:List (List Key×List PV)}{bx hs:List Int}{σ:AS}
def LV (h:AH) (x:PV) (xs:List PV):Prop:=∀ e:List Nd,ybM [x] (h++e)=some (.lst xs,h++e)/\yfk [x] (h++e)=some (.int xs.length,h++e)
theorem LV.lst {xs:List PV}:LV h (.lst xs) xs:=fun e=>⟨yww,yGj⟩
theorem LV.at_ {x:PV}{xs:List PV}(v:LV h x xs):ybM [x] h=some (.lst xs,h)/\yfk [x] h=some (.int xs.length,h):=by have:=v [];rwa [append_nil] at this
local macro_rules | `(tactic| walk_at "pj")=>`(tactic| simp_all? only [yIV])
theorem yCr {y:PV}{w:Int}(v:LV h y (hs.map .int)):ydo [y,.int w] h=some (.ins 1 ["held","width","log"] [.loc h.length,.int w,.loc (h.length+4)],
  h++[Nd.lst (hs.map .int),.dct [] [],.lst [.loc (h.length+1)],.dct [] [],.ins 0 ["stack","last_seen"] [.loc (h.length+2),.loc (h.length+3)]]):=by
 unfold ydo
 rw [yeO]
 show ob (yw _ _ [.own (.ins 1 [] []),.val y,.val (.int w)] h) inK=_
 walk_at "pj"
 rw [v.at_.1]
 walk_at "pj"
 simp
theorem yzw {x y:PV}(vx:LV h x (bx.map .int)) (vy:LV h y (hs.map .int)):ycO [x,y] h=some (.ins 1 ["held","width","log","found"] [.loc h.length,.int bx.length,.loc (h.length+4),.lst (bx.map .int)],
  h++[Nd.lst (hs.map .int),.dct [] [],.lst [.loc (h.length+1)],.dct [] [],.ins 0 ["stack","last_seen"] [.loc (h.length+2),.loc (h.length+3)]]):=by
 unfold ycO
 rw [yeO]
 show ob (yw _ _ [.own (.ins 1 [] []),.val x,.val y] h) inK=_
 rw [ykG,yOM rfl]
 walk_at "pj"
 rw [vx.at_.2,yB,yCr vy,yB,length_map]
 walk_at "pj"
 rw [(vx _).1]
 walk_at "pj"
theorem yFl (h8:hs.length=8) (b1:1<=bx.length) (b16:bx.length<=16) (nh:∀ v∈hs,N64 v) (nb:∀ v∈bx,N64 v) :
  PR (h++[Nd.lst (hs.map .int),.dct [] [],.lst [.loc (h.length+1)],.dct [] [],.ins 0 ["stack","last_seen"] [.loc (h.length+2),.loc (h.length+3)]]++[.ins 1 ["held","width","log","found"] [.loc h.length,.int bx.length,.loc (h.length+4),.lst (bx.map .int)]])
   (· < h.length) (h.length+5) (h.length+4) (h.length+2) (h.length+3) [] (h.length+1) [] bx ⟨hs,fun _=>none,fun _=>none⟩:=by
 have gx:∀ (X:List Nd) (k:Nat),(h++X)[h.length+k]?=X[k]?:=fun X k=>by rw [getElem?_append_right (le_add_right _ _),Nat.add_sub_cancel_left]
 rw [append_assoc]
 refine ⟨⟨h.length,([],[]),[],[],⟨gx _ 5,gx _ 0,⟨gx _ 4,gx _ 2,gx _ 3,⟨gx _ 1,trivial⟩⟩,trivial,gx _ 1,by simp,by simp,isID.nil,by simp,⟨by simp,by simp,rfl⟩,h8,b1,b16,fun n hn=>by simp only [length_append];omega⟩,fun j=>rfl,fun j=>rfl⟩,nh,(fun j v e=>nomatch e),nb⟩
theorem yFm {l:Nat}{r:List Nat}{ds:List (List Key×List PV)}{ks:List Key}{xs:List PV}{js vs:List Int}(g:LG h o s b (l::r) ds ks xs) (e:h[l]?=some (.dct (js.map .inl) (vs.map PV.int))) (d:ID js vs):ygD [.loc o] h=some (.loc h.length,h++[.lst (ywR js vs)]):=by
 have ix:ydk (.loc s) (.int 0) h=some (.loc l,h):=by
  unfold ydk
  simp only [g.st]
  have:atI ((l::r).map PV.loc) 0=some (.loc l):=ycb (j:=0) rfl
  rw [this]
 unfold ygD
 rw [yC,ykG,yzj,yKw,yqd,show yd 0 ([PV.loc o].map .val++replicate (2-[PV.loc o].length) .no) h=some (.loc o,h) from rfl,yB,yjx g.ob,yB]
 show ob (ob (ob (ydk (.loc s) (.int 0) h) _) _) _=_
 rw [ix,yB]
 show ob (ybg (ygw (yoe (yd 1))) [.val (.loc o),.val (.loc l)] h) fnK=_
 rw [yBd,yHX]
 unfold yoe
 show ob (ob (ob (ob (some (PV.loc l,h)) _) _) _) _=_
 rw [yB]
 unfold yni
 have:=d.le
 simp only [e,yyB d (by omega)]
 rfl
def wrE:En->AS->List PV
 | .done,τ=>ygG τ.v
 | _,_=>[]
def hsE:En->AS->List Int->List Int
 | .done,τ,_=>τ.hs
 | _,_,hs=>hs
structure Res (h h2:AH) (r:PV) (e:En) (τ:AS) (hs:List Int):Prop where
 ex:∃ a,r=.tup [enV e,.loc a,.loc (a+1),.loc (a+2)]/\h.length<=a/\h2[a]?=some (.lst (ygG τ.s))/\h2[a+1]?=some (.lst (wrE e τ))/\h2[a+2]?=some (.lst ((hsE e τ hs).map .int))
 fr:Frm (· < h.length) h h2
 h8:(hsE e τ hs).length=8
theorem yCs {us:List T}{x y:PV}(hu:okL us) (hd:ybs us<=4) (vx:LV h x (bx.map .int)) (vy:LV h y (hs.map .int)) (vy2:∀ h2:AH,Frm (· < h.length) h h2->ybM [y] h2=some (.lst (hs.map .int),h2)) (h8:hs.length=8) (b1:1<=bx.length) (b16:bx.length<=16) (nh:∀ v∈hs,N64 v) (nb:∀ v∈bx,N64 v) :
  ∃ h2 r,ysc [.lst (yE us),x,y] h=some (r,h2)/\Res h h2 r (evL bx us ⟨hs,fun _=>none,fun _=>none⟩).1 (evL bx us ⟨hs,fun _=>none,fun _=>none⟩).2 hs:=by
 have R0:=yFl (h:=h) h8 b1 b16 nh nb
 obtain ⟨h2,e,R,F,_⟩:=yCp 20 _ _ _ _ _ _ _ _ _ us _ _ (by omega) hu (by simp;omega) R0
 obtain ⟨hl0,eo0⟩:=R0.ob
 have FF:Frm (· < h.length) h h2:=by
  refine ⟨Nat.le_trans (by simp) F.1,fun n hn hx=>(F.2 n (by simp only [length_append];omega) hx).trans ?_⟩
  rw [append_assoc,getElem?_append_left hn]
 unfold ysc
 rw [yC]
 show ∃ h2 r,ob (yw _ _ [.val (.lst (yE us)),.val x,.val y,.no,.no] h) fnK=_/\_
 walk_at "pj"
 rw [yzw vx vy,yB]
 rw [show (h++[Nd.lst (hs.map .int),.dct [] [],.lst [.loc (h.length+1)],.dct [] [],.ins 0 ["stack","last_seen"] [.loc (h.length+2),.loc (h.length+3)]]).length=h.length+5 by simp]
 rw [yho eo0 rfl (by rfl') rfl,e,yB,yqS,yB]
 generalize evL bx us ⟨hs,fun _=>none,fun _=>none⟩=q at *
 obtain ⟨en,τ⟩:=q
 obtain ⟨⟨hl,top,sj,sv,D,hv,hs'⟩,_⟩:=R
 obtain ⟨js,vs,rfl,hID⟩:=D.idT
 have sl:=D.idS.le
 have so:=yyB D.idS (by omega)
 rw [ywU D.idS hs'] at so
 have D1:=D.ext (x:=.lst (ygG τ.s))
 have hlen:=FF.1
 have get:∀ (x1 x2 x3:Nd),(h2++[x1]++[x2]++[x3])[h2.length]?=some x1/\(h2++[x1]++[x2]++[x3])[h2.length+1]?=some x2/\(h2++[x1]++[x2]++[x3])[h2.length+2]?=some x3:=fun x1 x2 x3=>by
  refine ⟨?_,?_,?_⟩<;>simp
 have stop:en≠.done->∃ h3 r,(ob (yK 0 "saw" ygk (ycg [1] "log" (yd 3)) (yn) [.val (.lst (yE us)),.val x,.val y,.val (.loc (h.length+5)),.val (enV en)] h2) fun x h=>ob (ybM [y] (h++[Nd.lst []])) fun x_1 h_1=>some (PV.tup [enV en,x,.loc h.length,.loc h_1.length],h_1++[x_1]))=some (r,h3)/\Res h h3 r en τ hs:=by
  intro ne
  refine ⟨_,_,?_,⟨⟨h2.length,rfl,FF.1,(get _ _ _).1,(get _ _ _).2.1,(get _ _ _).2.2⟩,FF.app.app.app,?_⟩⟩
  .rw [yfI (h:=h2) D.g.ob (by
    walk_at "pj"
    rw [yqn D.ob]) (by rfl') rfl,yGD D.g so,yB]
   rw [vy2 _ FF.app.app,yB]
   have w1:wrE en τ=[]:=by cases en<;>first|rfl|exact absurd rfl ne
   have w2:hsE en τ hs=hs:=by cases en<;>first|rfl|exact absurd rfl ne
   rw [w1,w2]
   simp
  .have w2:hsE en τ hs=hs:=by cases en<;>first|rfl|exact absurd rfl ne
   rw [w2];exact h8
 cases en with
 | done =>
  refine ⟨_,_,?_,⟨⟨h2.length,rfl,FF.1,(get _ _ _).1,(get _ _ _).2.1,(get _ _ _).2.2⟩,FF.app.app.app,D.h8⟩⟩
  show ob (oB (.bl true) h2) _=_
  walk_at "pj"
  rw [yfI (h:=h2) D.g.ob (by
   walk_at "pj"
   rw [yqn D.ob]) (by rfl') rfl,yGD D.g so,yB]
  rw [yfI D1.g.ob (by
   walk_at "pj"
   rw [yqn D1.ob]) (by rfl') rfl,yFm D1.g D1.tp hID,yB]
  have e2:ywR js vs=ygG τ.v:=ywU hID fun j=>by
   rw [<- hv j]
   show _=orV _ none
   cases gI (js.map .inl,vs.map PV.int) j<;>rfl
  rw [e2]
  have D2:=D1.ext (x:=.lst (ygG τ.v))
  rw [yyC D2.ob,yB,yrH D2.hh,yB]
  show _=some (PV.tup [enV .done,.loc h2.length,.loc (h2.length+1),.loc (h2.length+2)],h2++[Nd.lst (ygG τ.s)]++[Nd.lst (ygG τ.v)]++[Nd.lst (τ.hs.map .int)])
  simp
 | waits =>
  obtain ⟨h3,r,q1,q2⟩:=stop (by simp)
  refine ⟨h3,r,?_,q2⟩
  show ob (oB (.bl false) h2) _=_
  walk_at "pj"
  exact q1
 | fell nm v =>
  obtain ⟨h3,r,q1,q2⟩:=stop (by simp)
  refine ⟨h3,r,?_,q2⟩
  show ob (oB (.bl false) h2) _=_
  walk_at "pj"
  exact q1
end
theorem ygH:(("reckon":Str) = "let")=False:=by grind
theorem ygI:(("take":Str) = "let")=False:=by grind
theorem yfJ:(("take":Str) = "reckon")=False:=by grind
theorem yiZ:(("put":Str) = "let")=False:=by grind
theorem ygJ:(("put":Str) = "reckon")=False:=by grind
theorem ygK:(("put":Str) = "take")=False:=by grind
theorem yoy:(("if":Str) = "let")=False:=by grind
theorem yhO:(("if":Str) = "reckon")=False:=by grind
theorem ylT:(("if":Str) = "take")=False:=by grind
theorem yoz:(("if":Str) = "put")=False:=by grind
theorem ygL:(("either":Str) = "let")=False:=by grind
theorem yen:(("either":Str) = "reckon")=False:=by grind
theorem yfK:(("either":Str) = "take")=False:=by grind
theorem ygM:(("either":Str) = "put")=False:=by grind
theorem yhP:(("either":Str) = "if")=False:=by grind
theorem ylU:(("try":Str) = "let")=False:=by grind
theorem ygN:(("try":Str) = "reckon")=False:=by grind
theorem yjy:(("try":Str) = "take")=False:=by grind
theorem ylV:(("try":Str) = "put")=False:=by grind
theorem yoA:(("try":Str) = "if")=False:=by grind
theorem ygO:(("try":Str) = "either")=False:=by grind
theorem yhQ:(("throw":Str) = "let")=False:=by grind
theorem yeU:(("throw":Str) = "reckon")=False:=by grind
theorem ygP:(("throw":Str) = "take")=False:=by grind
theorem yhR:(("throw":Str) = "put")=False:=by grind
theorem yjz:(("throw":Str) = "if")=False:=by grind
theorem yeV:(("throw":Str) = "either")=False:=by grind
theorem yhS:(("throw":Str) = "try")=False:=by grind
theorem yjA:(("wait":Str) = "let")=False:=by grind
theorem yfL:(("wait":Str) = "reckon")=False:=by grind
theorem yhT:(("wait":Str) = "take")=False:=by grind
theorem yjB:(("wait":Str) = "put")=False:=by grind
theorem ylW:(("wait":Str) = "if")=False:=by grind
theorem yfM:(("wait":Str) = "either")=False:=by grind
theorem yjC:(("wait":Str) = "try")=False:=by grind
theorem ygQ:(("wait":Str) = "throw")=False:=by grind
section
variable {h:AH}
mutual
noncomputable def yyF:T->PV
 | .let_ r n=>.tup [.str "let",.str r,.int n]
 | .reckon w r s t=>.tup [.str "reckon",.str w,.str r,.str s,.str t]
 | .take r s=>.tup [.str "take",.str r,.str s]
 | .put s t=>.tup [.str "put",.str s,.str t]
 | .if_ r a b=>.tup [.str "if",.str r,.lst (ycl a),.lst (ycl b)]
 | .either a b=>.tup [.str "either",.lst (ycl a),.lst (ycl b)]
 | .try_ a nm r b=>.tup [.str "try",.lst (ycl a),.str nm,.str r,.lst (ycl b)]
 | .throw nm r=>.tup [.str "throw",.str nm,.str r]
 | .wait=>.tup [.str "wait"]
noncomputable def ycl:List T->List PV
 | []=>[]
 | t::r=>yyF t::ycl r
end
theorem ykZ:∀ ts:List T,ycl ts=ts.map yyF
 | []=>rfl
 | t::r=>by show yyF t::ycl r=_;rw [ykZ r];rfl
theorem yIW {z:Str}:isStr (.str z) h=true:=rfl
theorem yLt {w:Str}{x y:Int}(hw:okW w) (hx:N64 x):yiX [.str w,.int x,.int y] h=some (.int (rk w x y),h):=by
 have hm:MulOk x y:=.inl ⟨by have:=hx.1;omega,hx.2⟩
 unfold yiX
 rw [yC]
 show ob (yw _ _ [.val (.str w),.val (.int x),.val (.int y)] h) fnK=_
 unfold okW WDS at hw
 simp only [mem_cons,not_mem_nil,or_false] at hw
 unfold rk
 rcases hw with rfl|rfl|rfl|rfl|rfl
 .walk_at "pw"
 .walk_at "pw"
 .walk_at "pw"
  rw [if_pos hm]
 .walk_at "pw"
 .walk_at "pw"
end
local macro_rules | `(tactic| walk_at "pk")=>`(tactic| simp_all? only [$(sl_ "ygH ygI yfJ yiZ ygJ ygK yoy yhO ylT yoz ygL yen yfK ygM yhP ylU ygN yjy ylV yoA ygO yhQ yeU ygP yhR yjz yeV yhS yjA yfL yhT yjB ylW yfM yjC ygQ if_true if_false yIW"),*])
section
variable {h:AH}
theorem yFn {n:Nat}{xs:List Int}{i:Nat}{v:Int}{eo ei ev:XE}{ρ:PSt}(e1:ev ρ h=some (.int v,h)) (e2:eo ρ h=some (.loc n,h)) (e3:ei ρ h=some (.int i,h)) (e:h[n]?=some (.lst (xs.map .int))) (hi:i<xs.length):ytS eo ei ev ρ h=some (.nx ρ,h.set n (.lst ((xs.set i v).map .int))):=by
 unfold ytS
 rw [e1,yB,e2,yB,e3,yB]
 have e4:ixN (xs.map PV.int).length (i:Nat)=some i:=by
  unfold ixN
  simp [hi]
 simp only [e,e4]
 rw [map_set]
theorem yzx {n:Nat}{ks:List Key}{xs:List PV}{i:Int}{ek ed:XE}{ρ:PSt}(ek':ek ρ h=some (.int i,h)) (ed':ed ρ h=some (.loc n,h)) (e:h[n]?=some (.dct ks xs)):yBo true ek ed ρ h=some (.bl (!(yfj ks xs (.inl i)).isSome),h):=by
 unfold yBo
 rw [ek',yB,ed',yB]
 unfold yzY
 simp only [e,keyOf]
 rfl
theorem yuv {n:Nat}{ks:List Key}{xs:List PV}{i:Int}{y:PV}{ek ed ey:XE}{ρ:PSt}(ed':ed ρ h=some (.loc n,h)) (ek':ek ρ h=some (.int i,h)) (ey':ey ρ h=some (y,h)) (e:h[n]?=some (.dct ks xs)):ytT ed ek ey ρ h=some ((yfj ks xs (.inl i)).getD y,h):=by
 have hd:yzY (.loc n) h=some (ks,xs):=by unfold yzY;simp only [e]
 unfold ytT
 rw [ed',yB,hd,if_pos (show (some (ks,xs)).isSome=true from rfl),ek',yB,ey',yB,hd]
 rfl
end
section
variable {h:AH}
theorem yCt {js vs:List Int}(d:ID js vs):(yrJ (js.zip (vs.map PV.int))).map (·.1)=yof js:=by
 have hl:(vs.map PV.int).length=js.length:=by simp [d.ln]
 have hk:(js.zip (vs.map PV.int)).map (·.1)=js:=map_fst_zip (by omega)
 refine yyn ?_ ?_
 .have:=(ydH (js.zip (vs.map PV.int))).map (·.1)
  rw [hk] at this
  exact this
 .exact List.pairwise_map.mpr (ynD _)
theorem yCu {js vs:List Int}{e:XE}{inn:PV->PSt}(d:ID js vs) (he:∀ (j:Int) (x:PV),yfj (js.map .inl) (vs.map PV.int) (.inl j)=some x->e (inn (.int j)) h=some (.tup [.int j,x],h)) :
  yDo e inn ((yof js).map .int) h=some (ywR js vs,h):=by
 have hl:(vs.map PV.int).length=js.length:=by simp [d.ln]
 have e1:(yof js).map PV.int=(yrJ (js.zip (vs.map PV.int))).map fun p=>.int p.1:=by
  rw [<- yCt d,map_map];rfl
 rw [e1,yoa (fun p:Int×PV=>.int p.1) (fun p=>.tup [.int p.1,p.2]) fun p hp=>he p.1 p.2 ?_]
 .unfold ywR
  rw [yCh d]
 .exact (ykV d.nd hl).mp ((ydH _).mem_iff.mp hp)
theorem ysq {n:Nat}{js vs:List Int}(e:h[n]?=some (.dct (js.map .inl) (vs.map PV.int))) (d:ID js vs) {f:Vw}(hf:∀ j,gI (js.map .inl,vs.map PV.int) j=f j):ybP [.loc n] h=some (.lst (ygG f),h):=by
 have hl:=d.le
 rw [<- ywU d hf]
 unfold ybP
 rw [yC]
 show ob (ybg _ [.val (.loc n)] h) fnK=_
 rw [yBd,yMN,yGk]
 have il:xIL (xFz (ykC yqN (yb (yd 0) yn))) [.val (.loc n)] h=some ((yof js).map .int,h):=by
  unfold xIL
  rw [yMN,yKA,ytO,show yd 0 [PVar.val (.loc n)] h=some (.loc n,h) from rfl,yB,yzi,yB,yB]
  unfold yqN yni
  simp only [e,yow]
  rw [if_pos (by omega),yB]
  rfl
 have sl:((yof js).map PV.int).length<=100000:=by rw [length_map,(ylP js).length_eq];omega
 rw [il,yB,if_pos sl,yCu d fun j x hx=>?_]
 .rfl
 .show yeD _ [.val (.int j),.val (.loc n)] h=_
  rw [yKz,ytO,show yd 0 [PVar.val (.int j),.val (.loc n)] h=some (.int j,h) from rfl,yB,ytO,yyz (n:=n) (i:=j) rfl rfl e hx,yB,yzi,yB,yB,yB,if_pos (by simp)]
theorem yLu {r n:PV}:ydY [r,n] h=some (.ins 3 ["slot","number"] [r,n],h):=by
 unfold ydY
 rw [yeO]
 show ob (yw _ _ [.own (.ins 3 [] []),.val r,.val n] h) inK=_
 ac_rfl
theorem yCv {w r s t:PV}:ycC [w,r,s,t] h=some (.ins 4 ["word","slot","one","other"] [w,r,s,t],h):=by
 unfold ycC
 rw [yeO]
 show ob (yw _ _ [.own (.ins 4 [] []),.val w,.val r,.val s,.val t] h) inK=_
 ac_rfl
theorem yIX {r s:PV}:ydq [r,s] h=some (.ins 5 ["slot","place"] [r,s],h):=by
 unfold ydq
 rw [yeO]
 show ob (yw _ _ [.own (.ins 5 [] []),.val r,.val s] h) inK=_
 ac_rfl
theorem yLv {r s:PV}:ydZ [r,s] h=some (.ins 6 ["place","slot"] [r,s],h):=by
 unfold ydZ
 rw [yeO]
 show ob (yw _ _ [.own (.ins 6 [] []),.val r,.val s] h) inK=_
 ac_rfl
mutual
noncomputable def wT:T->Nat
 | .if_ _ a b=>1+wL a+wL b
 | .either a b=>1+wL a+wL b
 | .try_ a _ _ b=>1+wL a+wL b
 | _=>1
noncomputable def wL:List T->Nat
 | []=>0
 | t::r=>wT t+wL r
end
theorem yLw (t:T):1<=wT t:=by cases t<;>(simp only [wT];omega)
theorem yzy:∀ ts:List T,ts.length<=wL ts
 | []=>Nat.le_refl _
 | t::r=>by
  have:=yzy r
  have:=yLw t
  show r.length+1<=wT t+wL r
  omega
theorem yoB:∀ (a b:List T),wL (a++b)=wL a+wL b
 | [],b=>by simp [wL]
 | t::r,b=>by
  show wT t+wL (r++b)=wT t+wL r+wL b
  rw [yoB r b];omega
theorem yja:∀ (a b:List T),ybs (a++b)=max (ybs a) (ybs b)
 | [],b=>by simp [ybs]
 | t::r,b=>by
  show max (ykW t) (ybs (r++b))=max (max (ykW t) (ybs r)) (ybs b)
  rw [yja r b,Nat.max_assoc]
theorem ylX:∀ {a b:List T},okL a->okL b->okL (a++b)
 | [],_,_,k=>k
 | _::_,_,h,k=>⟨h.1,ylX h.2 k⟩
theorem ysr {t:T}:∀ {ts:List T},t∈ts->wT t<=wL ts/\ykW t<=ybs ts/\(okL ts->okT t)
 | u::r,hm=>by
  show wT t<=wT u+wL r/\ykW t<=max (ykW u) (ybs r)/\(okT u/\okL r->okT t)
  rcases mem_cons.mp hm with rfl|hm
  .exact ⟨by omega,by omega,fun k=>k.1⟩
  .obtain ⟨a,b,c⟩:=ysr hm
   exact ⟨by omega,by omega,fun k=>c k.2⟩
 | [],hm=>by simp at hm
theorem yeW {a b:List T}:ycl (a++b)=ycl a++ycl b:=by simp only [ykZ,map_append]
theorem yoC {a:List T}:(ycl a).length=a.length:=by rw [ykZ,length_map]
theorem yNJ {r:PV}{xs ys:List PV}:yeH [r,.lst xs,.lst ys] h=some (.ins 7 ["slot","parts","others"] [r,.lst xs,.lst ys],h):=by
 unfold yeH
 rw [yeO]
 show ob (yw _ _ [.own (.ins 7 [] []),.val r,.val (.lst xs),.val (.lst ys)] h) inK=_
 ac_rfl
theorem yCw {xs ys:List PV}:ycE [.lst xs,.lst ys] h=some (.ins 8 ["parts","others"] [.lst xs,.lst ys],h):=by
 unfold ycE
 rw [yeO]
 show ob (yw _ _ [.own (.ins 8 [] []),.val (.lst xs),.val (.lst ys)] h) inK=_
 ac_rfl
theorem yLx {nm r:PV}{xs ys:List PV}:yeb [.lst xs,nm,r,.lst ys] h=some (.ins 9 ["parts","name","slot","others"] [.lst xs,nm,r,.lst ys],h):=by
 unfold yeb
 rw [yeO]
 show ob (yw _ _ [.own (.ins 9 [] []),.val (.lst xs),.val nm,.val r,.val (.lst ys)] h) inK=_
 ac_rfl
theorem yFo {r s:PV}:ycP [r,s] h=some (.ins 10 ["name","slot"] [r,s],h):=by
 unfold ycP
 rw [yeO]
 show ob (yw _ _ [.own (.ins 10 [] []),.val r,.val s] h) inK=_
 ac_rfl
local macro_rules | `(tactic| walk_at "pm")=>`(tactic| simp_all? only [$(sl_ "yLu yCv yIX yLv yNJ yCw yLx yFo ygH ygI yfJ yiZ ygJ ygK yoy yhO ylT yoz ygL yen yfK ygM yhP ylU ygN yjy ylV yoA ygO yhQ yeU ygP yhR yjz yeV yhS yjA yfL yhT yjB ylW yfM yjC ygQ if_true if_false"),*])
theorem yCx:∀ (n:Nat) (us:List T),ybs us+1<=n->wL us<=1000->okL us->ybV n [.lst (ycl us)] h=some (.lst (yE us),h)
 | 0,us,hn,_,_=>by omega
 | n+1,us,hn,hw,hu=>by
  have G:=yCx n
  have wl:=yzy us
  unfold ybV
  rw [yC,ykZ,yiY]
  show ob (yw _ _ [.val (.lst (us.map yyF)),.no,.no] h) fnK=_
  walk_at "pm"
  rw [show xIL (yd 0) [PVar.val (.lst (us.map yyF)),.own (.lst []),.no] h=some (us.map yyF,h) from rfl,yB]
  refine ygg (fun i ρ h1=>h1=h/\∃ c,ρ=[.val (.lst (us.map yyF)),.own (.lst ((us.take i).map ybw)),c]) ⟨rfl,.no,rfl⟩ ?_ ?_
  .rintro i x ρ h1 hx ⟨rfl,c,rfl⟩
   rw [getElem?_map] at hx
   obtain ⟨u,hu1,rfl⟩:=Option.map_eq_some_iff.mp hx
   have hi:=(List.getElem?_eq_some_iff.mp hu1).1
   obtain ⟨k1,k2,k3⟩:=ysr (mem_of_getElem? hu1)
   replace k3:=k3 hu
   have ht:us.take (i+1)=us.take i++[u]:=by
    rw [take_add_one,hu1];rfl
   refine ⟨_,[.val (.lst (us.map yyF)),.own (.lst ((us.take (i+1)).map ybw)),.val (yyF u)],h1,rfl,.inl ?_,rfl,_,rfl⟩
   have hb:((us.take i).map ybw).length<100000:=by rw [length_map,length_take];omega
   rw [ht,map_append]
   cases u<;>simp only [yyF,List.set_cons_succ,List.set_cons_zero]
   case if_ r a b =>
    have hd:1+max (ybs a) (ybs b)<=ybs us:=k2
    have hw':1+wL a+wL b<=wL us:=k1
    rw [ybt yoy,ybt yhO,ybt ylT,ybt yoz]
    walk_at "pm"
    rw [yhm (xs:=(us.take i).map ybw) rfl]
    walk_at "pm"
    rw [G a (by omega) (by omega) k3.2.1,yB,G b (by omega) (by omega) k3.2.2,yB]
    walk_at "pm"
    rw [if_pos hb]
    rfl
   case either a b =>
    have hd:1+max (ybs a) (ybs b)<=ybs us:=k2
    have hw':1+wL a+wL b<=wL us:=k1
    rw [ybt ygL,ybt yen,ybt yfK,ybt ygM,ybt yhP]
    walk_at "pm"
    rw [yhm (xs:=(us.take i).map ybw) rfl]
    walk_at "pm"
    rw [G a (by omega) (by omega) k3.2.1,yB,G b (by omega) (by omega) k3.2.2,yB]
    walk_at "pm"
    rw [if_pos hb]
    rfl
   case try_ a nm r b =>
    have hd:1+max (ybs a) (ybs b)<=ybs us:=k2
    have hw':1+wL a+wL b<=wL us:=k1
    rw [ybt ylU,ybt ygN,ybt yjy,ybt ylV,ybt yoA,ybt ygO]
    walk_at "pm"
    rw [yhm (xs:=(us.take i).map ybw) rfl]
    walk_at "pm"
    rw [G a (by omega) (by omega) k3.2.2.1,yB,G b (by omega) (by omega) k3.2.2.2,yB]
    walk_at "pm"
    rw [if_pos hb]
    rfl
   case let_ =>
    (try walk_at "pm")
    rw [yhm (xs:=(us.take i).map ybw) rfl]
    walk_at "pm"
    rw [if_pos hb]
    rfl
   case reckon =>
    rw [ybt ygH]
    (try walk_at "pm")
    rw [yhm (xs:=(us.take i).map ybw) rfl]
    walk_at "pm"
    rw [if_pos hb]
    rfl
   case take =>
    rw [ybt ygI,ybt yfJ]
    (try walk_at "pm")
    rw [yhm (xs:=(us.take i).map ybw) rfl]
    walk_at "pm"
    rw [if_pos hb]
    rfl
   case put =>
    rw [ybt yiZ,ybt ygJ,ybt ygK]
    (try walk_at "pm")
    rw [yhm (xs:=(us.take i).map ybw) rfl]
    walk_at "pm"
    rw [if_pos hb]
    rfl
   case throw =>
    rw [ybt yhQ,ybt yeU,ybt ygP,ybt yhR,ybt yjz,ybt yeV,ybt yhS]
    (try walk_at "pm")
    rw [yhm (xs:=(us.take i).map ybw) rfl]
    walk_at "pm"
    rw [if_pos hb]
    rfl
   case wait =>
    rw [ybt yjA,ybt yfL,ybt yhT,ybt yjB,ybt ylW,ybt yfM,ybt yjC,ybt ygQ]
    (try walk_at "pm")
    rw [yhm (xs:=(us.take i).map ybw) rfl]
    walk_at "pm"
    rw [if_pos hb]
    rfl
  .rintro ρ' h' ⟨rfl,c,rfl⟩
   rw [length_map,take_length]
   walk_at "pm"
end
mutual
noncomputable def lgT:T->Nat
 | .if_ _ a b=>2+lgL a+lgL b
 | .either a b=>3+lgL a+lgL b
 | .try_ a _ _ b=>3+lgL a+lgL b
 | _=>1
noncomputable def lgL:List T->Nat
 | []=>0
 | t::r=>lgT t+lgL r
end
noncomputable def kdc:T->Nat
 | .let_ ..=>3|.reckon ..=>4|.take ..=>5|.put ..=>6|.if_ ..=>7|.either ..=>8|.try_ ..=>9|.throw ..=>10|.wait=>11
def ylY (k:Nat):PV:=.tup [.str "jump",.int (k:Int)]
def yeX:PV:=.tup [.str "settle"]
def yFp:PV:=.tup [.str "lay"]
mutual
noncomputable def yoD (f:Nat):T->List PV
 | .let_ r n=>[.tup [.str "let",.str r,.int n]]
 | .reckon w r s t=>[.tup [.str w,.str r,.str s,.str t]]
 | .take r s=>[.tup [.str "take",.str r,.str s]]
 | .put s t=>[.tup [.str "put",.str s,.str t]]
 | .throw nm r=>[.tup [.str "throw",.str nm,.str r]]
 | .wait=>[.tup [.str "wait"]]
 | .if_ r a b=>[.tup [.str "unless",.str r,.int ((f+2+lgL a:Nat):Int)]]++ybJ (f+1) a++[ylY (f+2+lgL a+lgL b)]++ybJ (f+2+lgL a) b
 | .either a b=>[.tup [.str "either",.int ((f+3+lgL a:Nat):Int)]]++ybJ (f+1) a++[yeX,ylY (f+3+lgL a+lgL b)]++ybJ (f+3+lgL a) b
 | .try_ a nm r b=>[.tup [.str "guard",.str nm,.str r,.int ((f+3+lgL a:Nat):Int)]]++ybJ (f+1) a++[yeX,ylY (f+3+lgL a+lgL b)]++ybJ (f+3+lgL a) b
noncomputable def ybJ (f:Nat):List T->List PV
 | []=>[]
 | t::r=>yoD f t++ybJ (f+lgT t) r
end
mutual
theorem yoE (f:Nat):∀ t:T,(yoD f t).length=lgT t
 | .let_ ..=>rfl
 | .reckon ..=>rfl
 | .take ..=>rfl
 | .put ..=>rfl
 | .throw ..=>rfl
 | .wait=>rfl
 | .if_ r a b=>by
  have h1:=ybC (f+1) a
  have h2:=ybC (f+2+lgL a) b
  show ([_]++ybJ (f+1) a++[_]++ybJ (f+2+lgL a) b).length=2+lgL a+lgL b
  simp only [length_append,length_cons,length_nil]
  omega
 | .either a b=>by
  have h1:=ybC (f+1) a
  have h2:=ybC (f+3+lgL a) b
  show ([_]++ybJ (f+1) a++[_,_]++ybJ (f+3+lgL a) b).length=3+lgL a+lgL b
  simp only [length_append,length_cons,length_nil]
  omega
 | .try_ a nm r b=>by
  have h1:=ybC (f+1) a
  have h2:=ybC (f+3+lgL a) b
  show ([_]++ybJ (f+1) a++[_,_]++ybJ (f+3+lgL a) b).length=3+lgL a+lgL b
  simp only [length_append,length_cons,length_nil]
  omega
theorem ybC (f:Nat):∀ ts:List T,(ybJ f ts).length=lgL ts
 | []=>rfl
 | t::r=>by
  have h1:=yoE f t
  have h2:=ybC (f+lgT t) r
  show (yoD f t++ybJ (f+lgT t) r).length=lgT t+lgL r
  rw [length_append]
  omega
end
theorem yuw:∀ (ts us:List T) (f:Nat),ybJ f (ts++us)=ybJ f ts++ybJ (f+lgL ts) us
 | [],us,f=>rfl
 | t::r,us,f=>by
  show yoD f t++ybJ (f+lgT t) (r++us)=(yoD f t++ybJ (f+lgT t) r)++ybJ (f+(lgT t+lgL r)) us
  rw [yuw r us,append_assoc,add_assoc]
mutual
theorem yOq:∀ t:T,lgT t<=3*wT t
 | .let_ ..=>by show 1<=3*1;omega
 | .reckon ..=>by show 1<=3*1;omega
 | .take ..=>by show 1<=3*1;omega
 | .put ..=>by show 1<=3*1;omega
 | .throw ..=>by show 1<=3*1;omega
 | .wait=>by show 1<=3*1;omega
 | .if_ r a b=>by
  have h1:=ynn a
  have h2:=ynn b
  show 2+lgL a+lgL b<=3*(1+wL a+wL b)
  omega
 | .either a b=>by
  have h1:=ynn a
  have h2:=ynn b
  show 3+lgL a+lgL b<=3*(1+wL a+wL b)
  omega
 | .try_ a nm r b=>by
  have h1:=ynn a
  have h2:=ynn b
  show 3+lgL a+lgL b<=3*(1+wL a+wL b)
  omega
theorem ynn:∀ ts:List T,lgL ts<=3*wL ts
 | []=>Nat.le_refl _
 | t::r=>by
  have h1:=yOq t
  have h2:=ynn r
  show lgT t+lgL r<=3*(wT t+wL r)
  omega
end
section
variable {h:AH}
theorem yLy {i:Nat}{ρ:PSt}{xs:List PV}(e:yd i ρ h=some (.lst xs,h)):xIL (yd i) ρ h=some (xs,h):=yOK e
theorem yux {f:Nat->Fn}(t:T):yBf "long" f (ybw t) h=f (kdc t) [ybw t] h:=by
 cases t<;>exact yEy (by rfl')
def yuy (n:Nat):Prop:=∀ (h:AH) (t:T),3*ykW t+1<=n->wT t<=1000->yqR n (kdc t) [ybw t] h=some (.int (lgT t:Nat),h)
theorem yGJ:∀ ts:List T,(ts.map fun t=>((lgT t:Nat):Int)).sum=((lgL ts:Nat):Int)
 | []=>rfl
 | t::r=>by
  rw [map_cons,List.sum_cons,yGJ r]
  show _=((lgT t+lgL r:Nat):Int)
  omega
theorem ycv {n:Nat}(G:yuy n) {ts:List T}(hd:3*ybs ts+1<=n) (hw:wL ts<=1000):ybU (n+1) [.lst (yE ts)] h=some (.int (lgL ts:Nat),h):=by
 unfold ybU
 rw [yC]
 show ob (ybg _ [.val (.lst (yE ts))] h) fnK=_
 have wc:=yzy ts
 ac_rfl
 rw [yLy rfl,yB,yiY]
 rw [if_pos (by rw [length_map];omega),yoa (f:=ybw) (g:=fun t=>.int ((lgT t:Nat):Int)) fun t ht=>by
  show yzh "long" (yqR n) (yd 0) [.val (ybw t)] h=_
  obtain ⟨m1,m2,_⟩:=ysr ht
  rw [yGh,yBc,yB,yux t]
  exact G h t (by omega) (by omega)]
 ac_rfl
 rw [show yDr [.lst (ts.map fun t=>PV.int ((lgT t:Nat):Int))] h=some (.int (lgL ts:Nat),h) by
  rw [show (ts.map fun t=>PV.int ((lgT t:Nat):Int))=(ts.map fun t=>((lgT t:Nat):Int)).map PV.int by rw [map_map];rfl]
  unfold yDr ydG
  simp only [ylL,yGJ]]
 rfl
theorem yIY {n:Nat}(G:yuy n) {r:Str}{a b:List T}(hd:3*ykW (.if_ r a b)+1<=n+3) (hw:wT (.if_ r a b)<=1000):ykT (n+2) [ybw (.if_ r a b)] h=some (.int (lgT (.if_ r a b):Nat),h):=by
 have hd:3*(1+max (ybs a) (ybs b))+1<=n+3:=hd
 have hw:1+wL a+wL b<=1000:=hw
 unfold ykT
 rw [yC]
 show ob (ybg _ [.val (.ins 7 ["slot","parts","others"] [.str r,.lst (yE a),.lst (yE b)])] h) fnK=_
 ac_rfl
 rw [ycv G (ts:=a) (by omega) (by omega)]
 ac_rfl
 rw [ycv G (ts:=b) (by omega) (by omega)]
 ac_rfl
 rw [show (2:Int)+(lgL a:Nat)+(lgL b:Nat)=((lgT (.if_ r a b):Nat):Int) by show _=((2+lgL a+lgL b:Nat):Int);omega]
theorem ywV {n:Nat}(G:yuy n) {a b:List T}(hd:3*ykW (.either a b)+1<=n+3) (hw:wT (.either a b)<=1000):yeI (n+2) [ybw (.either a b)] h=some (.int (lgT (.either a b):Nat),h):=by
 have hd:3*(1+max (ybs a) (ybs b))+1<=n+3:=hd
 have hw:1+wL a+wL b<=1000:=hw
 unfold yeI
 rw [yC]
 show ob (ybg _ [.val (.ins 8 ["parts","others"] [.lst (yE a),.lst (yE b)])] h) fnK=_
 ac_rfl
 rw [ycv G (ts:=a) (by omega) (by omega)]
 ac_rfl
 rw [ycv G (ts:=b) (by omega) (by omega)]
 ac_rfl
 rw [show (3:Int)+(lgL a:Nat)+(lgL b:Nat)=((lgT (.either a b):Nat):Int) by show _=((3+lgL a+lgL b:Nat):Int);omega]
theorem yFq {n:Nat}(G:yuy n) {nm r:Str}{a b:List T}(hd:3*ykW (.try_ a nm r b)+1<=n+3) (hw:wT (.try_ a nm r b)<=1000):yiW (n+2) [ybw (.try_ a nm r b)] h=some (.int (lgT (.try_ a nm r b):Nat),h):=by
 have hd:3*(1+max (ybs a) (ybs b))+1<=n+3:=hd
 have hw:1+wL a+wL b<=1000:=hw
 unfold yiW
 rw [yC]
 show ob (ybg _ [.val (.ins 9 ["parts","name","slot","others"] [.lst (yE a),.str nm,.str r,.lst (yE b)])] h) fnK=_
 ac_rfl
 rw [ycv G (ts:=a) (by omega) (by omega)]
 ac_rfl
 rw [ycv G (ts:=b) (by omega) (by omega)]
 ac_rfl
 rw [show (3:Int)+(lgL a:Nat)+(lgL b:Nat)=((lgT (.try_ a nm r b):Nat):Int) by show _=((3+lgL a+lgL b:Nat):Int);omega]
theorem yoF:∀ n:Nat,yuy n
 | 0=>fun h t hd=>by omega
 | n+1=>fun h t hd hw=>by
  cases t with
  | if_ r a b =>
   have h1:3*(1+max (ybs a) (ybs b))+1<=n+1:=hd
   obtain ⟨m,rfl⟩:∃ m,n=m+2:=⟨n-2,by omega⟩
   exact yIY (yoF m) hd hw
  | either a b =>
   have h1:3*(1+max (ybs a) (ybs b))+1<=n+1:=hd
   obtain ⟨m,rfl⟩:∃ m,n=m+2:=⟨n-2,by omega⟩
   exact ywV (yoF m) hd hw
  | try_ a nm r b =>
   have h1:3*(1+max (ybs a) (ybs b))+1<=n+1:=hd
   obtain ⟨m,rfl⟩:∃ m,n=m+2:=⟨n-2,by omega⟩
   exact yFq (yoF m) hd hw
  | _=>rfl
theorem yLz {i:Nat}{e:XE}{ρ:PSt}{xs:List PV}(hx:ρ[i]?=some (.own (.lst xs))) {ys:List PV}{h1:AH}(he:e ρ h=some (.lst ys,h1)) (hl:xs.length+ys.length<=100000):yzm i e ρ h=some (.nx (ρ.set i (.own (.lst (xs++ys)))),h1):=by
 unfold yzm
 rw [hx]
 show ob (e ρ h) _=_
 rw [he,yB]
 show (if _ then _ else _)=_
 rw [if_pos hl]
noncomputable def yCy (n:Nat):Prop:=∀ (h:AH) (t:T) (f:Nat),3*ykW t+2<=n->wT t<=1000->ykW t<=4->ygE n [ybw t,.int (f:Int)] h=some (.lst (yoD f t),h)
theorem yhU {n:Nat}(G:yCy n) {ts:List T}{f:Nat}(hd:3*ybs ts+2<=n) (hw:wL ts<=1000) (h2:ybs ts<=4):ycT (n+1) [.lst (yE ts),.int (f:Int)] h=some (.lst (ybJ f ts),h):=by
 unfold ycT
 rw [yC]
 show ob (yw _ _ [.val (.lst (yE ts)),.val (.int (f:Int)),.no,.no] h) fnK=_
 ac_rfl
 rw [yLy rfl,yB,yiY]
 refine ygg (fun i ρ h1=>h1=h/\∃ v,ρ=[.val (.lst (ts.map ybw)),.val (.int (f:Int)),.own (.lst (ybJ f (ts.take i))),v]) ⟨rfl,.no,rfl⟩ ?_ ?_
 .intro i x ρ h1 hx ⟨e1,v,e2⟩
  subst e1;subst e2
  rw [getElem?_map] at hx
  cases ht:ts[i]? with
  | none=>rw [ht] at hx;cases hx
  | some t =>
   rw [ht] at hx;cases hx
   have hm:t∈ts:=mem_of_getElem? ht
   obtain ⟨w1,d1,_⟩:=ysr hm
   have e3:ts.take (i+1)=ts.take i++[t]:=by rw [take_add_one,ht];rfl
   have e4:ybJ f (ts.take (i+1))=ybJ f (ts.take i)++yoD (f+lgL (ts.take i)) t:=by
    rw [e3,yuw]
    show _++(yoD _ t++[])=_
    rw [append_nil]
   have l1:=ybC f (ts.take i)
   have l2:=yoE (f+lgL (ts.take i)) t
   have l4:=ynn (ts.take i)
   have l5:=yOq t
   have l3:wL (ts.take i)<=wL ts:=by
    have:=yoB (ts.take i) (ts.drop i)
    rw [List.take_append_drop] at this
    omega
   refine ⟨_,[.val (.lst (ts.map ybw)),.val (.int (f:Int)),.own (.lst (ybJ f (ts.take (i+1)))),.val (ybw t)],h1,rfl,.inl ?_,rfl,_,rfl⟩
   rw [e4]
   refine (yLz (xs:=ybJ f (ts.take i)) rfl (ys:=yoD (f+lgL (ts.take i)) t) (h1:=h1) ?_ (by omega)).trans rfl
   have:yBu 2 ([.val (.lst (ts.map ybw)),.val (.int (f:Int)),.own (.lst (ybJ f (ts.take i))),.val (ybw t)]:PSt) h1=some (.int (ybJ f (ts.take i)).length,h1):=rfl
   show yba _ _ [.val (.lst (ts.map ybw)),.val (.int (f:Int)),.own (.lst (ybJ f (ts.take i))),.val (ybw t)] h1=_
   simp only [yB,yEx,x_call,ytO,yzi,yBc,yGe,yKw,this,x_i]
   rw [l1,show (f:Int)+((lgL (ts.take i):Nat):Int)=((f+lgL (ts.take i):Nat):Int) by omega]
   exact G h1 t _ (by omega) (by omega) (by omega)
 .intro ρ' h' ⟨e1,v,e2⟩
  subst e1;subst e2
  rw [length_map,take_length]
  rfl
local macro_rules | `(tactic| walk_at "pi")=>`(tactic| simp_all? only [yNI,Nat.reduceBEq])
theorem yIZ {r x y k:PV}:yci [.ins 7 ["slot","parts","others"] [r,x,y],k] h=some (.tup [.str "unless",r,k],h):=by
 unfold yci
 rw [yC]
 show ob (yw _ _ [.val (.ins 7 ["slot","parts","others"] [r,x,y]),.val k] h) fnK=_
 walk_at "pi"
theorem yJa {x y k:PV}:yci [.ins 8 ["parts","others"] [x,y],k] h=some (.tup [.str "either",k],h):=by
 unfold yci
 rw [yC]
 show ob (yw _ _ [.val (.ins 8 ["parts","others"] [x,y]),.val k] h) fnK=_
 walk_at "pi"
theorem yJb {nm r x y k:PV}:yci [.ins 9 ["parts","name","slot","others"] [x,nm,r,y],k] h=some (.tup [.str "guard",nm,r,k],h):=by
 unfold yci
 rw [yC]
 show ob (yw _ _ [.val (.ins 9 ["parts","name","slot","others"] [x,nm,r,y]),.val k] h) fnK=_
 walk_at "pi"
theorem yCz {ns xs} {k:Nat}:ycn [.ins 7 ns xs,.int (k:Int)] h=some (.lst [ylY k],h):=rfl
theorem yCA {ns xs} {k:Nat}:ycn [.ins 8 ns xs,.int (k:Int)] h=some (.lst [yeX,ylY k],h):=rfl
theorem yCB {ns xs} {k:Nat}:ycn [.ins 9 ns xs,.int (k:Int)] h=some (.lst [yeX,ylY k],h):=rfl
theorem yoG {n:Nat}(G:yCy n) {t:T}{a b:List T}{f g k:Nat}{ns:List Str}{xs:List PV}{fr:PV}{bt:List PV}(et:ybw t=.ins k ns xs) (q1:∀ h,yfl [7,8,9] "parts" (.ins k ns xs) h=some (.lst (yE a),h)) (q2:∀ h,yfl [7,8,9] "others" (.ins k ns xs) h=some (.lst (yE b),h))
  (q3:∀ h,yci [.ins k ns xs,.int ((f+g+lgL a:Nat):Int)] h=some (fr,h)) (q4:∀ h,ycn [.ins k ns xs,.int ((f+g+lgL a+lgL b:Nat):Int)] h=some (.lst bt,h)) (hg:lgT t=g+lgL a+lgL b) (h3:g<=3) (hb:bt.length<=2) (hd:3*(1+max (ybs a) (ybs b))+2<=n+3) (hw:1+wL a+wL b<=1000) (h2:1+max (ybs a) (ybs b)<=4) (e1:ykW t=1+max (ybs a) (ybs b)) (e2:wT t=1+wL a+wL b) :
  yft (n+2) [.ins k ns xs,.int (f:Int)] h=some (.lst ([fr]++ybJ (f+1) a++bt++ybJ (f+g+lgL a) b),h):=by
 have el:yBf "long" (yqR 20) (.ins k ns xs) h=some (.int ((g+lgL a+lgL b:Nat):Int),h):=by rw [<- et,yux t,yoF 20 h t (by omega) (by omega),hg]
 have ea:=yhU (h:=h) G (ts:=a) (f:=f+1) (by omega) (by omega) (by omega)
 have eb:=yhU (h:=h) G (ts:=b) (f:=f+g+lgL a) (by omega) (by omega) (by omega)
 have eo:=ycv (h:=h) (yoF 19) (ts:=b) (by omega) (by omega)
 have la:=ybC (f+1) a
 have lb:=ybC (f+g+lgL a) b
 have wa:=ynn a
 have wb:=ynn b
 unfold yft
 rw [yC]
 show ob (yw _ _ [.val (.ins k ns xs),.val (.int (f:Int)),.no,.no,.no,.no] h) fnK=_
 have z1:((f+g+lgL a+lgL b:Nat):Int)-((lgL b:Nat):Int)=((f+g+lgL a:Nat):Int):=by omega
 have z2:(f:Int)+((g+lgL a+lgL b:Nat):Int)=((f+g+lgL a+lgL b:Nat):Int):=by omega
 have z3:(f:Int)+1=((f+1:Nat):Int):=by omega
 simp_all? only [q1,q2,el,eo,z1,z2,z3,ea,eb,q3,q4]
 rw [if_pos (by omega)]
 rw [if_pos (by simp only [length_append,length_cons,length_nil];omega)]
 rw [if_pos (by simp only [length_append,length_cons,length_nil];omega)]
theorem yss:∀ n:Nat,yCy n
 | 0=>fun h t f hd=>by omega
 | n+1=>fun h t f hd hw h2=>by
  unfold ygE
  rw [yC]
  show ob (yw _ _ [.val (ybw t),.val (.int (f:Int))] h) fnK=_
  cases t with
  | if_ r a b =>
   have h1:3*(1+max (ybs a) (ybs b))+2<=n+1:=hd
   obtain ⟨m,rfl⟩:∃ m,n=m+2:=⟨n-2,by omega⟩
   have e:=yoG (h:=h) (f:=f) (yss m) (t:=.if_ r a b) rfl (fun _=>yor) (fun _=>ymB) (fun _=>yIZ) (fun _=>yCz) rfl (by decide) (by simp) h1 hw h2 rfl rfl
   show ob (yw _ _ [.val (.ins 7 ["slot","parts","others"] [.str r,.lst (yE a),.lst (yE b)]),.val (.int (f:Int))] h) fnK=_
   walk_at "pi"
   exact congrArg (ob · _) e |>.trans rfl
  | either a b =>
   have h1:3*(1+max (ybs a) (ybs b))+2<=n+1:=hd
   obtain ⟨m,rfl⟩:∃ m,n=m+2:=⟨n-2,by omega⟩
   have e:=yoG (h:=h) (f:=f) (yss m) (t:=.either a b) rfl (fun _=>yhN) (fun _=>yhn) (fun _=>yJa) (fun _=>yCA) rfl (by decide) (by simp) h1 hw h2 rfl rfl
   show ob (yw _ _ [.val (.ins 8 ["parts","others"] [.lst (yE a),.lst (yE b)]),.val (.int (f:Int))] h) fnK=_
   walk_at "pi"
   exact congrArg (ob · _) e |>.trans rfl
  | try_ a nm r b =>
   have h1:3*(1+max (ybs a) (ybs b))+2<=n+1:=hd
   obtain ⟨m,rfl⟩:∃ m,n=m+2:=⟨n-2,by omega⟩
   have e:=yoG (h:=h) (f:=f) (yss m) (t:=.try_ a nm r b) rfl (fun _=>ymC) (fun _=>ykQ) (fun _=>yJb) (fun _=>yCB) rfl (by decide) (by simp) h1 hw h2 rfl rfl
   show ob (yw _ _ [.val (.ins 9 ["parts","name","slot","others"] [.lst (yE a),.str nm,.str r,.lst (yE b)]),.val (.int (f:Int))] h) fnK=_
   walk_at "pi"
   exact congrArg (ob · _) e |>.trans rfl
  | _=>rfl
theorem yzz (ts:List T) (hd:ybs ts<=4) (hw:wL ts<=1000):ykU [.lst (yE ts)] h=some (.lst (ybJ 0 ts++[yFp]),h):=by
 have e:=yhU (h:=h) (yss 19) (ts:=ts) (f:=0) (by omega) hw hd
 have l:=ybC 0 ts
 have w:=ynn ts
 unfold ykU
 rw [yC]
 show ob (ybg _ [.val (.lst (yE ts))] h) fnK=_
 ac_rfl
 rw [show ycT 20 [.lst (yE ts),.int 0] h=_ from e]
 ac_rfl
 rw [if_pos (by omega)]
 rfl
end
section
variable {h:AH}
theorem ydD (a:Int) {b:Int}(h:0<b):0<=a%b/\a%b<b:=⟨Int.emod_nonneg a (by omega),Int.emod_lt_of_pos a h⟩
def yJt (c:Int):Int:=c*48271%999999999989
theorem ynG (c:Int):ycf [.int c] h=some (.int (yJt c),h):=by
 unfold ycf
 rw [yC]
 show ob (ybg _ [.val (.int c)] h) fnK=_
 ac_rfl
 rfl
def ywW (c:Int):Int:=c*982451653%18446744073709551616
theorem ywX (c:Int):ydI [.int c] h=some (.int (ywW c),h):=by
 unfold ydI
 rw [yC]
 show ob (ybg _ [.val (.int c)] h) fnK=_
 ac_rfl
 rfl
theorem yCC (c:Int):N64 (ywW c):=ydD _ (by decide)
theorem yzA {α:Type}(xs:List α) (i n:Int) (hn:xs.length=n) (h0:0<=i) (h1:i<n):∃ x,atI xs i=some x/\x∈xs:=by
 obtain ⟨j,rfl⟩:∃ j:Nat,i=(j:Int):=⟨i.toNat,by omega⟩
 have hj:j<xs.length:=by omega
 exact ⟨xs[j],ycb (List.getElem?_eq_getElem hj),getElem_mem hj⟩
theorem yzB (m:Int):∃ (L:Int) (z:Str),atI [PV.int 2,PV.int 3,PV.int 8] (m%3)=some (.int L)/\yLT (.str "abcdefgh") none (some L) h=some (.str z,h)/\(z.length:Int)=L/\0<L/\L<=8/\(z.cps.toList.length:Int)=L/\∀ n∈z.cps.toList,(⟨#[n]⟩:Str)∈SL:=by
 have b:m%3=0\/m%3=1\/m%3=2:=by omega
 rcases b with e|e|e
 .exact ⟨2,"ab",by rw [e];exact ytf,rfl,by rfl',by decide,by decide,by rfl',by rfl'⟩
 .exact ⟨3,"abc",by rw [e];exact yDt,rfl,by rfl',by decide,by decide,by rfl',by rfl'⟩
 .exact ⟨8,"abcdefgh",by rw [e];exact yIl,rfl,by rfl',by decide,by decide,by rfl',by rfl'⟩
theorem yGK {c:XT}{s:XS}(I:Nat->PSt->AH->Prop) (E:PSt->AH->Prop)
  (step:∀ m ρ h,I m ρ h->(c ρ h=some (false,h)/\E ρ h)\/∃ ρ' m',c ρ h=some (true,h)/\s ρ h=some (.nx ρ',h)/\m'<m/\I m' ρ' h) :
  ∀ (fuel m:Nat) (ρ:PSt) (h:AH),m<fuel->I m ρ h->∃ ρ',whl c s fuel ρ h=some (.nx ρ',h)/\E ρ' h
 | 0,_,_,_,hm,_=>by omega
 | fuel+1,m,ρ,h,hm,hI=>by
  rw [yrG]
  rcases step m ρ h hI with ⟨e1,e2⟩|⟨ρ',m',e1,e2,e3,e4⟩
  .rw [e1,yB]
   exact ⟨ρ,rfl,e2⟩
  .obtain ⟨ρ2,q1,q2⟩:=yGK I E step fuel m' ρ' h (by omega) e4
   rw [e1,yB,if_pos rfl,e2,yB]
   exact ⟨ρ2,q1,q2⟩
theorem yLA {c:XT}{s:XS}{β:Type}{P:Option β->Prop}{k:Out->AH->Option β}{ρ:PSt}{h:AH}{fuel:Nat}(I:Nat->PSt->AH->Prop) (E:PSt->AH->Prop) (m:Nat) (hm:m<fuel) (h0:I m ρ h)
  (step:∀ m ρ h,I m ρ h->(c ρ h=some (false,h)/\E ρ h)\/∃ ρ' m',c ρ h=some (true,h)/\s ρ h=some (.nx ρ',h)/\m'<m/\I m' ρ' h)
  (fin:∀ ρ',E ρ' h->P (k (.nx ρ') h)):P (ob (ymA fuel c s ρ h) k):=by
 obtain ⟨ρ',e,q⟩:=yGK I E step fuel m ρ h hm h0
 rw [show ymA fuel c s ρ h=_ from e,yB]
 exact fin ρ' q
structure Pl (ts:List T) (w d:Nat):Prop where
 w:wL ts<=w
 d:ybs ts<=d
 ok:okL ts
theorem pl1 {t:T}(h1:wT t=1) (h2:ykW t=0) (h3:okT t):Pl [t] 4 0:=⟨by show wT t+0<=4;omega,by show max (ykW t) 0<=0;omega,h3,trivial⟩
theorem yFr (m c:Int):∃ ts,Pl ts 4 0/\yfv [.int m,.int c] h=some (.lst (ycl ts),h):=by
 unfold yfv
 rw [yC]
 show ∃ ts,Pl ts 4 0/\ob (yw _ _ [.val (.int m),.val (.int c),.no,.no,.no,.no,.no,.no,.no,.no,.no] h) fnK=_
 obtain ⟨L,z,e1,e2,e3,e4,e5,e6,e7⟩:=yzB (h:=h) m
 have ix:∀ k:Int,∃ n,atI z.cps.toList (k%L)=some n/\okS ⟨#[n]⟩:=fun k=>by
  obtain ⟨x,hx,hm⟩:=yzA z.cps.toList (k%L) L e6 (ydD k e4).1 (ydD k e4).2
  exact ⟨x,hx,e7 x hm⟩
 have hz:z.length<=100000:=by omega
 have hL:0<L/\L<1073741824:=by omega
 obtain ⟨n1,i1,o1⟩:=ix (m/33)
 obtain ⟨n2,i2,o2⟩:=ix (m/33/L)
 obtain ⟨n3,i3,o3⟩:=ix (m/33/L/L)
 have m5:=ydD (m/33/1000) (show (0:Int)<5 by decide)
 have m3:=ydD (m/33/1000) (show (0:Int)<3 by decide)
 obtain ⟨x5,a5,j5⟩:=yzA (WDS.map PV.str) (m/33/1000%5) 5 rfl m5.1 m5.2
 obtain ⟨w5',hw5,rfl⟩:=List.mem_map.mp j5
 obtain ⟨x3,a3,j3⟩:=yzA ((["plus","minus","times"]:List Str).map PV.str) (m/33/1000%3) 3 rfl m3.1 m3.2
 obtain ⟨w3',hw3,rfl⟩:=List.mem_map.mp j3
 have hw3:okW w3':=by
  simp only [mem_cons,not_mem_nil,or_false] at hw3
  rcases hw3 with rfl|rfl|rfl<;>simp [okW,WDS]
 have a5:atI [PV.str "plus",PV.str "minus",PV.str "times",PV.str "less",PV.str "same"] (m/33/1000%5)=some (.str w5'):=a5
 have a3:atI [PV.str "plus",PV.str "minus",PV.str "times"] (m/33/1000%3)=some (.str w3'):=a3
 have sm4:N64 (m/33/1000%4):=by have:=ydD (m/33/1000) (show (0:Int)<4 by decide);exact ⟨this.1,by omega⟩
 have sm3:N64 (m/33/3000%3):=by have:=ydD (m/33/3000) (show (0:Int)<3 by decide);exact ⟨this.1,by omega⟩
 (try ac_rfl)
 rw [e1]
 (try ac_rfl)
 rw [e2]
 (try ac_rfl)
 rw [if_pos hz]
 (try ac_rfl)
 rw [e3]
 (try simp only [e4,hL,and_self,if_true])
 rw [i1,i2,i3]
 simp only [bind_some,hz,if_true,yB,ywX,a5,a3]
 (try ac_rfl)
 simp only [sgn]
 generalize (⟨#[n1]⟩:Str)=s1 at *
 generalize (⟨#[n2]⟩:Str)=s2 at *
 generalize (⟨#[n3]⟩:Str)=s3 at *
 split
 .exact ⟨[.let_ s1 (ywW c)],pl1 rfl rfl ⟨o1,yCC c⟩,rfl⟩
 split
 .exact ⟨[.let_ s1 _],pl1 rfl rfl ⟨o1,sm4⟩,rfl⟩
 split
 .exact ⟨[.reckon w5' s1 s2 s3],pl1 rfl rfl ⟨hw5,o1,o2,o3⟩,rfl⟩
 split
 .exact ⟨[.take s1 s2],pl1 rfl rfl ⟨o1,o2⟩,rfl⟩
 split
 .exact ⟨[.put s1 s2],pl1 rfl rfl ⟨o1,o2⟩,rfl⟩
 .exact ⟨[.let_ s1 _,.take s2 s1,.reckon w3' s2 s2 s3,.put s1 s2],⟨by show 1+(1+(1+(1+0)))<=4;omega,by show max 0 (max 0 (max 0 (max 0 0)))<=0;omega,⟨o1,sm3⟩,⟨o2,o1⟩,⟨hw3,o2,o2,o3⟩,⟨o1,o2⟩,trivial⟩,rfl⟩
theorem yFs (c:Int):∃ bx:List Int,1<=bx.length/\bx.length<=16/\(∀ v∈bx,N64 v)/\yfx [.int c] h=some (.lst (bx.map .int),h):=by
 unfold yfx
 rw [yC]
 show ∃ bx:List Int,1<=bx.length/\bx.length<=16/\(∀ v∈bx,N64 v)/\ob (yw _ _ [.val (.int c),.no,.no,.no,.no,.no] h) fnK=_
 ac_rfl
 rw [ynG]
 ac_rfl
 generalize yJt c=m
 have b16:=ydD (m/4) (show (0:Int)<16 by decide)
 obtain ⟨n,en,n1,n16⟩:∃ n:Nat,atI [PV.int 1,.int 2,.int 3,.int (1+m/4%16)] (m%4)=some (.int n)/\1<=n/\n<=16:=by
  have b4:m%4=0\/m%4=1\/m%4=2\/m%4=3:=by omega
  rcases b4 with e|e|e|e<;>rw [e]
  .exact ⟨1,ytf,by omega,by omega⟩
  .exact ⟨2,yDt,by omega,by omega⟩
  .exact ⟨3,yIl,by omega,by omega⟩
  .exact ⟨(1+m/4%16).toNat,by rw [yNt];congr 2;omega,by omega,by omega⟩
 rw [en,bind_some,yB]
 rw [ykK (j:=(n:Int)) (h1:=h) (by ac_rfl) (by omega) (by omega),yB]
 refine yrF (P:=fun (q:Option (PV×AH))=>∃ bx:List Int,1<=bx.length/\bx.length<=16/\(∀ v∈bx,N64 v)/\q=some (.lst (bx.map .int),h)) (fun i ρ h1=>h1=h/\∃ bx:List Int,bx.length=i/\(∀ v∈bx,N64 v)/\∃ c4 c5:PVar,ρ=[.val (.int c),.val (.int m),.val (.int n),.own (.lst (bx.map .int)),c4,c5]) (fun _ _=>False) ⟨rfl,[],rfl,by simp,.no,.no,rfl⟩ ?_ ?_ (fun _ _ z=>z.elim)
 .rintro i x ρ h1 hx ⟨rfl,bx,hb,hN,c4,c5,rfl⟩
  obtain ⟨hi,rfl⟩:=yhK hx
  rw [zero_add]
  have hi:i<n:=by simpa using hi
  have m5:=ydD (m/64/((i:Int)+1)) (show (0:Int)<5 by decide)
  obtain ⟨v,ev,hv⟩:∃ v:Int,atI [PV.int (m/64/((i:Int)+1)%5),.int (ywW (c+(i:Int)*i))] ((m/1000+i)%2)=some (.int v)/\N64 v:=by
   have b2:(m/1000+i)%2=0\/(m/1000+i)%2=1:=by omega
   rcases b2 with e|e<;>rw [e]
   .exact ⟨_,ytf,m5.1,by omega⟩
   .exact ⟨_,yDt,yCC _⟩
  refine ⟨_,.nx [.val (.int c),.val (.int m),.val (.int n),.own (.lst ((bx++[v]).map .int)),.val (.int i),.val (.lst [.int (m/64/((i:Int)+1)%5),.int (ywW (c+(i:Int)*i))])],h1,rfl,?_,rfl,bx++[v],by simp [hb],fun u hu=>?_,_,_,rfl⟩
  .ac_rfl
   rw [if_pos (by omega),if_pos (show MulOk i i from .inl ⟨by omega,by omega⟩),ywX,yB,yhm (xs:=bx.map .int) rfl]
   ac_rfl
   rw [ev,bind_some,yB,if_pos (by rw [length_map];omega),map_append]
   rfl
  .rcases List.mem_append.mp hu with hu|hu
   .exact hN u hu
   .rw [List.mem_singleton.mp hu];exact hv
 .rintro ρ' h' ⟨rfl,bx,hb,hN,c4,c5,rfl⟩
  ac_rfl
  have hb:bx.length=n:=by rw [hb];simp [yvO]
  exact ⟨bx,by omega,by omega,hN,rfl⟩
theorem yFt (c:Int):∃ hs:List Int,hs.length=8/\(∀ v∈hs,N64 v)/\yfy [.int c] h=some (.loc h.length,h++[.lst (hs.map .int)]):=by
 unfold yfy
 rw [yC]
 show ∃ hs:List Int,hs.length=8/\(∀ v∈hs,N64 v)/\ob (yw _ _ [.val (.int c),.no,.no] h) fnK=_
 ac_rfl
 rw [ynG]
 ac_rfl
 generalize yJt c=m
 rw [ykK (j:=8) (h1:=h) (by ac_rfl) (by omega) (by omega),yB]
 have e8:yvO 0 (8:Int).toNat=([0,1,2,3,4,5,6,7]:List Int).map .int:=rfl
 rw [e8,if_pos (by decide),yoa (fun k:Int=>PV.int k) (fun k:Int=>.int (m/(k*k+3)%4)) fun k hk=>?_]
 .have m8:=ydD m (show (0:Int)<8 by decide)
  obtain ⟨i,hi⟩:=Int.eq_ofNat_of_zero_le m8.1
  have hN:∀ v∈([0,1,2,3,4,5,6,7]:List Int).map (fun k=>m/(k*k+3)%4),N64 v:=fun v hv=>by
   obtain ⟨k,_,rfl⟩:=List.mem_map.mp hv
   have:=ydD (m/(k*k+3)) (show (0:Int)<4 by decide)
   exact ⟨this.1,by omega⟩
  refine ⟨(([0,1,2,3,4,5,6,7]:List Int).map (fun k=>m/(k*k+3)%4)).set i (ywW c),by simp,yCn hN (yCC c),?_⟩
  rw [show ([0,1,2,3,4,5,6,7]:List Int).map (fun k:Int=>PV.int (m/(k*k+3)%4))=(([0,1,2,3,4,5,6,7]:List Int).map (fun k=>m/(k*k+3)%4)).map .int by rw [map_map];rfl]
  generalize hl:([0,1,2,3,4,5,6,7]:List Int).map (fun k=>m/(k*k+3)%4)=hs0
  have h8:hs0.length=8:=by rw [<- hl];rfl
  ac_rfl
  rw [yFn (n:=h.length) (xs:=hs0) (i:=i) (v:=ywW c) (by
   ac_rfl
   rw [ywX]) rfl (by
   ac_rfl
   rw [hi]) (by simp) (by omega),yB,ywv]
  ac_rfl
  simp
 .show xOp _ _ _ [.val (.int k),.val (.int m)] h=_
  simp only [mem_cons,not_mem_nil,or_false] at hk
  rcases hk with rfl|rfl|rfl|rfl|rfl|rfl|rfl|rfl<;>(ac_rfl;rfl)
theorem yCD (k:Int):∃ n,atI ("abc":Str).cps.toList (k%3)=some n/\okS ⟨#[n]⟩:=by
 obtain ⟨x,hx,hm⟩:=yzA ("abc":Str).cps.toList (k%3) 3 (by rfl') (ydD k (by decide)).1 (ydD k (by decide)).2
 exact ⟨x,hx,(show ∀ n∈("abc":Str).cps.toList,(⟨#[n]⟩:Str)∈SL by rfl') x hm⟩
theorem yLX:("abc":Str).length=3:=by rfl'
theorem yst (cs:List Int) (lo hi:Option Int):yqI (cs.map PV.int) lo hi=(yqI cs lo hi).map .int:=by
 unfold yqI
 rw [length_map,List.map_take,List.map_drop]
theorem ywY (cs:List Int) (i j:Nat) (hij:i<=j):(yqI cs (some (i:Int)) (some (j:Int))).length=min j cs.length-min i cs.length:=by
 unfold yqI
 rw [HT.sIx_nat,HT.sIx_nat,length_take,length_drop]
 omega
theorem yCE {s:Str}{u:T}(hs:okS s) (h1:wT u=1) (h2:ykW u=0) (h3:okT u):(wL [u]<=2/\ybs [u]<=1/\okL [u])/\wL [.if_ s [u] []]<=2/\ybs [.if_ s [u] []]<=1/\okL [.if_ s [u] []] :=
 ⟨⟨by show wT u+0<=2;omega,by show max (ykW u) 0<=1;omega,h3,trivial⟩,by show 1+(wT u+0)+0+0<=2;omega,by show max (1+max (max (ykW u) 0) 0) 0<=1;omega,⟨hs,⟨h3,trivial⟩,trivial⟩,trivial⟩
end
section
variable {h:AH}
theorem ysu (a b d:Str) (k:Int):∃ s:Str,atI [PV.str a,PV.str b,PV.str d] (k%3)=some (.str s):=by
 obtain ⟨x,hx,hm⟩:=yzA [PV.str a,PV.str b,PV.str d] (k%3) 3 rfl (ydD k (by decide)).1 (ydD k (by decide)).2
 simp only [mem_cons,not_mem_nil,or_false] at hm
 rcases hm with rfl|rfl|rfl<;>exact ⟨_,hx⟩
theorem yFu (m:Int) (one other:List T) (a b d:Str) (ho:wL one<=1000) (io:okL one) (ir:okL other):∃ t,wT t<=4+wL one+wL other/\ykW t<=1+max (max (ybs one) 1) (ybs other)/\okT t /\
  yfw [.int m,.lst (ycl one),.lst (ycl other),.lst [.str a,.str b,.str d]] h=some (yyF t,h):=by
 unfold yfw
 rw [yC]
 show ∃ t,_/\_/\_/\ob (yw _ _ [.val (.int m),.val (.lst (ycl one)),.val (.lst (ycl other)),.val (.lst [.str a,.str b,.str d]),.no,.no,.no,.no] h) fnK=_
 obtain ⟨n1,i1,o1⟩:=yCD (m/9)
 obtain ⟨n2,i2,o2⟩:=yCD (m/243)
 obtain ⟨s3,i3⟩:=ysu a b d (m/27)
 obtain ⟨s4,i4⟩:=ysu a b d (m/81)
 have l1:=yzy one
 have q1:(ycl one).length<=99999:=by rw [yoC];omega
 have b3:m%3=0\/m%3=1\/m%3=2:=by omega
 have c3:m/3%3=0\/m/3%3=1\/m/3%3=2:=by omega
 have nil:wL []<=2/\ybs []<=1/\okL []:=⟨by decide,by decide,trivial⟩
 rcases b3 with e|e|e
 .simp_all? only [i1,e,yLX,sgn,bind_some,↓reduceIte]
  exact ⟨.if_ ⟨#[n1]⟩ one other,by show 1+wL one+wL other<=_;omega,by show 1+max (ybs one) (ybs other)<=_;omega,⟨o1,io,ir⟩,rfl⟩
 .have fin:∀ b1:List T,wL b1<=2/\ybs b1<=1/\okL b1->∃ t,wT t<=4+wL one+wL other/\ykW t<=1+max (max (ybs one) 1) (ybs other)/\okT t/\yyF t=.tup [.str "either",.lst (ycl (one++b1)),.lst (ycl other)]:=by
   rintro b1 ⟨w1,d1,k1⟩
   refine ⟨.either (one++b1) other,?_,?_,⟨trivial,ylX io k1,ir⟩,rfl⟩
   .show 1+wL (one++b1)+wL other<=_
    rw [yoB];omega
   .show 1+max (ybs (one++b1)) (ybs other)<=_
    rw [yja];omega
  obtain ⟨u,v⟩:=yCE (u:=.wait) o1 rfl rfl trivial
  rcases c3 with f|f|f<;>simp_all? only [i1,e,f,q1,yLX,sgn,bind_some,Int.reduceEq,if_true,if_false,↓reduceIte]
  .obtain ⟨t,t1,t2,t3,t4⟩:=fin [] nil
   exact ⟨t,t1,t2,t3,by rw [t4];simp only [append_nil]⟩
  .obtain ⟨t,t1,t2,t3,t4⟩:=fin _ u
   exact ⟨t,t1,t2,t3,by rw [t4];simp only [yeW];rfl⟩
  .obtain ⟨t,t1,t2,t3,t4⟩:=fin _ v
   exact ⟨t,t1,t2,t3,by rw [t4];simp only [yeW];rfl⟩
 .have fin:∀ b1:List T,wL b1<=2/\ybs b1<=1/\okL b1->∃ t,wT t<=4+wL one+wL other/\ykW t<=1+max (max (ybs one) 1) (ybs other)/\okT t/\yyF t=.tup [.str "try",.lst (ycl (one++b1)),.str s4,.str ⟨#[n2]⟩,.lst (ycl other)]:=by
   rintro b1 ⟨w1,d1,k1⟩
   refine ⟨.try_ (one++b1) s4 ⟨#[n2]⟩ other,?_,?_,⟨trivial,o2,ylX io k1,ir⟩,rfl⟩
   .show 1+wL (one++b1)+wL other<=_
    rw [yoB];omega
   .show 1+max (ybs (one++b1)) (ybs other)<=_
    rw [yja];omega
  obtain ⟨u,v⟩:=yCE (u:=.throw s3 ⟨#[n1]⟩) o1 rfl rfl ⟨trivial,o1⟩
  rcases c3 with f|f|f<;>simp_all? only [i1,i2,i3,i4,e,f,q1,yLX,sgn,bind_some,Int.reduceEq,if_true,if_false,↓reduceIte]
  .obtain ⟨t,t1,t2,t3,t4⟩:=fin [] nil
   exact ⟨t,t1,t2,t3,by rw [t4];simp only [append_nil]⟩
  .obtain ⟨t,t1,t2,t3,t4⟩:=fin _ u
   exact ⟨t,t1,t2,t3,by rw [t4];simp only [yeW];rfl⟩
  .obtain ⟨t,t1,t2,t3,t4⟩:=fin _ v
   exact ⟨t,t1,t2,t3,by rw [t4];simp only [yeW];rfl⟩
theorem yGL {e:XE}{c0 c1 c2:PVar}{xs:List PV}{ρ:PSt}:ygx 3 e (c0::c1::c2::.own (.lst xs)::ρ) h=ob (e (c0::c1::c2::.own (.lst xs)::ρ) h) fun x h1=>if xs.length<100000 then some (.nx (c0::c1::c2::.own (.lst (xs++[x]))::ρ),h1) else none:=by rw [yhm rfl];rfl
theorem yOr {k n w p:Nat}(h1:w<=4*min k n) (h2:p<=4) (h3:k<n):w+p<=4*min (k+1) n:=by omega
theorem yOR {k x y w p a b:Nat}(h1:w<=4*k) (hx:k+1<=x) (hy:x<=y) (ha:a<=4*(x-(k+1))) (hb:b<=4*(y-x)) (hp:p<=4+a+b):w+(p+0)<=4*y:=by omega
theorem yOS {k n u v w p a b l1 l2:Nat}(h1:w<=4*min k n) (h3:k<n) (e1:l1=min (k+1+u) n-min (k+1) n) (e2:l2=min (k+1+u+v) n-min (k+1+u) n) (ha:a<=4*l1) (hb:b<=4*l2) (hp:p<=4+a+b):w+(p+0)<=4*min (k+1+u+v) n:=by
 subst e1 e2
 rw [Nat.min_eq_left (le_of_lt h3)] at h1
 rw [Nat.min_eq_left (Nat.succ_le_of_lt h3)] at ha
 exact yOR h1 (Nat.le_min.mpr ⟨le_add_right _ _,h3⟩) (Nat.le_min.mpr ⟨Nat.le_trans (Nat.min_le_left _ _) (le_add_right _ _),Nat.min_le_right _ _⟩) ha hb hp
theorem yOT {k n u v:Nat}(hn:n<=12):min (k+1+u) n-min (k+1) n<=12/\min (k+1+u+v) n-min (k+1+u) n<=12:=by omega
theorem yOU {d e f g m:Nat}(h1:d<=m+2) (h2:e<=m+1) (h3:f<=m+1) (h4:g<=1+max (max e 1) f):max d (max g 0)<=m+2:=by omega
theorem yOV {k n m u v:Nat}(hm:m=n-k) (hk:k<n):n-(k+1+u+v)<m:=by omega
theorem yOs {k n m:Nat}(hm:m=n-k) (hk:k<n):n-(k+1)<m:=by omega
theorem yCF (a b c:Str):∀ (n d:Nat) (h:AH) (cells:List Int),d+1<=n->cells.length<=12->∃ ts,Pl ts (4*cells.length) (d+1)/\ycU n [.lst (cells.map .int),.int (d:Int),.lst [.str a,.str b,.str c]] h=some (.lst (ycl ts),h)
 | 0,_,_,_,hn,_=>by omega
 | n+1,d,h,cells,hn,hl=>by
  have G:=yCF a b c n
  unfold ycU
  rw [yC]
  show ∃ ts,Pl ts (4*cells.length) (d+1)/\ob (yw _ _ [.val (.lst (cells.map .int)),.val (.int (d:Int)),.val (.lst [.str a,.str b,.str c]),.no,.no,.no,.no,.no,.no,.no,.no,.no] h) fnK=_
  ac_rfl
  refine yLA (fuel:=1000) (P:=fun (q:Option (PV×AH))=>∃ ts,Pl ts (4*cells.length) (d+1)/\q=some (.lst (ycl ts),h)) (fun m ρ h1=>h1=h/\∃ (k:Nat) (ts:List T) (c5 c6 c7 c8 c9 c10 c11:PVar),m=cells.length-k/\wL ts<=4*min k cells.length/\ybs ts<=d+1/\okL ts/\ρ=[.val (.lst (cells.map .int)),.val (.int (d:Int)),.val (.lst [.str a,.str b,.str c]),.own (.lst (ycl ts)),.val (.int (k:Int)),c5,c6,c7,c8,c9,c10,c11]) (fun ρ h1=>∃ (k:Nat) (ts:List T) (c5 c6 c7 c8 c9 c10 c11:PVar),wL ts<=4*cells.length/\ybs ts<=d+1/\okL ts/\ρ=[.val (.lst (cells.map .int)),.val (.int (d:Int)),.val (.lst [.str a,.str b,.str c]),.own (.lst (ycl ts)),.val (.int (k:Int)),c5,c6,c7,c8,c9,c10,c11]) cells.length (by omega) ⟨rfl,0,[],.no,.no,.no,.no,.no,.no,.no,rfl,by show 0<=_;omega,by show 0<=_;omega,trivial,rfl⟩ ?_ ?_
  .rintro m ρ h1 ⟨rfl,k,ts,c5,c6,c7,c8,c9,c10,c11,hm,q1,q2,q3,rfl⟩
   by_cases hk:k<cells.length
   .right
    obtain ⟨cell,hcell⟩:∃ cell,cells[k]?=some cell:=⟨_,List.getElem?_eq_getElem hk⟩
    have r0:atI (cells.map PV.int) (k:Int)=some (.int cell):=ycb (by rw [getElem?_map,hcell];rfl)
    have wc:=yzy ts
    have hlen:(ycl ts).length<50000:=by rw [yoC];omega
    have hc:decide ((k:Int)<((cells.map PV.int).length:Int))=true:=by rw [length_map,decide_eq_true (by omega)]
    generalize hx:yJt cell=x
    have e0:ycf [.int cell] h1=some (.int x,h1):=by rw [ynG,hx]
    by_cases b1:d=0\/x%11<6
    .obtain ⟨ps,pp,ep⟩:=yFr (h:=h1) (x/11) cell
     have hpl:=yzy ps
     have hpw:=pp.w
     have hpd:=pp.d
     refine ⟨[.val (.lst (cells.map .int)),.val (.int (d:Int)),.val (.lst [.str a,.str b,.str c]),.own (.lst (ycl (ts++ps))),.val (.int ((k+1:Nat):Int)),.val (.int cell),.val (.int x),c7,c8,c9,c10,c11],cells.length-(k+1),?_,?_,yOs hm hk,rfl,k+1,ts++ps,_,_,_,_,_,_,_,rfl,?_,?_,ylX q3 pp.ok,rfl⟩
     .ac_rfl
      rw [hc]
     .have hle:(ycl ts).length+(ycl ps).length<=100000:=by rw [yoC (a:=ps)];omega
      rw [yeW]
      by_cases hd0:(d:Int)=0
      .simp_all? only [r0,e0,ep,hd0,hle,if_true,↓reduceIte]
       rfl
      .have b1':x%11<6:=by rcases b1 with b1|b1;exact absurd (by omega) hd0;exact b1
       simp_all? only [r0,e0,ep,hd0,b1',hle,if_true,if_false,decide_false,decide_true,↓reduceIte]
       rfl
     .rw [yoB];exact yOr q1 hpw hk
     .rw [yja];omega
    .have hd0:¬ (d:Int)=0:=fun z=>b1 (.inl (by omega))
     have hb6:¬ x%11<6:=fun z=>b1 (.inr z)
     by_cases b2:x%11=6
     .obtain ⟨s1,i1⟩:=ysu a b c (x/33)
      obtain ⟨n2,i2,o2⟩:=yCD (x/99)
      obtain ⟨t,ht,ht1,ht2,ht3⟩:∃ t:T,atI [PV.tup [PV.str "wait"],PV.tup [PV.str "throw",PV.str s1,sgn n2]] (x/11%3/2)=some (yyF t)/\wT t=1/\ykW t=0/\okT t:=by
       have:x/11%3/2=0\/x/11%3/2=1:=by omega
       rcases this with e|e
       .exact ⟨.wait,by rw [e];exact ytf,rfl,rfl,trivial⟩
       .exact ⟨.throw s1 ⟨#[n2]⟩,by rw [e];exact yDt,rfl,rfl,⟨trivial,o2⟩⟩
      refine ⟨[.val (.lst (cells.map .int)),.val (.int (d:Int)),.val (.lst [.str a,.str b,.str c]),.own (.lst (ycl (ts++[t]))),.val (.int ((k+1:Nat):Int)),.val (.int cell),.val (.int x),.val (.lst [.tup [.str "wait"],.tup [.str "throw",.str s1,sgn n2]]),c8,c9,c10,c11],cells.length-(k+1),?_,?_,yOs hm hk,rfl,k+1,ts++[t],_,_,_,_,_,_,_,rfl,?_,?_,ylX q3 ⟨ht3,trivial⟩,rfl⟩
      .ac_rfl
       rw [hc]
      .have hlen':(ycl ts).length<100000:=by omega
       rw [yeW]
       simp_all? only [yGL,r0,e0,hd0,hb6,b2,i1,i2,ht,yLX,hlen',bind_some,if_true,if_false,decide_false,decide_true,↓reduceIte]
       rfl
      .rw [yoB]
       exact yOr q1 (by show wT t+0<=4;omega) hk
      .rw [yja]
       show max (ybs ts) (max (ykW t) 0)<=_
       omega
     .obtain ⟨d',rfl⟩:∃ d',d=d'+1:=⟨d-1,by omega⟩
      obtain ⟨u,hu⟩:∃ u:Nat,x/11%4=(u:Int):=⟨(x/11%4).toNat,by omega⟩
      obtain ⟨v,hv⟩:∃ v:Nat,x/44%3=(v:Int):=⟨(x/44%3).toNat,by omega⟩
      have l1:=ywY cells (k+1) (k+1+u) (by omega)
      have l2:=ywY cells (k+1+u) (k+1+u+v) (by omega)
      have g3:=yOT (k:=k) (u:=u) (v:=v) hl
      rw [<- l1,<- l2] at g3
      have hn':d'+1<=n:=Nat.le_of_succ_le_succ hn
      obtain ⟨one,p1,g1⟩:=G d' h1 (yqI cells (some ((k+1:Nat):Int)) (some ((k+1+u:Nat):Int))) hn' g3.1
      obtain ⟨oth,p2,g2⟩:=G d' h1 (yqI cells (some ((k+1+u:Nat):Int)) (some ((k+1+u+v:Nat):Int))) hn' g3.2
      have w1:=p1.w
      have w2:=p2.w
      obtain ⟨t,t1,t2,t3,t4⟩:=yFu (h:=h1) (x/132) one oth a b c (Nat.le_trans w1 (Nat.le_trans (Nat.mul_le_mul_left 4 g3.1) (by decide))) p1.ok p2.ok
      have dd1:=p1.d
      have dd2:=p2.d
      refine ⟨[.val (.lst (cells.map .int)),.val (.int ((d'+1:Nat):Int)),.val (.lst [.str a,.str b,.str c]),.own (.lst (ycl (ts++[t]))),.val (.int ((k+1+u+v:Nat):Int)),.val (.int cell),.val (.int x),c7,.val (.int (u:Int)),.val (.int (v:Int)),.val (.lst (ycl one)),.val (.lst (ycl oth))],cells.length-(k+1+u+v),?_,?_,yOV hm hk,rfl,k+1+u+v,ts++[t],_,_,_,_,_,_,_,rfl,?_,?_,ylX q3 ⟨t3,trivial⟩,rfl⟩
      .ac_rfl
       rw [hc]
      .have hlen':(ycl ts).length<100000:=by omega
       have z1:((d'+1:Nat):Int)-1=(d':Int):=by omega
       have z2:((k+1+u:Nat):Int)+(v:Int)=((k+1+u+v:Nat):Int):=by omega
       have z3:((k+1:Nat):Int)+(u:Int)=((k+1+u:Nat):Int):=by omega
       have z4:(k:Int)+1=((k+1:Nat):Int):=by omega
       rw [yeW]
       simp_all? only [yGL,r0,e0,hd0,hb6,b2,hu,hv,z1,z4,z3,z2,yst,g1,g2,t4,hlen',bind_some,if_true,if_false,decide_false,decide_true,↓reduceIte]
       rfl
      .rw [yoB]
       exact yOS q1 hk l1 l2 w1 w2 t1
      .rw [yja]
       exact yOU q2 dd1 dd2 t2
   .left
    refine ⟨?_,k,ts,c5,c6,c7,c8,c9,c10,c11,by omega,q2,q3,rfl⟩
    ac_rfl
    rw [length_map,decide_eq_false (by omega)]
  .rintro ρ' ⟨k,ts,c5,c6,c7,c8,c9,c10,c11,q1,q2,q3,rfl⟩
   refine ⟨ts,⟨q1,q2,q3⟩,?_⟩
   ac_rfl
end
theorem ywZ {g:XG}{x:PV}{ρ ρ1:PSt}{s:XS}{h:AH}{M:Out->AH->Prop}(e:g x ρ=some ρ1) (q:∃ r,s ρ1 h=some r/\M r.1 r.2):∃ ρ1 o h',g x ρ=some ρ1/\s ρ1 h=some (o,h')/\M o h' :=
 let ⟨r,q1,q2⟩:=q;⟨ρ1,r.1,r.2,e,q1,q2⟩
section
variable {h:AH}
theorem yCG (a b:Str):(a++b).length=a.length+b.length:=by
 show (a.cps++b.cps).size=_
 simp [Str.length]
theorem yNK (k:Int):∃ n,atI ("abcdefghijklmnopqrstuvwxyz":Str).cps.toList (k%26)=some n:=by
 obtain ⟨x,hx,_⟩:=yzA ("abcdefghijklmnopqrstuvwxyz":Str).cps.toList (k%26) 26 (by rfl') (ydD k (by decide)).1 (ydD k (by decide)).2
 exact ⟨x,hx⟩
theorem yJc {g:XG}{s:XS}{xs:List PV}(I:Nat->PSt->AH->Prop) {ρ:PSt}{h:AH}{f:Out->AH->Option (Out×AH)}{M:Out×AH->Prop}(h0:I 0 ρ h)
  (step:∀ (i:Nat) (x:PV) (ρ:PSt) (h:AH),xs[i]?=some x->I i ρ h->∃ ρ1 o h',g x ρ=some ρ1/\s ρ1 h=some (o,h')/\(match o with|.nx ρ'=>I (i+1) ρ' h'|.ct ρ'=>I (i+1) ρ' h'|.bk _=>False|.rt _=>False))
  (fin:∀ ρ' h',I xs.length ρ' h'->∃ r,f (.nx ρ') h'=some r/\M r):∃ r,ob (ymz g s xs ρ h) f=some r/\M r :=
 yrF (P:=fun q=>∃ r,q=some r/\M r) I (fun _ _=>False) h0 step fin (fun _ _ z=>z.elim)
theorem yFv (c:Int):∃ a b d:Str,yfu [.int c] h=some (.lst [.str a,.str b,.str d],h):=by
 unfold yfu
 rw [yC]
 show ∃ a b d:Str,ob (yw _ _ [.val (.int c),.no,.no,.no,.no,.no,.no,.no,.no,.no] h) fnK=_
 have b:=ydD (yJt c) (show (0:Int)<8 by decide)
 ac_rfl
 simp only [ynG]
 ac_rfl
 generalize hm:yJt c=m at *
 rw [if_pos (by omega)]
 generalize hz:1+m%8=sz at *
 rw [ykK (j:=3) (h1:=h) (by ac_rfl) (by omega) (by omega),yB]
 refine yrF (P:=fun (q:Option (PV×AH))=>∃ a b d:Str,q=some (.lst [.str a,.str b,.str d],h)) (fun i ρ h1=>h1=h/\∃ zs:List Str,zs.length=i/\∃ c6 c7 c8 c9:PVar,ρ=[.val (.int c),.val (.str "abcdefghijklmnopqrstuvwxyz"),.val (.int m),.val (.int sz),.val (.int (m/8%sz)),.own (.lst (zs.map .str)),c6,c7,c8,c9]) (fun _ _=>False) ⟨rfl,[],rfl,.no,.no,.no,.no,rfl⟩ ?_ ?_ (fun _ _ q=>q.elim)
 .rintro t x ρ h1 hx ⟨rfl,zs,hzs,c6,c7,c8,c9,rfl⟩
  obtain ⟨ht,rfl⟩:=yhK hx
  have ht:t<3:=by simpa using ht
  rw [zero_add]
  refine ywZ rfl ?_
  ac_rfl
  rw [ykK (j:=sz) (h1:=h1) (by ac_rfl) (by omega) (by omega),yB]
  refine yJc (fun i ρ h2=>h2=h1/\∃ z:Str,z.length<=i/\∃ d8 d9:PVar,ρ=[.val (.int c),.val (.str "abcdefghijklmnopqrstuvwxyz"),.val (.int m),.val (.int sz),.val (.int (m/8%sz)),.own (.lst (zs.map .str)),.val (.int t),.val (.str z),d8,d9]) ⟨rfl,"",by rfl',c8,c9,rfl⟩ ?_ ?_
  .rintro i x ρ h2 hx ⟨rfl,z,hz2,d8,d9,rfl⟩
   obtain ⟨hi,rfl⟩:=yhK hx
   rw [zero_add]
   have hmu:MulOk (i:Int) (i:Int):=.inl ⟨by omega,by omega⟩
   have hp:0<(i:Int)*i+1:=by have:=Int.mul_nonneg (show (0:Int)<=i by omega) (show (0:Int)<=i by omega);omega
   have hq:(i:Int)*i<=7*7:=Int.mul_le_mul (by omega) (by omega) (by omega) (by omega)
   refine ywZ rfl ?_
   ac_rfl
   rw [if_pos hmu,if_pos ⟨hp,by omega⟩]
   have go:∀ k:Int,∃ n,atI ("abcdefghijklmnopqrstuvwxyz":Str).cps.toList (k%26)=some n/\(z++(⟨#[n]⟩:Str)).length<=i+1:=fun k=>by
    obtain ⟨n,hn⟩:=yNK k
    exact ⟨n,hn,by rw [yCG];show z.length+1<=i+1;omega⟩
   split
   all_goals
    obtain ⟨n,hn,hl⟩:=go _
    rw [hn,bind_some]
    simp only [yB,yGi,sgn]
    rw [if_pos (by rw [yCG] at hl;show z.length+1<=100000;omega)]
    exact ⟨_,rfl,rfl,_,hl,_,_,rfl⟩
  .rintro ρ' h' ⟨rfl,z,hz2,d8,d9,rfl⟩
   ac_rfl
   rw [yhm (xs:=zs.map .str) rfl]
   ac_rfl
   rw [if_pos (by rw [length_map];omega)]
   exact ⟨_,rfl,rfl,zs++[z],by simp [hzs],_,_,_,_,by rw [map_append];rfl⟩
 .rintro ρ' h' ⟨rfl,zs,hzs,c6,c7,c8,c9,rfl⟩
  ac_rfl
  match zs,hzs with
  | [a,b,d],_=>exact ⟨a,b,d,rfl⟩
end
section
variable {h:AH}
theorem yLB {z:Str}:yfi isaTb [.str z,.ty "int"] h=some (.bl false,h):=rfl
theorem yLC {z:Str}:yfi isaTb [.str z,.ty "str"] h=some (.bl true,h):=rfl
local macro_rules | `(tactic| walk_at "pt")=>`(tactic| simp_all? only [$(sl_ "yNA yNB yNC yND yNE yNF yNG yIP yLB yLC ne_eq not_true_eq_false"),*])
theorem ysv {n:Nat}{z:Str}:yH (n+1) [.str z,.str z] h=some (.bl true,h):=by
 unfold yH
 rw [yC]
 show ob (yw _ _ [.val (.str z),.val (.str z),.no] h) fnK=_
 walk_at "pt"
theorem ynH {n:Nat}{xs ys:List PV}(hl:xs.length=ys.length) (hs:ys.length<=1000) (k:∀ (i:Nat) (x y:PV),xs[i]?=some x->ys[i]?=some y->yH n [x,y] h=some (.bl true,h)):yH (n+1) [.tup xs,.tup ys] h=some (.bl true,h):=by
 unfold yH
 rw [yC]
 show ob (yw _ _ [.val (.tup xs),.val (.tup ys),.no] h) fnK=_
 walk_at "pt"
 rw [hl]
 walk_at "pt"
 rw [ykK (j:=(ys.length:Int)) (h1:=h) (by walk_at "pt") (by omega) (by omega),yB]
 refine ygg (fun i ρ h1=>h1=h/\∃ c,ρ=[.val (.tup xs),.val (.tup ys),c]) ⟨rfl,.no,rfl⟩ ?_ ?_
 .rintro i x ρ h1 hx ⟨rfl,c,rfl⟩
  obtain ⟨hi,rfl⟩:=yhK hx
  rw [zero_add]
  have hi:i<ys.length:=by omega
  refine ⟨_,[.val (.tup xs),.val (.tup ys),.val (.int i)],h1,rfl,.inl ?_,rfl,_,rfl⟩
  walk_at "pt"
  rw [ycb (List.getElem?_eq_getElem (show i<xs.length by omega)),ycb (List.getElem?_eq_getElem hi)]
  walk_at "pt"
  rw [k i _ _ (List.getElem?_eq_getElem (show i<xs.length by omega)) (List.getElem?_eq_getElem hi)]
  walk_at "pt"
 .rintro ρ' h' ⟨rfl,c,rfl⟩
  walk_at "pt"
theorem yLD:Tl []:=⟨by simp,fun x hx=>by simp at hx⟩
theorem yLE (e:En) (τ:AS):Tl (wrE e τ):=by cases e<;>first|exact yyE _|exact yLD
theorem yFw {n:Nat}(e:En):yH (n+2) [enV e,enV e] h=some (.bl true,h):=by
 cases e with
 | done =>
  refine ynH rfl (by simp) fun i x y hx hy=>?_
  match i,hx,hy with
  | 0,hx,hy=>cases hx;cases hy;exact ysv
 | waits =>
  refine ynH rfl (by simp) fun i x y hx hy=>?_
  match i,hx,hy with
  | 0,hx,hy=>cases hx;cases hy;exact ysv
 | fell nm v =>
  refine ynH rfl (by simp) fun i x y hx hy=>?_
  match i,hx,hy with
  | 0,hx,hy=>cases hx;cases hy;exact ysv
  | 1,hx,hy=>cases hx;cases hy;exact ysv
  | 2,hx,hy=>cases hx;cases hy;exact ysd
end
section
variable {h:AH}
def KS:List Key:=SL.map .inr
theorem yCH {r:Str}:∀ {l:List Str}{xs:List PV},xs.length=l.length->yfj (l.map .inr) xs (.inr r)=xs[l.idxOf r]?
 | [],[],_=>rfl
 | a::l,x::xs,e=>by
  show (if Sum.inr a=Sum.inr r then some x else yfj (l.map .inr) xs (.inr r))=_
  rw [idxOf_cons]
  by_cases q:a=r
  .rw [if_pos (by rw [q]),show (a == r)=true by simp [q]];rfl
  .rw [if_neg (fun z=>q (Sum.inr.inj z)),yCH (l:=l) (by simpa using e),show (a == r)=false by simp [q]]
   exact (List.getElem?_cons_succ ..).symm
theorem yCI {r:Str}{y:PV}:∀ {l:List Str}{xs:List PV},xs.length=l.length->l.Nodup->setK (l.map .inr) xs (.inr r) y=xs.set (l.idxOf r) y
 | [],[],_,_=>rfl
 | a::l,x::xs,e,nd=>by
  show (if Sum.inr a=Sum.inr r then y::setK (l.map .inr) xs (.inr r) y else x::setK (l.map .inr) xs (.inr r) y)=_
  have e:xs.length=l.length:=by simpa using e
  rw [yCI (l:=l) e (List.nodup_cons.mp nd).2,idxOf_cons]
  by_cases q:a=r
  .have nr:r∉l:=q ▸ (List.nodup_cons.mp nd).1
   rw [if_pos (by rw [q]),List.set_eq_of_length_le (by rw [e,List.idxOf_eq_length nr];exact Nat.le_refl _),show (a == r)=true by simp [q]];rfl
  .rw [if_neg (fun z=>q (Sum.inr.inj z)),show (a == r)=false by simp [q]];rfl
theorem yyG {r:Str}:∀ {l:List Str},r∈l->ynB (l.map .inr) (.inr r)=true
 | a::l,hm=>by
  show (if Sum.inr a=Sum.inr r then true else ynB (l.map .inr) (.inr r))=true
  split
  .rfl
  .rename_i q
   rcases mem_cons.mp hm with e|e
   .exact absurd (by rw [e]) q
   .exact yyG e
theorem yOW {r:Str}(hr:okS r) {xs:List Int}(h8:xs.length=8):yfj KS (xs.map PV.int) (.inr r)=some (.int (xs.getD (sx r) 0)):=by
 have l:=yFi hr
 unfold KS
 rw [yCH (by rw [length_map,h8];rfl),getElem?_map,getD_eq_getElem?_getD]
 show (xs[sx r]?).map PV.int=_
 rw [List.getElem?_eq_getElem (by omega)]
 rfl
theorem yOX {r:Str}(hr:okS r) {xs:List Int}(h8:xs.length=8) (v:Int):yct KS (xs.map PV.int) (.inr r) (.int v)=(KS,(xs.set (sx r) v).map PV.int):=by
 unfold yct KS
 rw [if_pos (yyG hr),yCI (by rw [length_map,h8];rfl) (by rfl'),map_set]
 rfl
theorem yuz {n:Nat}{xs:List Int}{r:Str}{ek ed:XE}{ρ:PSt}(ed':ed ρ h=some (.loc n,h)) (ek':ek ρ h=some (.str r,h)) (e:h[n]?=some (.dct KS (xs.map .int))) (hr:okS r) (h8:xs.length=8):yfm ed ek ρ h=some (.int (xs.getD (sx r) 0),h):=by
 unfold yfm
 rw [ed',yB,ek',yB]
 unfold yzY
 simp only [e,keyOf,yOW hr h8]
theorem yCJ {n:Nat}{xs:List Int}{r:Str}{v:Int}{ed ek ev:XE}{ρ:PSt}(ev':ev ρ h=some (.int v,h)) (ed':ed ρ h=some (.loc n,h)) (ek':ek ρ h=some (.str r,h)) (e:h[n]?=some (.dct KS (xs.map .int))) (hr:okS r) (h8:xs.length=8) :
  yfn ed ek ev ρ h=some (.nx ρ,h.set n (.dct KS ((xs.set (sx r) v).map .int))):=by
 unfold yfn
 rw [ev',yB,ed',yB,ek',yB]
 simp only [e,keyOf,yOX hr h8]
 rw [if_pos (by decide)]
structure MS (h:AH) (a c w:Nat) (σ:AS):Prop where
 ex:∃ sj sv wj wv,h[c]?=some (.dct (sj.map .inl) (sv.map PV.int))/\h[w]?=some (.dct (wj.map .inl) (wv.map PV.int))/\ID sj sv/\ID wj wv/\(∀ j,gI (sj.map .inl,sv.map PV.int) j=σ.s j)/\∀ j,gI (wj.map .inl,wv.map PV.int) j=σ.v j
 hh:h[a]?=some (.dct KS (σ.hs.map .int))
 ne:a≠c/\a≠w/\c≠w
 h8:σ.hs.length=8
 nh:∀ v∈σ.hs,N64 v
 nv:∀ j v,σ.v j=some v->N64 v
def Fr3 (a c w:Nat) (h h':AH):Prop:=h'.length=h.length/\∀ n,n≠a->n≠c->n≠w->h'[n]?=h[n]?
theorem Fr3.refl {a c w:Nat}:Fr3 a c w h h:=⟨rfl,fun _ _ _ _=>rfl⟩
theorem Fr3.set {a c w t:Nat}{h':AH}{x:Nd}(f:Fr3 a c w h h') (ht:t=a\/t=c\/t=w):Fr3 a c w h (h'.set t x):=⟨by rw [length_set];exact f.1,fun n h1 h2 h3=>(getElem?_set_ne (by rcases ht with rfl|rfl|rfl<;>exact fun z=>(by first|exact h1 z.symm|exact h2 z.symm|exact h3 z.symm))).trans (f.2 n h1 h2 h3)⟩
noncomputable def yJu:T->PV
 | .let_ r n=>.tup [.str "let",.str r,.int n]
 | .reckon w r s t=>.tup [.str w,.str r,.str s,.str t]
 | .take r s=>.tup [.str "take",.str r,.str s]
 | .put s t=>.tup [.str "put",.str s,.str t]
 | .throw nm r=>.tup [.str "throw",.str nm,.str r]
 | _=>.tup [.str "wait"]
theorem yyH:∀ l:List Str,svs (l.map PV.str)=some (l.map V.str)
 | []=>rfl
 | a::l=>by
  show svs (PV.str a::l.map PV.str)=_
  unfold svs
  rw [yyH l];rfl
theorem yOt {w:Str}{l:List Str}:yGp false (.str w) (.tup (l.map .str)) h=some (.bl (l.any fun a=>a == w),h):=by
 unfold yGp
 show (match svs (l.map PV.str) with|some us=>some (PV.bl (if false=true then !inV (.str w) us else inV (.str w) us),h)|none=>none)=_
 rw [yyH]
 show some (PV.bl (inV (.str w) (l.map V.str)),h)=_
 have:inV (.str w) (l.map V.str)=l.any fun a=>a == w:=by
  unfold inV
  rw [List.any_map];rfl
 rw [this]
def W8:List Str:=["let","take","put","plus","minus","times","less","same"]
theorem yLF {w:Str}(hw:w∈W8):yGp false (.str w) (.tup [.str "let",.str "take",.str "put",.str "plus",.str "minus",.str "times",.str "less",.str "same"]) h=some (.bl true,h):=by
 have e:=yOt (h:=h) (w:=w) (l:=W8)
 rw [List.any_eq_true.mpr ⟨w,hw,by simp⟩] at e
 exact e
theorem yOY {w:Str}(hw:okW w):yGp false (.str w) (.tup [.str "plus",.str "minus",.str "times",.str "less",.str "same"]) h=some (.bl true,h):=by
 have e:=yOt (h:=h) (w:=w) (l:=WDS)
 rw [List.any_eq_true.mpr ⟨w,hw,by simp⟩] at e
 exact e
theorem yOZ {w:Str}(hw:okW w):(w = "let")=False/\(w = "take")=False/\(w = "put")=False/\w∈W8:=by
 have:w = "plus"\/w = "minus"\/w = "times"\/w = "less"\/w = "same":=by simpa [okW,WDS] using hw
 rcases this with rfl|rfl|rfl|rfl|rfl
 all_goals exact ⟨eq_false (by rfl'),eq_false (by rfl'),eq_false (by rfl'),by rfl'⟩
variable {a c w:Nat}{σ:AS}{bx:List Int}
theorem yuA {u:T}(hp:yuu u) (hu:okT u) (b1:1<=bx.length) (b16:bx.length<=16) (nb:∀ v∈bx,N64 v) (L:MS h a c w σ):∃ h',yck [yJu u,.lst (bx.map .int),.loc c,.loc a,.loc w] h=some (.bl true,h')/\MS h' a c w (evP bx u σ)/\Fr3 a c w h h':=by
 obtain ⟨⟨sj,sv,wj,wv,e1,e2,i1,i2,f1,f2⟩,hh,⟨n1,n2,n3⟩,h8,nh,nv⟩:=L
 have len8:∀ {i:Nat}{v:Int},(σ.hs.set i v).length=8:=by intro i v;rw [length_set];exact h8
 unfold yck
 cases u with
 | let_ r n =>
  obtain ⟨k1,k2⟩:=hu
  refine ⟨_,?_,⟨⟨sj,sv,wj,wv,yF (Ne.symm n1) e1,yF (Ne.symm n2) e2,i1,i2,f1,f2⟩,set_same hh,⟨n1,n2,n3⟩,len8,yCn nh k2,nv⟩,Fr3.refl.set (.inl rfl)⟩
  rw [yC]
  show ob (yw _ _ [.val (.tup [.str "let",.str r,.int n]),.val (.lst (bx.map .int)),.val (.loc c),.val (.loc a),.val (.loc w),.no] h) fnK=_
  walk_at "pk"
  rw [yCJ (n:=a) (r:=r) (v:=n) rfl rfl (by walk_at "pk") hh k1 h8,yB]
  simp_all? only [yLF (w:="let") (by rfl')]
  rw [if_pos (by decide)];rfl
 | reckon q r x y =>
  obtain ⟨k0,k1,k2,k3⟩:=hu
  obtain ⟨z1,z2,z3,z4⟩:=yOZ k0
  refine ⟨_,?_,⟨⟨sj,sv,wj,wv,yF (Ne.symm n1) e1,yF (Ne.symm n2) e2,i1,i2,f1,f2⟩,set_same hh,⟨n1,n2,n3⟩,len8,yCn nh yOp,nv⟩,Fr3.refl.set (.inl rfl)⟩
  rw [yC]
  show ob (yw _ _ [.val (.tup [.str q,.str r,.str x,.str y]),.val (.lst (bx.map .int)),.val (.loc c),.val (.loc a),.val (.loc w),.no] h) fnK=_
  simp_all? only [ytf,z1,z2,z3,yOY k0,↓reduceIte]
  rw [if_pos (by decide)]
  rw [yCJ (n:=a) (r:=r) (v:=rk q (σ.hs.getD (sx x) 0) (σ.hs.getD (sx y) 0)) (by
   walk_at "pk"
   rw [yuz (n:=a) (r:=x) rfl (by walk_at "pk") hh k2 h8,yB,yuz (n:=a) (r:=y) rfl (by walk_at "pk") hh k3 h8,yB,yLt k0 (yut nh)]) rfl (by walk_at "pk") hh k1 h8,yB]
  simp_all? only [ytf,yLF z4]
  rw [if_pos (by decide)];rfl
 | take r p =>
  obtain ⟨k1,k2⟩:=hu
  obtain ⟨b2,b3,b4⟩:=yur (bx:=bx) (σ.hs.getD (sx p) 0) b1 b16
  have hj:=f2 (σ.hs.getD (sx p) 0%bx.length)
  have hg:=(show isID (wj.map .inl,wv.map PV.int) from ⟨wj,wv,rfl,i2⟩).get (σ.hs.getD (sx p) 0%bx.length)
  rw [yC]
  show ∃ h',ob (yw _ _ [.val (.tup [.str "take",.str r,.str p]),.val (.lst (bx.map .int)),.val (.loc c),.val (.loc a),.val (.loc w),.no] h) fnK=_/\_
  simp_all? only [ytf,ygI,↓reduceIte]
  rw [yuz (n:=a) (r:=p) rfl (by walk_at "pk") hh k2 h8,yB,length_map]
  walk_at "pk"
  rw [if_pos (by omega)]
  rw [yzx (n:=w) (i:=σ.hs.getD (sx p) 0%bx.length) rfl rfl e2,yB,hg,hj]
  cases hv:σ.v (σ.hs.getD (sx p) 0%bx.length) with
  | some v =>
   rw [hv] at hj
   have ev:evP bx (.take r p) σ=⟨σ.hs.set (sx r) v,σ.v,σ.s⟩:=by
    show tkV bx σ r (σ.hs.getD (sx p) 0%bx.length) (σ.v (σ.hs.getD (sx p) 0%bx.length))=_
    rw [hv]
    rfl
   rw [ev]
   refine ⟨_,?_,⟨⟨sj,sv,wj,wv,yF (Ne.symm n1) e1,yF (Ne.symm n2) e2,i1,i2,f1,f2⟩,set_same hh,⟨n1,n2,n3⟩,len8,yCn nh (nv _ _ hv),nv⟩,Fr3.refl.set (.inl rfl)⟩
   show ob (oB (.bl false) h) _=_
   walk_at "pk"
   rw [yCJ (n:=a) (r:=r) (v:=v) (by
    rw [yuv (n:=w) (i:=σ.hs.getD (sx p) 0%bx.length) (y:=.int (bx.getD (σ.hs.getD (sx p) 0%bx.length).toNat 0)) rfl rfl (by
     walk_at "pk"
     rw [ixF b2 b3]
     rfl) e2,hg,hj]
    rfl) rfl (by walk_at "pk") hh k1 h8,yB]
   simp_all? only [yLF (w:="take") (by rfl')]
   rw [if_pos (by decide)]
  | none =>
   rw [hv] at hj
   obtain ⟨sj',sv',hput,hi,_⟩:=i1.put (v:=bx.getD (σ.hs.getD (sx p) 0%bx.length).toNat 0) ⟨b2,b4⟩
   have ev:evP bx (.take r p) σ=⟨σ.hs.set (sx r) (bx.getD (σ.hs.getD (sx p) 0%bx.length).toNat 0),σ.v,upV σ.s (σ.hs.getD (sx p) 0%bx.length) (bx.getD (σ.hs.getD (sx p) 0%bx.length).toNat 0)⟩:=by
    show tkV bx σ r (σ.hs.getD (sx p) 0%bx.length) (σ.v (σ.hs.getD (sx p) 0%bx.length))=_
    rw [hv]
    rfl
   rw [ev]
   have hd:isID (sj.map .inl,sv.map PV.int):=⟨sj,sv,rfl,i1⟩
   have sl:=i1.le
   refine ⟨(h.set c (.dct (sj'.map .inl) (sv'.map .int))).set a (.dct KS ((σ.hs.set (sx r) (bx.getD (σ.hs.getD (sx p) 0%bx.length).toNat 0)).map .int)),?_,⟨⟨sj',sv',wj,wv,yF (Ne.symm n1) (set_same e1),yF (Ne.symm n2) (yF (Ne.symm n3) e2),hi,i2,fun j=>?_,f2⟩,set_same (yF n1 hh),⟨n1,n2,n3⟩,len8,yCn nh (yut nb),nv⟩,(Fr3.refl.set (.inr (.inl rfl))).set (.inl rfl)⟩
   .show ob (oB (.bl true) h) _=_
    walk_at "pk"
    rw [ynF (n:=c) (i:=σ.hs.getD (sx p) 0%bx.length) (x:=.int (bx.getD (σ.hs.getD (sx p) 0%bx.length).toNat 0)) (by
     walk_at "pk"
     rw [ixF b2 b3]
     rfl) rfl rfl e1 (by rw [length_map];omega),hput,yB]
    walk_at "pk"
    rw [yCJ (n:=a) (r:=r) (v:=bx.getD (σ.hs.getD (sx p) 0%bx.length).toNat 0) (by
     rw [yuv (n:=w) (i:=σ.hs.getD (sx p) 0%bx.length) (y:=.int (bx.getD (σ.hs.getD (sx p) 0%bx.length).toNat 0)) rfl rfl (by
      walk_at "pk"
      rw [ixF b2 b3]
      rfl) (yF (Ne.symm n3) e2),hg,hj]
     rfl) rfl (by walk_at "pk") (yF n1 hh) k1 h8,yB]
    simp_all? only [yLF (w:="take") (by rfl')]
    rw [if_pos (by decide)]
   .have:=yuk hd (k:=σ.hs.getD (sx p) 0%bx.length) (j:=j) (v:=bx.getD (σ.hs.getD (sx p) 0%bx.length).toNat 0)
    rw [hput] at this
    rw [this,f1]
    rfl
 | put p q =>
  obtain ⟨k1,k2⟩:=hu
  obtain ⟨b2,b3,b4⟩:=yur (bx:=bx) (σ.hs.getD (sx p) 0) b1 b16
  obtain ⟨wj',wv',hput,hi,_⟩:=i2.put (v:=σ.hs.getD (sx q) 0) ⟨b2,b4⟩
  have hd:isID (wj.map .inl,wv.map PV.int):=⟨wj,wv,rfl,i2⟩
  have sl:=i2.le
  refine ⟨h.set w (.dct (wj'.map .inl) (wv'.map .int)),?_,⟨⟨sj,sv,wj',wv',yF n3 e1,set_same e2,i1,hi,f1,fun j=>?_⟩,yF n2 hh,⟨n1,n2,n3⟩,h8,nh,fun j v e=>?_⟩,Fr3.refl.set (.inr (.inr rfl))⟩
  .rw [yC]
   show ob (yw _ _ [.val (.tup [.str "put",.str p,.str q]),.val (.lst (bx.map .int)),.val (.loc c),.val (.loc a),.val (.loc w),.no] h) fnK=_
   simp_all? only [ytf,yiZ,ygK,↓reduceIte]
   rw [ynF (n:=w) (i:=σ.hs.getD (sx p) 0%bx.length) (x:=.int (σ.hs.getD (sx q) 0)) (by rw [yuz (n:=a) (r:=q) rfl (by walk_at "pk") hh k2 h8]) rfl (by
    walk_at "pk"
    rw [yuz (n:=a) (r:=p) rfl (by walk_at "pk") hh k1 h8,yB,length_map]
    walk_at "pk"
    rw [if_pos (by omega)]) e2 (by rw [length_map];omega),hput,yB]
   simp_all? only [yLF (w:="put") (by rfl')]
   rw [if_pos (by decide)]
  .have:=yuk hd (k:=σ.hs.getD (sx p) 0%bx.length) (j:=j) (v:=σ.hs.getD (sx q) 0)
   rw [hput] at this
   rw [this,f2]
   rfl
  .have e:(if j=σ.hs.getD (sx p) 0%bx.length then some (σ.hs.getD (sx q) 0) else σ.v j)=some v:=e
   split at e
   .cases e;exact yut nh
   .exact nv j v e
 | if_ _ _ _=>exact hp.elim
 | either _ _=>exact hp.elim
 | try_ _ _ _ _=>exact hp.elim
 | throw _ _=>exact hp.elim
 | wait=>exact hp.elim
end
theorem yzC:(("jump":Str) = "lay")=False:=by grind
theorem yuB:(("unless":Str) = "lay")=False:=by grind
theorem ysw:(("unless":Str) = "jump")=False:=by grind
theorem yuC:(("settle":Str) = "lay")=False:=by grind
theorem ysx:(("settle":Str) = "jump")=False:=by grind
theorem yoH:(("settle":Str) = "unless")=False:=by grind
theorem yuD:(("either":Str) = "lay")=False:=by grind
theorem ysy:(("either":Str) = "jump")=False:=by grind
theorem yoI:(("either":Str) = "unless")=False:=by grind
theorem yoJ:(("either":Str) = "settle")=False:=by grind
theorem yxa:(("guard":Str) = "lay")=False:=by grind
theorem yuE:(("guard":Str) = "jump")=False:=by grind
theorem yqo:(("guard":Str) = "unless")=False:=by grind
theorem yqp:(("guard":Str) = "settle")=False:=by grind
theorem yjd:(("guard":Str) = "either")=False:=by grind
theorem yzD:(("wait":Str) = "lay")=False:=by grind
theorem yxb:(("wait":Str) = "jump")=False:=by grind
theorem ysz:(("wait":Str) = "unless")=False:=by grind
theorem ysA:(("wait":Str) = "settle")=False:=by grind
theorem ysB:(("wait":Str) = "either")=False:=by grind
theorem yuF:(("wait":Str) = "guard")=False:=by grind
theorem yxc:(("throw":Str) = "lay")=False:=by grind
theorem yuG:(("throw":Str) = "jump")=False:=by grind
theorem yqq:(("throw":Str) = "unless")=False:=by grind
theorem yqr:(("throw":Str) = "settle")=False:=by grind
theorem yqs:(("throw":Str) = "either")=False:=by grind
theorem ysC:(("throw":Str) = "guard")=False:=by grind
theorem yfz:(("throw":Str) = "wait")=False:=by grind
theorem yCK:(("let":Str) = "lay")=False:=by grind
theorem yzE:(("let":Str) = "jump")=False:=by grind
theorem yuH:(("let":Str) = "unless")=False:=by grind
theorem yuI:(("let":Str) = "settle")=False:=by grind
theorem yuJ:(("let":Str) = "either")=False:=by grind
theorem yxd:(("let":Str) = "guard")=False:=by grind
theorem yzF:(("let":Str) = "wait")=False:=by grind
theorem yxe:(("let":Str) = "throw")=False:=by grind
theorem yzG:(("take":Str) = "lay")=False:=by grind
theorem yxf:(("take":Str) = "jump")=False:=by grind
theorem ysD:(("take":Str) = "unless")=False:=by grind
theorem ysE:(("take":Str) = "settle")=False:=by grind
theorem ysF:(("take":Str) = "either")=False:=by grind
theorem yuK:(("take":Str) = "guard")=False:=by grind
theorem yxg:(("take":Str) = "wait")=False:=by grind
theorem yuL:(("take":Str) = "throw")=False:=by grind
theorem yCL:(("put":Str) = "lay")=False:=by grind
theorem yzH:(("put":Str) = "jump")=False:=by grind
theorem yuM:(("put":Str) = "unless")=False:=by grind
theorem yuN:(("put":Str) = "settle")=False:=by grind
theorem yuO:(("put":Str) = "either")=False:=by grind
theorem yxh:(("put":Str) = "guard")=False:=by grind
theorem yzI:(("put":Str) = "wait")=False:=by grind
theorem yxi:(("put":Str) = "throw")=False:=by grind
theorem w_not {w:Str}(hw:okW w):(w = "lay")=False/\(w = "jump")=False/\(w = "unless")=False/\(w = "settle")=False/\(w = "either")=False/\(w = "guard")=False/\(w = "wait")=False/\(w = "throw")=False:=by
 have:w = "plus"\/w = "minus"\/w = "times"\/w = "less"\/w = "same":=by simpa [okW,WDS] using hw
 rcases this with rfl|rfl|rfl|rfl|rfl
 all_goals exact ⟨eq_false (by rfl'),eq_false (by rfl'),eq_false (by rfl'),eq_false (by rfl'),eq_false (by rfl'),eq_false (by rfl'),eq_false (by rfl'),eq_false (by rfl')⟩
def yuP:XT:=yt (ytI (oLe) (oLt) (xC (.int 0)) (yd 7) (xCB (yfk) (yb (yd 0) (yn))))
def gL:XS:=ybg (yeD (yb (yeD (yb (xC (.str "done")) (yn))) (yb (yba ybP (yb (yd 5) (yn))) (yb (yba ybP (yb (yd 4) (yn))) (yb (xFz (ynV (xIS (xC (.str "abcdefgh"))) [3] (yfm (yd 1) (yd 0)))) (yn))))))
def gU:XS:=ybA (xIf (yt (xOp (oEq) (yfm (yd 3) (xOp (ybe) (yd 8) (xC (.int 1)))) (xC (.int 0)))) (xOp (ybe) (yd 8) (xC (.int 2))) (yd 7)) (yx 7)
def gS:XS:=ydi (xBM ylN (yqe) (yd 6) (yn))
def gP:XS:=ydi (xBM ylN (ytR) (yd 6) (yb (yeD (yb (xOp (ybe) (yd 8) (xC (.int 0))) (yb (xOp (ybe) (yd 8) (xC (.int 1))) (yb (yd 8) (yb (ygw (ykC (ydn) (yb (yd 3) (yn)))) (yb (ygw (ykC (ydn) (yb (yd 4) (yn)))) (yn))))))) (yn)))
def gW:XS:=yw (ybA (yba ycV (yb (yd 6) (yb (yd 8) (yn)))) (yx 9)) (yw (ybv (yt (xOp (oLt) (yd 9) (xC (.int 0)))) (ybg (yeD (yb (yba ydJ (yb (yd 8) (yb (yd 3) (yn)))) (yb (yba ybP (yb (yd 5) (yn))) (yb (xFz (ygf (yn))) (yb (xFz (ynV (xIS (xC (.str "abcdefgh"))) [2] (yfm (yd 1) (yd 0)))) (yn))))))) (yV)) (yw (ybA (yba ydJ (yb (yd 8) (yb (yd 3) (yn)))) (yx 10)) (yw (ybA (ygw (ykC (ydn) (yb (xOp (ybe) (xOp (ydk) (yd 6) (yd 9)) (xC (.int 3))) (yn)))) (yx 3)) (yw (ybA (ygw (ykC (ydn) (yb (xOp (ybe) (xOp (ydk) (yd 6) (yd 9)) (xC (.int 4))) (yn)))) (yx 4)) (yw (ybA (xOp (ybe) (xOp (ybe) (xOp (ydk) (yd 6) (yd 9)) (xC (.int 2))) (xUn yEm (xC (.int 1)))) (yx 7)) (yw (ybv (yt (xOp (oEq) (xOp (ybe) (yd 8) (xC (.int 0))) (xC (.str "throw")))) (yfn (yd 3) (xOp (ybe) (xOp (ybe) (xOp (ydk) (yd 6) (yd 9)) (xC (.int 2))) (xC (.int 2))) (xOp (ybe) (yd 10) (xC (.int 2)))) (yV)) (ybA (ygw (yza yvP (yd 6) (yfH) (yhD (yd 9)))) (yx 6))))))))
def gN:XS:=ybv (yDU (yt (yba yck (yb (yd 8) (yb (yd 1) (yb (yd 5) (yb (yd 3) (yb (yd 4) (yn))))))))) (ybg (xC .non)) (yV)
def gC:XS:=ybv (yt (xOp (oEq) (xOp (ybe) (yd 8) (xC (.int 0))) (xC (.str "jump")))) (ybA (xOp (ybe) (yd 8) (xC (.int 1))) (yx 7)) (ybv (yt (xOp (oEq) (xOp (ybe) (yd 8) (xC (.int 0))) (xC (.str "unless")))) gU (ybv (yt (xOp (oEq) (xOp (ybe) (yd 8) (xC (.int 0))) (xC (.str "settle")))) gS (ybv (xOr (yt (xOp (oEq) (xOp (ybe) (yd 8) (xC (.int 0))) (xC (.str "either")))) (yt (xOp (oEq) (xOp (ybe) (yd 8) (xC (.int 0))) (xC (.str "guard"))))) gP (ybv (xOr (yt (xOp (oEq) (xOp (ybe) (yd 8) (xC (.int 0))) (xC (.str "wait")))) (yt (xOp (oEq) (xOp (ybe) (yd 8) (xC (.int 0))) (xC (.str "throw"))))) gW gN))))
def yfo:XS:=yw (ybA (xOp (ydk) (yd 0) (yd 7)) (yx 8)) (yw (ybA (xOp yiT (yd 7) (xC (.int 1))) (yx 7)) (yw (ybv (yt (xOp (oEq) (xOp (ybe) (yd 8) (xC (.int 0))) (xC (.str "lay")))) gL yV) gC))
inductive Mrk where
 | ei (sec a w:Nat) (hs:List Int) (v:Vw)
 | gd (nm r:Str) (sec a w:Nat) (hs:List Int) (v:Vw)
noncomputable def mkV:Mrk->PV
 | .ei sec a w _ _=>.tup [.str "either",.int (sec:Int),.tup [.str "either",.int (sec:Int)],.loc a,.loc w]
 | .gd nm r sec a w _ _=>.tup [.str "guard",.str nm,.tup [.str "guard",.str nm,.str r,.int (sec:Int)],.loc a,.loc w]
def Mrk.a:Mrk->Nat|.ei _ a _ _ _=>a|.gd _ _ _ a _ _ _=>a
def Mrk.w:Mrk->Nat|.ei _ _ w _ _=>w|.gd _ _ _ _ w _ _=>w
def Mrk.hs:Mrk->List Int|.ei _ _ _ hs _=>hs|.gd _ _ _ _ _ hs _=>hs
def Mrk.v:Mrk->Vw|.ei _ _ _ _ v=>v|.gd _ _ _ _ _ _ v=>v
def Mrk.sec:Mrk->Nat|.ei s _ _ _ _=>s|.gd _ _ s _ _ _ _=>s
def Mrk.ok:Mrk->Prop|.gd _ r _ _ _ _ _=>okS r|_=>True
structure MkOk (h:AH) (k:Mrk):Prop where
 ha:h[k.a]?=some (.dct KS (k.hs.map .int))
 hw:∃ wj wv,h[k.w]?=some (.dct (wj.map .inl) (wv.map PV.int))/\ID wj wv/\∀ j,gI (wj.map .inl,wv.map PV.int) j=k.v j
 h8:k.hs.length=8
 nh:∀ v∈k.hs,N64 v
 nv:∀ j v,k.v j=some v->N64 v
 ok:k.ok
structure GS (h:AH) (a w c m:Nat) (H:AH) (σ:AS) (rs:List Mrk):Prop where
 ms:MS h a c w σ
 ml:h[m]?=some (.lst (rs.reverse.map mkV))
 ne:m≠a/\m≠w/\m≠c
 mok:∀ k∈rs,MkOk h k/\(k.a≠a/\k.a≠w/\k.a≠c/\k.a≠m)/\k.w≠a/\k.w≠w/\k.w≠c/\k.w≠m
 hf:∀ n d,H[n]?=some d->h[n]?=some d/\n≠a/\n≠w/\n≠c/\n≠m
theorem MkOk.mono {h h':AH}{k:Mrk}(o:MkOk h k) (ea:h'[k.a]?=h[k.a]?) (ew:h'[k.w]?=h[k.w]?):MkOk h' k:=⟨by rw [ea];exact o.ha,by rw [ew];exact o.hw,o.h8,o.nh,o.nv,o.ok⟩
noncomputable abbrev gρ (R:List PV) (bx:List Int) (f0 a w c m at':Nat) (c8 c9 c10:PVar):PSt:=[.val (.lst R),.val (.lst (bx.map .int)),.val (.loc f0),.val (.loc a),.val (.loc w),.val (.loc c),.val (.loc m),.val (.int (at':Int)),c8,c9,c10]
section
variable {h:AH}{f0 a w c m:Nat}{sl bx:List Int}{H:AH}{σ:AS}{rs:List Mrk}{R:List PV}{c8 c9 c10:PVar}{at':Nat}{x:PV}{xs:List PV}{u:Str}
theorem yJd {k:Str}{v0 v1 v2 v3 v4 v5 v6 v7:PVar}{r:PSt}:yt (xOp (oEq) (xOp (ybe) (yd 8) (xC (.int 0))) (xC (.str k))) (v0::v1::v2::v3::v4::v5::v6::v7::.val (.tup (.str u::xs))::r) h=some (decide (u=k),h):=by
 simp_all? only [ytf]
theorem ygl {k:Str}{A B:XS}{v0 v1 v2 v3 v4 v5 v6 v7:PVar}{r:PSt}(e:(u=k)=False):ybv (yt (xOp (oEq) (xOp (ybe) (yd 8) (xC (.int 0))) (xC (.str k)))) A B (v0::v1::v2::v3::v4::v5::v6::v7::.val (.tup (.str u::xs))::r) h=B (v0::v1::v2::v3::v4::v5::v6::v7::.val (.tup (.str u::xs))::r) h:=by
 show ob (yt _ _ h) _=_
 rw [yJd,yB,decide_eq_false (by rw [e];exact id)];rfl
theorem yFx {A B:XS}{v0 v1 v2 v3 v4 v5 v6 v7:PVar}{r:PSt}:ybv (yt (xOp (oEq) (xOp (ybe) (yd 8) (xC (.int 0))) (xC (.str u)))) A B (v0::v1::v2::v3::v4::v5::v6::v7::.val (.tup (.str u::xs))::r) h=A (v0::v1::v2::v3::v4::v5::v6::v7::.val (.tup (.str u::xs))::r) h:=by
 show ob (yt _ _ h) _=_
 rw [yJd,yB,decide_eq_true rfl];rfl
theorem yFy {k l:Str}{A B:XS}{v0 v1 v2 v3 v4 v5 v6 v7:PVar}{r:PSt}(e:(u=k)=False) (e':(u=l)=False):ybv (xOr (yt (xOp (oEq) (xOp (ybe) (yd 8) (xC (.int 0))) (xC (.str k)))) (yt (xOp (oEq) (xOp (ybe) (yd 8) (xC (.int 0))) (xC (.str l))))) A B (v0::v1::v2::v3::v4::v5::v6::v7::.val (.tup (.str u::xs))::r) h=B (v0::v1::v2::v3::v4::v5::v6::v7::.val (.tup (.str u::xs))::r) h:=by
 show ob (ob (yt _ _ h) _) _=_
 rw [yJd,yB,decide_eq_false (by rw [e];exact id)]
 show ob (yt _ _ h) _=_
 rw [yJd,yB,decide_eq_false (by rw [e'];exact id)];rfl
theorem yLG {l:Str}{A B:XS}{v0 v1 v2 v3 v4 v5 v6 v7:PVar}{r:PSt}:ybv (xOr (yt (xOp (oEq) (xOp (ybe) (yd 8) (xC (.int 0))) (xC (.str u)))) (yt (xOp (oEq) (xOp (ybe) (yd 8) (xC (.int 0))) (xC (.str l))))) A B (v0::v1::v2::v3::v4::v5::v6::v7::.val (.tup (.str u::xs))::r) h=A (v0::v1::v2::v3::v4::v5::v6::v7::.val (.tup (.str u::xs))::r) h:=by
 show ob (ob (yt _ _ h) _) _=_
 rw [yJd,yB,decide_eq_true rfl];rfl
theorem yLH {k:Str}{A B:XS}{v0 v1 v2 v3 v4 v5 v6 v7:PVar}{r:PSt}(e:(u=k)=False):ybv (xOr (yt (xOp (oEq) (xOp (ybe) (yd 8) (xC (.int 0))) (xC (.str k)))) (yt (xOp (oEq) (xOp (ybe) (yd 8) (xC (.int 0))) (xC (.str u))))) A B (v0::v1::v2::v3::v4::v5::v6::v7::.val (.tup (.str u::xs))::r) h=A (v0::v1::v2::v3::v4::v5::v6::v7::.val (.tup (.str u::xs))::r) h:=by
 show ob (ob (yt _ _ h) _) _=_
 rw [yJd,yB,decide_eq_false (by rw [e];exact id)]
 show ob (yt _ _ h) _=_
 rw [yJd,yB,decide_eq_true rfl];rfl
theorem yCM (hl:at'<R.length):yuP (gρ R bx f0 a w c m at' c8 c9 c10) h=some (true,h):=by
 unfold yuP gρ
 ac_rfl
 rw [if_pos (by omega),decide_eq_true (by omega)]
theorem yGM (e:R[at']?=some (.tup (.str u::xs))) (nl:(u = "lay")=False):yfo (gρ R bx f0 a w c m at' c8 c9 c10) h=gC (gρ R bx f0 a w c m (at'+1) (.val (.tup (.str u::xs))) c9 c10) h:=by
 have fe:atI R (at':Int)=some (.tup (.str u::xs)):=ycb e
 have nx:(at':Int)+1=((at'+1:Nat):Int):=by omega
 unfold yfo
 rw [ykG,show ybA (xOp (ydk) (yd 0) (yd 7)) (yx 8) (gρ R bx f0 a w c m at' c8 c9 c10) h=some (.nx (gρ R bx f0 a w c m at' (.val (.tup (.str u::xs))) c9 c10),h) by
  unfold gρ
  simp_all? only [fe],yB,ywv,ykG,show ybA (xOp yiT (yd 7) (xC (.int 1))) (yx 7) (gρ R bx f0 a w c m at' (.val (.tup (.str u::xs))) c9 c10) h=some (.nx (gρ R bx f0 a w c m (at'+1) (.val (.tup (.str u::xs))) c9 c10),h) by
  unfold gρ
  simp_all? only [nx],yB,ywv,ykG,ygl nl]
 rfl
theorem yzJ {u:T}(hp:yuu u) (hu:okT u) (b1:1<=bx.length) (b16:bx.length<=16) (nb:∀ v∈bx,N64 v) (e:R[at']?=some (yJu u)) (G:GS h a w c m H σ rs) :
  ∃ h' d8,yfo (gρ R bx f0 a w c m at' c8 c9 c10) h=some (.nx (gρ R bx f0 a w c m (at'+1) d8 c9 c10),h')/\GS h' a w c m H (evP bx u σ) rs:=by
 obtain ⟨h',e1,M,F⟩:=yuA hp hu b1 b16 nb G.ms
 refine ⟨h',.val (yJu u),?_,⟨M,?_,G.ne,fun k hk=>?_,?_⟩⟩
 .have key:∀ (q:Str) (xs:List PV),yJu u=.tup (.str q::xs)->(q = "lay")=False->(q = "jump")=False->(q = "unless")=False->(q = "settle")=False->(q = "either")=False->(q = "guard")=False->(q = "wait")=False->(q = "throw")=False->yfo (gρ R bx f0 a w c m at' c8 c9 c10) h=some (.nx (gρ R bx f0 a w c m (at'+1) (.val (yJu u)) c9 c10),h'):=by
   intro q xs er n1 n2 n3 n4 n5 n6 n7 n8
   rw [er] at e e1 ⊢
   rw [yGM e n1]
   unfold gC
   rw [ygl n2,ygl n3,ygl n4,yFy n5 n6,yFy n7 n8]
   unfold gN gρ
   simp_all? only [e1]
  cases u with
  | let_ r n=>exact key _ _ rfl yCK yzE yuH yuI yuJ yxd yzF yxe
  | take r n=>exact key _ _ rfl yzG yxf ysD ysE ysF yuK yxg yuL
  | put r n=>exact key _ _ rfl yCL yzH yuM yuN yuO yxh yzI yxi
  | reckon q r s t =>
   obtain ⟨n1,n2,n3,n4,n5,n6,n7,n8⟩:=w_not hu.1
   exact key _ _ rfl n1 n2 n3 n4 n5 n6 n7 n8
  | if_ _ _ _=>exact hp.elim
  | either _ _=>exact hp.elim
  | try_ _ _ _ _=>exact hp.elim
  | throw _ _=>exact hp.elim
  | wait=>exact hp.elim
 .rw [F.2 m G.ne.1 G.ne.2.2 G.ne.2.1];exact G.ml
 .obtain ⟨o,p,q⟩:=G.mok k hk
  exact ⟨o.mono (F.2 _ p.1 p.2.2.1 p.2.1) (F.2 _ q.1 q.2.2.1 q.2.1),p,q⟩
 .intro n d e
  obtain ⟨q0,q1,q2,q3,q4⟩:=G.hf n d e
  exact ⟨by rw [F.2 n q1 q3 q2];exact q0,q1,q2,q3,q4⟩
theorem yCN {k:Nat}(e:R[at']?=some (ylY k)):∃ d8,yfo (gρ R bx f0 a w c m at' c8 c9 c10) h=some (.nx (gρ R bx f0 a w c m k d8 c9 c10),h):=by
 refine ⟨.val (ylY k),?_⟩
 rw [yGM e yzC]
 unfold gC
 rw [yFx]
 unfold gρ
 simp_all? only [yDt]
 rfl
theorem yxj {r:Str}{k:Nat}(hr:okS r) (e:R[at']?=some (.tup [.str "unless",.str r,.int (k:Int)])) (G:GS h a w c m H σ rs):∃ d8,yfo (gρ R bx f0 a w c m at' c8 c9 c10) h=some (.nx (gρ R bx f0 a w c m (if σ.at_ r≠0 then at'+1 else k) d8 c9 c10),h):=by
 refine ⟨.val (.tup [.str "unless",.str r,.int (k:Int)]),?_⟩
 rw [yGM e yuB]
 unfold gC
 rw [ygl ysw,yFx]
 unfold gU gρ
 ac_rfl
 rw [yuz (n:=a) (r:=r) rfl (by simp_all? only [yDt]) G.ms.hh hr G.ms.h8,yB]
 simp_all? only [yIl]
 show (if σ.at_ r=0 then _ else _)=_
 by_cases q:σ.at_ r=0
 .rw [if_pos q,if_neg (not_not_intro q)]
 .rw [if_neg q,if_pos q]
end
section
variable {h:AH}{f0 a w c m:Nat}{sl bx:List Int}{H:AH}{σ:AS}{rs:List Mrk}{R:List PV}{c8 c9 c10:PVar}{at':Nat}{x:PV}{xs:List PV}{u:Str}
theorem MS.mono {h':AH}(M:MS h a c w σ) (k:∀ i,i=a\/i=c\/i=w->h'[i]?=h[i]?):MS h' a c w σ:=by
 obtain ⟨⟨sj,sv,wj,wv,e1,e2,r⟩,hh,p1,p2,p3,p4⟩:=M
 exact ⟨⟨sj,sv,wj,wv,by rw [k c (.inr (.inl rfl))];exact e1,by rw [k w (.inr (.inr rfl))];exact e2,r⟩,by rw [k a (.inl rfl)];exact hh,p1,p2,p3,p4⟩
theorem GS.ext (G:GS h a w c m H σ rs) (e:AH):GS (h++e) a w c m H σ rs:=by
 have k:∀ {i:Nat}{d:Nd},h[i]?=some d->(h++e)[i]?=h[i]?:=fun q=>getElem?_append_left (yeT q)
 obtain ⟨sj,sv,wj,wv,e1,e2,_⟩:=G.ms.ex
 refine ⟨G.ms.mono fun i hi=>?_,by rw [k G.ml];exact G.ml,G.ne,fun q hq=>?_,fun n d e=>by have q:=G.hf n d e;rw [k q.1];exact q⟩
 .rcases hi with rfl|rfl|rfl
  .exact k G.ms.hh
  .exact k e1
  .exact k e2
 .obtain ⟨o,r⟩:=G.mok q hq
  obtain ⟨_,_,ow,_⟩:=o.hw
  exact ⟨o.mono (k o.ha) (k ow),r⟩
theorem GS.marks (G:GS h a w c m H σ rs) {rs':List Mrk}(mk:∀ k∈rs',k∈rs\/(MkOk h k/\(k.a≠a/\k.a≠w/\k.a≠c/\k.a≠m)/\k.w≠a/\k.w≠w/\k.w≠c/\k.w≠m)):GS (h.set m (.lst (rs'.reverse.map mkV))) a w c m H σ rs':=by
 have k:∀ {i:Nat},i≠m->(h.set m (.lst (rs'.reverse.map mkV)))[i]?=h[i]?:=fun q=>getElem?_set_ne (Ne.symm q)
 refine ⟨G.ms.mono fun i hi=>?_,set_same G.ml,G.ne,fun q hq=>?_,fun n d e=>by have q:=G.hf n d e;rw [k q.2.2.2.2];exact q⟩
 .rcases hi with rfl|rfl|rfl
  .exact k (Ne.symm G.ne.1)
  .exact k (Ne.symm G.ne.2.2)
  .exact k (Ne.symm G.ne.2.1)
 .have:MkOk h q/\(q.a≠a/\q.a≠w/\q.a≠c/\q.a≠m)/\q.w≠a/\q.w≠w/\q.w≠c/\q.w≠m:=(mk q hq).elim (G.mok q) id
  exact ⟨this.1.mono (k this.2.1.2.2.2) (k this.2.2.2.2.2),this.2⟩
theorem yLI {k:Mrk}(e:h[m]?=some (.lst ((k::rs).reverse.map mkV))):yqe (.loc m) [] h=some (mkV k,h.set m (.lst (rs.reverse.map mkV))):=by
 unfold yqe
 simp only [e]
 have e2:(k::rs).reverse.map mkV=rs.reverse.map mkV++[mkV k]:=by simp
 rw [e2,List.dropLast_concat]
 have:(rs.reverse.map mkV++[mkV k])[(rs.reverse.map mkV++[mkV k]).length-1]?=some (mkV k):=by simp
 simp only [this]
theorem yxk {k:Mrk}(e:R[at']?=some yeX) (G:GS h a w c m H σ (k::rs)):∃ h' d8,yfo (gρ R bx f0 a w c m at' c8 c9 c10) h=some (.nx (gρ R bx f0 a w c m (at'+1) d8 c9 c10),h')/\GS h' a w c m H σ rs:=by
 refine ⟨_,.val yeX,?_,G.marks (rs':=rs) fun q hq=>.inl (mem_cons_of_mem _ hq)⟩
 rw [yGM e yuC]
 unfold gC
 rw [ygl ysx,ygl yoH,yFx]
 unfold gS gρ
 ac_rfl
 rw [yhL G.ml,if_pos rfl,yLI G.ml,yB]
 rfl
theorem yCO {k:Mrk}{row:List PV}{x1:PV}{q:Str}(ek:mkV k=.tup [.str q,x1,.tup (.str q::row),.loc h.length,.loc (h.length+1)]) (e1:atI (.str q::row) 1=some x1) (ka:k.a=h.length) (kw:k.w=h.length+1) (kh:k.hs=σ.hs) (kv:k.v=σ.v) (ok:k.ok) (hl:rs.length<=60) (G:GS h a w c m H σ rs) :
  ∃ h',gP (gρ R bx f0 a w c m at' (.val (.tup (.str q::row))) c9 c10) h=some (.nx (gρ R bx f0 a w c m at' (.val (.tup (.str q::row))) c9 c10),h')/\GS h' a w c m H σ (k::rs):=by
 obtain ⟨sj,sv,wj,wv,q1,q2,i1,i2,f1,f2⟩:=G.ms.ex
 have la:=yeT G.ms.hh
 have lc:=yeT q1
 have lw:=yeT q2
 have lm:=yeT G.ml
 have G2:=G.ext ([Nd.dct KS (σ.hs.map .int)]++[Nd.dct (wj.map .inl) (wv.map PV.int)])
 rw [<- append_assoc] at G2
 have g0:(h++[Nd.dct KS (σ.hs.map .int)]++[Nd.dct (wj.map .inl) (wv.map PV.int)])[h.length]?=some (Nd.dct KS (σ.hs.map .int)):=by simp
 have g1:(h++[Nd.dct KS (σ.hs.map .int)]++[Nd.dct (wj.map .inl) (wv.map PV.int)])[h.length+1]?=some (Nd.dct (wj.map .inl) (wv.map PV.int)):=by simp
 refine ⟨_,?_,G2.marks (rs':=k::rs) fun z hz=>?_⟩
 .unfold gP gρ
  simp_all? only [ytf,e1]
  rw [yhL G.ml,if_pos rfl,ykM G.ms.hh,yB,ykM (ydK q2),yB]
  rw [show (h++[Nd.dct KS (σ.hs.map .int)]).length=h.length+1 by simp,<- ek,yBt G2.ml (by rw [length_map,List.length_reverse];omega),yB,show rs.reverse.map mkV++[mkV k]=(k::rs).reverse.map mkV by simp]
 .rcases mem_cons.mp hz with rfl|hz
  .exact .inr ⟨⟨by rw [ka,kh];exact g0,⟨wj,wv,by rw [kw];exact g1,i2,by rw [kv];exact f2⟩,by rw [kh];exact G.ms.h8,by rw [kh];exact G.ms.nh,by rw [kv];exact G.ms.nv,ok⟩,by rw [ka];exact ⟨by omega,by omega,by omega,by omega⟩,by rw [kw];exact ⟨by omega,by omega,by omega,by omega⟩⟩
  .exact .inl hz
theorem yxl {sec:Nat}(e:R[at']?=some (.tup [.str "either",.int (sec:Int)])) (hl:rs.length<=60) (G:GS h a w c m H σ rs):∃ h' d8,yfo (gρ R bx f0 a w c m at' c8 c9 c10) h=some (.nx (gρ R bx f0 a w c m (at'+1) d8 c9 c10),h')/\GS h' a w c m H σ (.ei sec h.length (h.length+1) σ.hs σ.v::rs):=by
 obtain ⟨h',e1,G1⟩:=yCO (k:=.ei sec h.length (h.length+1) σ.hs σ.v) (R:=R) (bx:=bx) (at':=at'+1) (c9:=c9) (c10:=c10) rfl yDt rfl rfl rfl rfl trivial hl G
 refine ⟨h',.val (.tup [.str "either",.int (sec:Int)]),?_,G1⟩
 rw [yGM e yuD]
 unfold gC
 rw [ygl ysy,ygl yoI,ygl yoJ,yLG]
 exact e1
theorem yzK {nm r:Str}{sec:Nat}(hr:okS r) (e:R[at']?=some (.tup [.str "guard",.str nm,.str r,.int (sec:Int)])) (hl:rs.length<=60) (G:GS h a w c m H σ rs):∃ h' d8,yfo (gρ R bx f0 a w c m at' c8 c9 c10) h=some (.nx (gρ R bx f0 a w c m (at'+1) d8 c9 c10),h')/\GS h' a w c m H σ (.gd nm r sec h.length (h.length+1) σ.hs σ.v::rs):=by
 obtain ⟨h',e1,G1⟩:=yCO (k:=.gd nm r sec h.length (h.length+1) σ.hs σ.v) (R:=R) (bx:=bx) (at':=at'+1) (c9:=c9) (c10:=c10) rfl yDt rfl rfl rfl rfl hr hl G
 refine ⟨h',.val (.tup [.str "guard",.str nm,.str r,.int (sec:Int)]),?_,G1⟩
 rw [yGM e yxa]
 unfold gC
 rw [ygl yuE,ygl yqo,ygl yqp,yLH yjd]
 exact e1
end
def hit:En->Mrk->Bool
 | .waits,.ei ..=>true
 | .fell nm _,.gd nm' ..=>decide (nm'=nm)
 | _,_=>false
def ygR (e:En):List Mrk->Option (Mrk×List Mrk)
 | []=>none
 | k::rs=>if hit e k=true then some (k,rs) else ygR e rs
def yla (r:Str):En->List PV
 | .fell nm _=>[.str "throw",.str nm,.str r]
 | _=>[.str "wait"]
def ixM:Option (Mrk×List Mrk)->Int
 | none=>-1
 | some (_,rs)=>rs.length
def dn (n:Nat):List PV:=(List.range n).map fun k:Nat=>.int ((n:Int)-1-k)
theorem yJe (n:Nat):dn (n+1)=.int (n:Int)::dn n:=by
 unfold dn
 rw [List.range_succ_eq_map,map_cons,map_map]
 congr 1
 .congr 1;omega
 .refine List.map_congr_left fun k _=>?_
  show PV.int _=PV.int _
  congr 1
  omega
theorem yOu:(("wait":Str) = "throw")=False:=by grind
theorem yPa:(("either":Str) = "guard")=False:=by grind
def mkb:XS:=yw (ybv (yAH (yt (xOp (oEq) (xOp (ybe) (yd 1) (xC (.int 0))) (xC (.str "wait")))) (yt (xOp (oEq) (xOp (ybe) (xOp (ydk) (yd 0) (yd 2)) (xC (.int 0))) (xC (.str "either"))))) (ybg (yd 2)) (yV)) (ybv (yAH (yt (xOp (oEq) (xOp (ybe) (yd 1) (xC (.int 0))) (xC (.str "throw")))) (yAH (yt (xOp (oEq) (xOp (ybe) (xOp (ydk) (yd 0) (yd 2)) (xC (.int 0))) (xC (.str "guard")))) (yt (xOp (oEq) (xOp (ybe) (xOp (ydk) (yd 0) (yd 2)) (xC (.int 1))) (xOp (ybe) (yd 1) (xC (.int 1))))))) (ybg (yd 2)) (yV))
section
variable {h:AH}{m:Nat}
theorem yuQ {e:En}(he:e≠.done) {r:Str}{L:List PV}(hL:h[m]?=some (.lst L)):∀ (rs:List Mrk) (c:PVar),L.take rs.length=rs.reverse.map mkV->(∃ c',ymz (yx 2) mkb (dn rs.length) [.val (.loc m),.val (.tup (yla r e)),c] h=some (.nx [.val (.loc m),.val (.tup (yla r e)),c'],h)/\ygR e rs=none)\/∃ k rs',ygR e rs=some (k,rs')/\ymz (yx 2) mkb (dn rs.length) [.val (.loc m),.val (.tup (yla r e)),c] h=some (.rt (.int (rs'.length:Int)),h)
 | [],c,_=>.inl ⟨c,rfl,rfl⟩
 | k::rs,c,hk=>by
  have h1:L[rs.length]?=some (mkV k):=by
   have:(L.take (rs.length+1))[rs.length]?=some (mkV k):=by
    rw [show L.take (rs.length+1)=_ from hk];simp
   rwa [List.getElem?_take_of_lt (by omega)] at this
  have h2:L.take rs.length=rs.reverse.map mkV:=by
   have:=congrArg (List.take rs.length) (show L.take (rs.length+1)=_ from hk)
   rw [List.take_take,show min rs.length (rs.length+1)=rs.length by omega] at this
   rw [this];simp
  have ix:ydk (.loc m) (.int (rs.length:Int)) h=some (mkV k,h):=by
   unfold ydk
   simp only [hL]
   rw [ycb h1]
  have b:mkb [.val (.loc m),.val (.tup (yla r e)),.val (.int (rs.length:Int))] h=if hit e k=true then some (.rt (.int (rs.length:Int)),h) else some (.nx [.val (.loc m),.val (.tup (yla r e)),.val (.int (rs.length:Int))],h):=by
   unfold mkb
   cases e with
   | done=>exact absurd rfl he
   | waits =>
    cases k with
    | ei s a w hs v=>simp_all? only [show yla r .waits=[.str "wait"] from rfl,ytf,ix,show mkV (.ei s a w hs v)=.tup [.str "either",.int (s:Int),.tup [.str "either",.int (s:Int)],.loc a,.loc w] from rfl,show hit .waits (.ei s a w hs v)=true from rfl,↓reduceIte]
    | gd nm r' s a w hs v=>simp_all? only [show yla r .waits=[.str "wait"] from rfl,ytf,ix,show mkV (.gd nm r' s a w hs v)=.tup [.str "guard",.str nm,.tup [.str "guard",.str nm,.str r',.int (s:Int)],.loc a,.loc w] from rfl,show hit .waits (.gd nm r' s a w hs v)=false from rfl,yjd,yOu,↓reduceIte]
   | fell nm v =>
    cases k with
    | ei s a w hs v'=>simp_all? only [show yla r (.fell nm v)=[.str "throw",.str nm,.str r] from rfl,ytf,ix,show mkV (.ei s a w hs v')=.tup [.str "either",.int (s:Int),.tup [.str "either",.int (s:Int)],.loc a,.loc w] from rfl,show hit (.fell nm v) (.ei s a w hs v')=false from rfl,yfz,yPa,↓reduceIte]
    | gd nm' r' s a w hs v' =>
     simp_all? only [show yla r (.fell nm v)=[.str "throw",.str nm,.str r] from rfl,ytf,yDt,ix,show mkV (.gd nm' r' s a w hs v')=.tup [.str "guard",.str nm',.tup [.str "guard",.str nm',.str r',.int (s:Int)],.loc a,.loc w] from rfl,show hit (.fell nm v) (.gd nm' r' s a w hs v')=decide (nm'=nm) from rfl,yfz,↓reduceIte]
  show _\/_
  rw [show dn (k::rs).length=.int (rs.length:Int)::dn rs.length from yJe _,yBe,show yx 2 (.int (rs.length:Int)) [.val (.loc m),.val (.tup (yla r e)),c]=some [.val (.loc m),.val (.tup (yla r e)),.val (.int (rs.length:Int))] from rfl,bind_some,b]
  by_cases q:hit e k=true
  .rw [if_pos q]
   exact .inr ⟨k,rs,if_pos q,rfl⟩
  .rw [if_neg q]
   show (∃ c',ymz _ mkb (dn rs.length) _ h=_/\ygR e (k::rs)=none)\/∃ k' rs',ygR e (k::rs)=_/\ymz _ mkb (dn rs.length) _ h=_
   rw [show ygR e (k::rs)=ygR e rs from if_neg q]
   exact yuQ he hL rs _ h2
theorem yCP {e:En}(he:e≠.done) {r:Str}{rs:List Mrk}(hl:rs.length<=60) (hL:h[m]?=some (.lst (rs.reverse.map mkV))):ycV [.loc m,.tup (yla r e)] h=some (.int (ixM (ygR e rs)),h):=by
 unfold ycV
 rw [yC]
 show ob (yw (yxY (yJq _) (yx 2) mkb) _ [.val (.loc m),.val (.tup (yla r e)),.no] h) fnK=_
 have ll:(rs.reverse.map mkV).length=rs.length:=by simp
 rw [ykG,yIa,yLb (i:=(rs.length:Int)-1) (h1:=h) (by simp_all? only [ywD hL,ll]) (by omega),yB]
 rw [show yzZ ((rs.length:Int)-1) (-1) ((rs.length:Int)-1+1).toNat=dn rs.length by
  unfold yzZ dn
  rw [show ((rs.length:Int)-1+1).toNat=rs.length by omega]
  refine List.map_congr_left fun k _=>?_
  show PV.int _=PV.int _
  congr 1
  omega]
 rcases yuQ he (r:=r) hL rs .no (by rw [<- ll,take_length]) with ⟨c',q,f⟩|⟨k,rs',f,q⟩
 .rw [q,f]
  ac_rfl
  rfl
 .rw [q,f]
  rfl
end
section
variable {h:AH}{f0 a w c m:Nat}{sl bx:List Int}{H:AH}{σ:AS}{rs:List Mrk}{R:List PV}{c8 c9 c10:PVar}{at':Nat}
theorem yGN {e:En}(he:e≠.done) {r:Str}(hr:okS r) {hs:List Int}(ha:h[a]?=some (.dct KS (hs.map .int))) (h8:hs.length=8) (hv:∀ nm v,e=.fell nm v->v=hs.getD (sx r) 0):ydJ [.tup (yla r e),.loc a] h=some (enV e,h):=by
 unfold ydJ
 rw [yC]
 cases e with
 | done=>exact absurd rfl he
 | waits =>
  show ob (yw _ _ [.val (.tup [.str "wait"]),.val (.loc a)] h) fnK=_
  simp_all? only [ytf]
  rfl
 | fell nm v =>
  show ob (yw _ _ [.val (.tup [.str "throw",.str nm,.str r]),.val (.loc a)] h) fnK=_
  simp_all? only [ytf,yfz,↓reduceIte]
  rw [yuz (n:=a) (r:=r) rfl (by simp_all? only [yIl]) ha hr h8,yB,<- hv nm v rfl]
  rfl
theorem yuR {n:Nat}{hs:List Int}{inn:PV->PSt}(hi:∀ x,inn x=[.val x,.val (.loc n)]) (ha:h[n]?=some (.dct KS (hs.map .int))) (h8:hs.length=8):yDo (yfm (yd 1) (yd 0)) inn (SL.map .str) h=some (hs.map .int,h):=by
 rw [yoa (f:=PV.str) (g:=fun r=>.int (hs.getD (sx r) 0)) fun r hr=>by
  rw [hi]
  exact yuz (n:=n) (r:=r) rfl rfl ha hr h8]
 match hs,h8 with
 | [x0,x1,x2,x3,x4,x5,x6,x7],_=>rfl
theorem yGO {ρ:PSt}:xIS (xC (.str "abcdefgh")) ρ h=some (SL.map .str,h):=by
 show (if ("abcdefgh":Str).length<=100000 then some (("abcdefgh":Str).cps.toList.map sgn,h) else none)=_
 rw [if_pos (by rfl'),show ("abcdefgh":Str).cps.toList=[97,98,99,100,101,102,103,104] by rfl']
 rw [show (SL:List Str)=[⟨#[97]⟩,⟨#[98]⟩,⟨#[99]⟩,⟨#[100]⟩,⟨#[101]⟩,⟨#[102]⟩,⟨#[103]⟩,⟨#[104]⟩] by rfl']
 rfl
theorem yqT {e:En}{k:Mrk}{rs':List Mrk}:∀ {rs:List Mrk},ygR e rs=some (k,rs')->(∃ pre,rs=pre++k::rs')/\hit e k=true
 | q::rs,f=>by
  unfold ygR at f
  split at f
  .rename_i hq
   cases f
   exact ⟨⟨[],rfl⟩,hq⟩
  .obtain ⟨⟨pre,e1⟩,e2⟩:=yqT f
   exact ⟨⟨q::pre,by rw [e1];rfl⟩,e2⟩
theorem yGP {e:En}(he:e≠.done) {r:Str}(er:R[at']?=some (.tup (yla r e))):yfo (gρ R bx f0 a w c m at' c8 c9 c10) h=gW (gρ R bx f0 a w c m (at'+1) (.val (.tup (yla r e))) c9 c10) h:=by
 cases e with
 | done=>exact absurd rfl he
 | waits =>
  rw [show yla r .waits=[.str "wait"] from rfl] at er ⊢
  rw [yGM er yzD]
  unfold gC
  rw [ygl yxb,ygl ysz,ygl ysA,yFy ysB yuF,yLG]
 | fell nm v =>
  rw [show yla r (.fell nm v)=[.str "throw",.str nm,.str r] from rfl] at er ⊢
  rw [yGM er yxc]
  unfold gC
  rw [ygl yuG,ygl yqq,ygl yqr,yFy yqs ysC,yLH yfz]
theorem yCQ {e:En}(he:e≠.done) {r:Str}(hr:okS r) (hv:∀ nm v,e=.fell nm v->v=σ.at_ r) (er:R[at']?=some (.tup (yla r e))) (G:GS h a w c m H σ rs) (hl:rs.length<=60) (s8:sl.length=8) (ef:H[f0]?=some (.dct KS (sl.map .int))) (hf:ygR e rs=none) :
  yfo (gρ R bx f0 a w c m at' c8 c9 c10) h=some (.rt (.tup [enV e,.lst (ygG σ.s),.lst [],.lst (sl.map .int)]),h):=by
 rw [yGP he er]
 have me:=yCP he (r:=r) hl G.ml
 rw [hf] at me
 have me:ycV [.loc m,.tup (yla r e)] h=some (.int (-1),h):=me
 have ee:=yGN he hr G.ms.hh G.ms.h8 hv
 obtain ⟨sj,sv,_,_,q1,_,i1,_,f1,_⟩:=G.ms.ex
 unfold gW gρ
 simp_all? only [me,ee,ysq q1 i1 f1,show ((-1:Int)<0)=True from eq_true (by decide),↓reduceIte]
 rw [yGO,yB,if_pos (by decide),yuR (n:=f0) (hs:=sl) ?_ (G.hf _ _ ef).1 s8]
 .rfl
 .exact fun x=>rfl
theorem yCR {hs' wj wv:List Int}{v':Vw}{rs':List Mrk}(G:GS h a w c m H σ rs) (hk:∀ q∈rs',q∈rs) (h8:hs'.length=8) (nh:∀ v∈hs',N64 v) (iw:ID wj wv) (fw:∀ j,gI (wj.map .inl,wv.map PV.int) j=v' j) (nv:∀ j x,v' j=some x->N64 x) :
  GS (h++[.dct KS (hs'.map .int)]++[.dct (wj.map .inl) (wv.map .int)]++[.lst (rs'.reverse.map mkV)]) h.length (h.length+1) c (h.length+2) H ⟨hs',v',σ.s⟩ rs':=by
 have gx:∀ (X:List Nd) (k:Nat),(h++X)[h.length+k]?=X[k]?:=fun X k=>by rw [getElem?_append_right (le_add_right _ _),Nat.add_sub_cancel_left]
 obtain ⟨sj,sv,_,_,q1,_,i1,_,f1,_⟩:=G.ms.ex
 rw [append_assoc,append_assoc]
 have old:∀ {X:AH}{i:Nat}{d:Nd},h[i]?=some d->(h++X)[i]?=h[i]?:=fun e=>getElem?_append_left (yeT e)
 have lc:=yeT q1
 refine ⟨⟨⟨sj,sv,wj,wv,(old q1).trans q1,gx _ 1,i1,iw,f1,fw⟩,gx _ 0,⟨by omega,by omega,by omega⟩,h8,nh,nv⟩,gx _ 2,⟨by omega,by omega,by omega⟩,fun q hq=>?_,fun n d e=>?_⟩
 .obtain ⟨o,p,r⟩:=G.mok q (hk q hq)
  obtain ⟨_,_,ow,_⟩:=o.hw
  have l1:=yeT o.ha
  have l2:=yeT ow
  exact ⟨o.mono (old o.ha) (old ow),⟨by omega,by omega,p.2.2.1,by omega⟩,by omega,by omega,r.2.2.1,by omega⟩
 .have q:=G.hf n d e
  have lf:=yeT q.1
  exact ⟨(old q.1).trans q.1,by omega,by omega,q.2.2.2.1,by omega⟩
def aft (s:Vw):En->Mrk->AS
 | .fell _ v,.gd _ r' _ _ _ hs v'=>(⟨hs,v',s⟩:AS).put_ r' v
 | _,k=>⟨k.hs,k.v,s⟩
theorem yCS {e:En}(he:e≠.done) {r:Str}(hr:okS r) (hv:∀ nm v,e=.fell nm v->v=σ.at_ r) (er:R[at']?=some (.tup (yla r e))) (G:GS h a w c m H σ rs) (hl:rs.length<=60) {k:Mrk}{rs':List Mrk}(hf:ygR e rs=some (k,rs')) :
  ∃ h' a' w' m' d8 d9 d10,yfo (gρ R bx f0 a w c m at' c8 c9 c10) h=some (.nx (gρ R bx f0 a' w' c m' k.sec d8 d9 d10),h')/\GS h' a' w' c m' H (aft σ.s e k) rs':=by
 obtain ⟨⟨pre,epre⟩,hk⟩:=yqT hf
 rw [yGP he er]
 have me:=yCP he (r:=r) hl G.ml
 rw [hf] at me
 have me:ycV [.loc m,.tup (yla r e)] h=some (.int (rs'.length:Int),h):=me
 have ee:=yGN he hr G.ms.hh G.ms.h8 hv
 obtain ⟨mo,na,nw⟩:=G.mok k (by rw [epre];simp)
 obtain ⟨wj,wv,qw,iw,fw⟩:=mo.hw
 have sub:∀ q∈rs',q∈rs:=fun q hq=>by rw [epre];simp [hq]
 have ixk:(rs.reverse.map mkV)[rs'.length]?=some (mkV k):=by rw [epre];simp
 have lm:=yeT G.ml
 have mm:∀ e:AH,(h++e)[m]?=some (.lst (rs.reverse.map mkV)):=fun e=>(getElem?_append_left lm).trans G.ml
 have ix:∀ e:AH,ydk (.loc m) (.int (rs'.length:Int)) (h++e)=some (mkV k,h++e):=fun e=>by
  unfold ydk
  simp only [mm e]
  rw [ycb ixk]
 have ix0:=ix []
 rw [append_nil] at ix0
 have cut:yqI (rs.reverse.map mkV) none (some (rs'.length:Int))=rs'.reverse.map mkV:=by
  have:rs.reverse.map mkV=rs'.reverse.map mkV++(mkV k::pre.reverse.map mkV):=by rw [epre];simp
  rw [this]
  unfold yqI
  rw [HT.sIx_nat,show HT.sIx (rs'.reverse.map mkV++(mkV k::pre.reverse.map mkV)).length 0 none=0 from rfl,List.drop_zero,show min rs'.length (rs'.reverse.map mkV++(mkV k::pre.reverse.map mkV)).length-0=(rs'.reverse.map mkV).length by simp,List.take_left]
 have cutl:∀ e:AH,yvP (.loc m) none (some (rs'.length:Int)) (h++e)=some (.lst (rs'.reverse.map mkV),h++e):=fun e=>by
  unfold yvP PX.listOf
  simp only [mm e,cut]
 have l1:(h++[Nd.dct KS (k.hs.map .int)]).length=h.length+1:=by simp
 have l2:(h++[Nd.dct KS (k.hs.map .int)]++[Nd.dct (wj.map .inl) (wv.map PV.int)]).length=h.length+2:=by simp
 have ix1:=ix [Nd.dct KS (k.hs.map .int)]
 have ix2:=ix ([Nd.dct KS (k.hs.map .int)]++[Nd.dct (wj.map .inl) (wv.map PV.int)])
 rw [<- append_assoc] at ix2
 have ncond:((rs'.length:Int)<0)=False:=eq_false (by omega)
 have dw:(h++[Nd.dct KS (k.hs.map .int)])[k.w]?=some (Nd.dct (wj.map .inl) (wv.map PV.int)):=ydK qw
 obtain ⟨q,x1,row,ek,sec⟩:∃ (q x1:PV) (row:List PV),mkV k=.tup [q,x1,.tup row,.loc k.a,.loc k.w]/\atI row (-1)=some (.int (k.sec:Int)):=by
  cases k with
  | ei s ka kw khs kv=>exact ⟨_,_,_,rfl,rfl⟩
  | gd nm' r' s ka kw khs kv=>exact ⟨_,_,_,rfl,rfl⟩
 rw [ek] at ix0 ix1 ix2
 have da:=ykM mo.ha
 have dw:=ykM dw
 have pre:gW (gρ R bx f0 a w c m (at'+1) (.val (.tup (yla r e))) c9 c10) h=ob (ybv (yt (xOp (oEq) (xOp (ybe) (yd 8) (xC (.int 0))) (xC (.str "throw")))) (yfn (yd 3) (xOp (ybe) (xOp (ybe) (xOp (ydk) (yd 6) (yd 9)) (xC (.int 2))) (xC (.int 2))) (xOp (ybe) (yd 10) (xC (.int 2)))) yV (gρ R bx f0 h.length (h.length+1) c m k.sec (.val (.tup (yla r e))) (.val (.int (rs'.length:Int))) (.val (enV e))) (h++[Nd.dct KS (k.hs.map .int)]++[Nd.dct (wj.map .inl) (wv.map PV.int)])) (sqK (ybA (ygw (yza yvP (yd 6) (yfH) (yhD (yd 9)))) (yx 6))):=by
  unfold gW gρ
  simp_all? only [yIl,yNt,yOi,me,ee,ncond,ix0,ix1,ix2,l1,da,dw,sec,↓reduceIte]
 rw [pre]
 have fin:∀ hs':List Int,sqK (ybA (ygw (yza yvP (yd 6) (yfH) (yhD (yd 9)))) (yx 6)) (.nx (gρ R bx f0 h.length (h.length+1) c m k.sec (.val (.tup (yla r e))) (.val (.int (rs'.length:Int))) (.val (enV e)))) (h++[Nd.dct KS (hs'.map .int)]++[Nd.dct (wj.map .inl) (wv.map PV.int)])=some (.nx (gρ R bx f0 h.length (h.length+1) c (h.length+2) k.sec (.val (.tup (yla r e))) (.val (.int (rs'.length:Int))) (.val (enV e))),h++[Nd.dct KS (hs'.map .int)]++[Nd.dct (wj.map .inl) (wv.map PV.int)]++[.lst (rs'.reverse.map mkV)]):=by
  intro hs'
  have c3:=cutl ([Nd.dct KS (hs'.map .int)]++[Nd.dct (wj.map .inl) (wv.map PV.int)])
  rw [<- append_assoc] at c3
  have l3:(h++[Nd.dct KS (hs'.map .int)]++[Nd.dct (wj.map .inl) (wv.map PV.int)]).length=h.length+2:=by simp
  unfold gρ
  simp_all? only [c3,l3]
 cases e with
 | done=>exact absurd rfl he
 | waits =>
  cases k with
  | gd nm r' s ka kw khs kv=>cases hk
  | ei s ka kw khs kv =>
   exact ⟨_,h.length,h.length+1,h.length+2,.val (.tup (yla r .waits)),.val (.int (rs'.length:Int)),.val (enV .waits),(congrArg (ob · _) (ygl (u:="wait") (xs:=[]) yOu)).trans (fin khs),yCR G sub mo.h8 mo.nh iw fw mo.nv⟩
 | fell nm v =>
  cases k with
  | ei s ka kw khs kv=>cases hk
  | gd nm' r' s ka kw khs kv =>
   have hvv:N64 v:=by rw [hv nm v rfl];exact yut G.ms.nh
   have g0:(h++[Nd.dct KS (khs.map .int)]++[Nd.dct (wj.map .inl) (wv.map PV.int)])[h.length]?=some (.dct KS (khs.map .int)):=by simp
   have s0:(h++[Nd.dct KS (khs.map .int)]++[Nd.dct (wj.map .inl) (wv.map PV.int)]).set h.length (.dct KS ((khs.set (sx r') v).map .int))=h++[Nd.dct KS ((khs.set (sx r') v).map .int)]++[Nd.dct (wj.map .inl) (wv.map PV.int)]:=by simp [List.set_append]
   refine ⟨_,h.length,h.length+1,h.length+2,.val (.tup (yla r (.fell nm v))),.val (.int (rs'.length:Int)),.val (enV (.fell nm v)),(congrArg (ob · _) (yFx (u:="throw") (xs:=[.str nm,.str r]))).trans ?_,yCR (σ:=σ) (hs':=khs.set (sx r') v) G sub (by rw [length_set];exact mo.h8) (yCn mo.nh hvv) iw fw mo.nv⟩
   dsimp only [Mrk.hs]
   rw [yCJ (n:=h.length) (r:=r') (v:=v) rfl rfl (by
    rw [<- ek] at ix2
    have ix2:ydk (.loc m) (.int (rs'.length:Int)) (h++[Nd.dct KS (khs.map .int)]++[Nd.dct (wj.map .inl) (wv.map PV.int)])=some (.tup [.str "guard",.str nm',.tup [.str "guard",.str nm',.str r',.int (s:Int)],.loc ka,.loc kw],_):=ix2
    simp_all? only [yIl,ix2]
    rfl) g0 mo.ok mo.h8,yB,s0]
   exact fin (khs.set (sx r') v)
end
def Rn (j:Nat) (ρ:PSt) (h:AH) (ρ':PSt) (h':AH):Prop:=∀ n,whl yuP yfo (n+j) ρ h=whl yuP yfo n ρ' h'
theorem Rn.refl {ρ:PSt}{h:AH}:Rn 0 ρ h ρ h:=fun _=>rfl
theorem Rn.trans {i j:Nat}{ρ ρ' ρ'':PSt}{h h' h'':AH}(p:Rn i ρ h ρ' h') (q:Rn j ρ' h' ρ'' h''):Rn (j+i) ρ h ρ'' h'':=fun n=>by rw [<- add_assoc,p,q]
def Rx (H:AH) (j:Nat) (ρ:PSt) (h:AH) (y:PV):Prop:=∃ h',(∀ (n:Nat) (d:Nd),H[n]?=some d->h'[n]?=some d)/\∀ n,whl yuP yfo (n+j) ρ h=some (.rt y,h')
theorem Rn.fin {i j:Nat}{ρ ρ':PSt}{H h h':AH}{y:PV}(p:Rn i ρ h ρ' h') (q:Rx H j ρ' h' y):Rx H (j+i) ρ h y:=by
 obtain ⟨k,r,q⟩:=q
 exact ⟨k,r,fun n=>by rw [<- add_assoc,p,q]⟩
section
variable {h:AH}{f0 a w c m:Nat}{sl bx:List Int}{H:AH}{σ:AS}{rs:List Mrk}{R:List PV}{c8 c9 c10:PVar}{at':Nat}
theorem Rn.one {x:PV}{ρ':PSt}{h':AH}(e:R[at']?=some x) (b:yfo (gρ R bx f0 a w c m at' c8 c9 c10) h=some (.nx ρ',h')):Rn 1 (gρ R bx f0 a w c m at' c8 c9 c10) h ρ' h':=fun n=>by
 rw [yrG,yCM (List.getElem?_eq_some_iff.mp e).1,yB,if_pos rfl,b,yB]
theorem Rx.one {x y:PV}{h':AH}(e:R[at']?=some x) (b:yfo (gρ R bx f0 a w c m at' c8 c9 c10) h=some (.rt y,h')) (r:∀ (n:Nat) (d:Nd),H[n]?=some d->h'[n]?=some d):Rx H 1 (gρ R bx f0 a w c m at' c8 c9 c10) h y:=⟨h',r,fun n=>by
 rw [yrG,yCM (List.getElem?_eq_some_iff.mp e).1,yB,if_pos rfl,b,yB]⟩
end
structure Fix where
 R:List PV
 bx:List Int
 sl:List Int
 H:AH
 f0:Nat
 c:Nat
abbrev Fix.st (X:Fix) (a w m at':Nat) (c8 c9 c10:PVar):PSt:=gρ X.R X.bx X.f0 a w X.c m at' c8 c9 c10
def Fix.dn (X:Fix) (L f':Nat) (τ:AS) (rs:List Mrk) (ρ:PSt) (h:AH):Prop:=∃ j h' a' w' m' d8 d9 d10,j<=L/\Rn j ρ h (X.st a' w' m' f' d8 d9 d10) h'/\GS h' a' w' X.c m' X.H τ rs
def Fix.to (X:Fix) (L:Nat) (e:En) (s:Vw) (ρ:PSt) (h:AH):Option (Mrk×List Mrk)->Prop
 | none=>∃ j,j<=L/\Rx X.H j ρ h (.tup [enV e,.lst (ygG s),.lst [],.lst (X.sl.map .int)])
 | some (k,rs')=>X.dn L k.sec (aft s e k) rs' ρ h
noncomputable def Fix.oc (X:Fix) (L f':Nat) (rs:List Mrk) (ρ:PSt) (h:AH):En×AS->Prop
 | (.done,τ)=>X.dn L f' τ rs ρ h
 | (.waits,τ)=>X.to L .waits τ.s ρ h (ygR .waits rs)
 | (.fell nm v,τ)=>X.to L (.fell nm v) τ.s ρ h (ygR (.fell nm v) rs)
section
variable {X:Fix}{L L1 L2 f1 f':Nat}{rs rs1:List Mrk}{ρ ρ':PSt}{h h1:AH}{τ σ:AS}
theorem yGQ {i:Nat}(p:Rn i ρ h ρ' h1) (d:X.dn L f' τ rs ρ' h1) (hl:i+L<=L1):X.dn L1 f' τ rs ρ h:=by
 obtain ⟨j,h',a',w',m',d8,d9,d10,q1,q2,q3⟩:=d
 exact ⟨j+i,h',a',w',m',d8,d9,d10,by omega,p.trans q2,q3⟩
theorem ylb {i:Nat}{e:En}{s:Vw}(p:Rn i ρ h ρ' h1):∀ {o:Option (Mrk×List Mrk)},X.to L e s ρ' h1 o->i+L<=L1->X.to L1 e s ρ h o
 | none,⟨j,q1,q2⟩,hl=>⟨j+i,by omega,p.fin q2⟩
 | some (k,rs'),d,hl=>yGQ p d hl
theorem yqU {i:Nat}(p:Rn i ρ h ρ' h1):∀ {q:En×AS},X.oc L f' rs ρ' h1 q->i+L<=L1->X.oc L1 f' rs ρ h q
 | (.done,τ),d,hl=>yGQ p d hl
 | (.waits,τ),d,hl=>ylb (e:=.waits) p d hl
 | (.fell nm v,τ),d,hl=>ylb (e:=.fell nm v) p d hl
theorem yzL (d:X.dn L1 f1 τ rs1 ρ h) {q:En×AS}(g:∀ h' a' w' m' d8 d9 d10,GS h' a' w' X.c m' X.H τ rs1->X.oc L2 f' rs (X.st a' w' m' f1 d8 d9 d10) h' q) (hl:L1+L2<=L):X.oc L f' rs ρ h q:=by
 obtain ⟨j,h',a',w',m',d8,d9,d10,q1,q2,q3⟩:=d
 exact yqU q2 (g h' a' w' m' d8 d9 d10 q3) (by omega)
def Fix.sub (X:Fix) (f:Nat) (l:List PV):Prop:=∀ i,i<l.length->X.R[f+i]?=l[i]?
theorem yhF {f:Nat}{l l':List PV}(s:X.sub f (l++l')):X.sub f l:=fun i hi=>(s i (by rw [length_append];omega)).trans (getElem?_append_left hi)
theorem ylc {f:Nat}{l l':List PV}(s:X.sub f (l++l')):X.sub (f+l.length) l':=fun i hi=>by
 have:=s (l.length+i) (by rw [length_append];omega)
 rw [getElem?_append_right (le_add_right _ _),Nat.add_sub_cancel_left] at this
 rw [add_assoc];exact this
theorem sub_0 {f:Nat}{x:PV}{l:List PV}(s:X.sub f (x::l)):X.R[f]?=some x:=s 0 (by simp)
variable {a w m f:Nat}{c8 c9 c10:PVar}
theorem yCT {e:En}(he:e≠.done) {r:Str}(hr:okS r) (hv:∀ nm v,e=.fell nm v->v=σ.at_ r) (er:X.R[f]?=some (.tup (yla r e))) (G:GS h a w X.c m X.H σ rs) (hl:rs.length<=60) (s8:X.sl.length=8) (ef:X.H[X.f0]?=some (.dct KS (X.sl.map .int))):X.to 1 e σ.s (X.st a w m f c8 c9 c10) h (ygR e rs):=by
 cases hf:ygR e rs with
 | none=>exact ⟨1,Nat.le_refl _,Rx.one er (yCQ he hr hv er G hl s8 ef hf) fun n d e=>(G.hf n d e).1⟩
 | some p =>
  obtain ⟨k,rs'⟩:=p
  obtain ⟨h',a',w',m',d8,d9,d10,e1,G'⟩:=yCS (bx:=X.bx) (c8:=c8) (c9:=c9) (c10:=c10) he hr hv er G hl hf
  exact ⟨1,h',a',w',m',d8,d9,d10,Nat.le_refl _,Rn.one er e1,G'⟩
theorem yCU {k:Nat}(e:X.R[f]?=some (ylY k)) (G:GS h a w X.c m X.H σ rs):X.oc 1 k rs (X.st a w m f c8 c9 c10) h (.done,σ):=by
 obtain ⟨d8,e1⟩:=yCN (bx:=X.bx) (f0:=X.f0) (a:=a) (w:=w) (c:=X.c) (m:=m) (h:=h) (c8:=c8) (c9:=c9) (c10:=c10) e
 exact ⟨1,h,a,w,m,d8,c9,c10,Nat.le_refl _,Rn.one e e1,G⟩
theorem yuS {g k:Nat}{K:Mrk}(e:X.R[f]?=some yeX) (e':X.R[f+1]?=some (ylY k)) (G:GS h a w X.c m X.H σ (K::rs)):X.oc 2 k rs (X.st a w m f c8 c9 c10) h (.done,σ):=by
 obtain ⟨h',d8,e1,G1⟩:=yxk (bx:=X.bx) (c8:=c8) (c9:=c9) (c10:=c10) e G
 exact yqU (L:=1) (Rn.one e e1) (yCU e' G1) (Nat.le_refl _)
end
section
variable {X:Fix}(s8:X.sl.length=8) (ef:X.H[X.f0]?=some (.dct KS (X.sl.map .int))) (b1:1<=X.bx.length) (b16:X.bx.length<=16) (nb:∀ v∈X.bx,N64 v)
include s8 ef b1 b16 nb
theorem ynI {u:T}{f a w m:Nat}{h:AH}{σ:AS}{rs:List Mrk}{c8 c9 c10:PVar}(hp:yuu u) (hu:okT u) (e:X.R[f]?=some (yJu u)) (G:GS h a w X.c m X.H σ rs):X.oc 1 (f+1) rs (X.st a w m f c8 c9 c10) h (.done,evP X.bx u σ):=by
 obtain ⟨h',d8,e1,G1⟩:=yzJ (c8:=c8) (c9:=c9) (c10:=c10) hp hu b1 b16 nb e G
 exact ⟨1,h',a,w,m,d8,c9,c10,Nat.le_refl _,Rn.one e e1,G1⟩
mutual
theorem yNL:∀ (t:T) (f a w m:Nat) (h:AH) (σ:AS) (rs:List Mrk) (c8 c9 c10:PVar),okT t->X.sub f (yoD f t)->rs.length+ykW t<=60->GS h a w X.c m X.H σ rs->X.oc (lgT t) (f+lgT t) rs (X.st a w m f c8 c9 c10) h (evT X.bx t σ)
 | .let_ ..,f,a,w,m,h,σ,rs,c8,c9,c10,hu,hs,_,G=>ynI s8 ef b1 b16 nb trivial hu (sub_0 hs) G
 | .reckon ..,f,a,w,m,h,σ,rs,c8,c9,c10,hu,hs,_,G=>ynI s8 ef b1 b16 nb trivial hu (sub_0 hs) G
 | .take ..,f,a,w,m,h,σ,rs,c8,c9,c10,hu,hs,_,G=>ynI s8 ef b1 b16 nb trivial hu (sub_0 hs) G
 | .put ..,f,a,w,m,h,σ,rs,c8,c9,c10,hu,hs,_,G=>ynI s8 ef b1 b16 nb trivial hu (sub_0 hs) G
 | .throw nm r,f,a,w,m,h,σ,rs,c8,c9,c10,hu,hs,hl,G=>yCT (e:=.fell nm (σ.at_ r)) (r:=r) (by simp) hu.2 (fun _ _ e=>by cases e;rfl) (sub_0 hs) G (by omega) s8 ef
 | .wait,f,a,w,m,h,σ,rs,c8,c9,c10,hu,hs,hl,G=>yCT (e:=.waits) (r:="a") (by simp) (show ("a":Str)∈SL by rfl') (fun _ _ e=>by cases e) (sub_0 hs) G (by omega) s8 ef
 | .if_ r p q,f,a,w,m,h,σ,rs,c8,c9,c10,hu,hs,hl,G=>by
  obtain ⟨hr,hp,hq⟩:=hu
  have hl:rs.length+(1+max (ybs p) (ybs q))<=60:=hl
  have hs:X.sub f ([.tup [.str "unless",.str r,.int ((f+2+lgL p:Nat):Int)]]++ybJ (f+1) p++[ylY (f+2+lgL p+lgL q)]++ybJ (f+2+lgL p) q):=hs
  have e0:=sub_0 (yhF (yhF hs))
  have ep:=ylc (yhF (yhF hs))
  have ej:=sub_0 (ylc (yhF hs))
  have eq:=ylc hs
  simp only [length_append,length_cons,length_nil,ybC] at ep ej eq
  rw [show f+(0+1+lgL p)=f+1+lgL p by omega] at ej
  rw [show f+(0+1+lgL p+(0+1))=f+2+lgL p by omega] at eq
  obtain ⟨d8,e1⟩:=yxj (bx:=X.bx) (c8:=c8) (c9:=c9) (c10:=c10) hr e0 G
  have st:=Rn.one e0 e1
  show X.oc (2+lgL p+lgL q) (f+(2+lgL p+lgL q)) rs _ h (if σ.at_ r≠0 then evL X.bx p σ else evL X.bx q σ)
  rw [show f+(2+lgL p+lgL q)=f+2+lgL p+lgL q by omega]
  by_cases z:σ.at_ r≠0
  .rw [if_pos z] at st ⊢
   have S:=yuT p (f+1) a w m h σ rs d8 c9 c10 hp ep (by omega) G
   refine yqU (L:=1+lgL p) st ?_ (by omega)
   generalize evL X.bx p σ=o at S ⊢
   obtain ⟨e,τ⟩:=o
   cases e with
   | done=>exact yzL (L2:=1) S (fun h' a' w' m' d8 d9 d10 G=>yCU ej G) (by omega)
   | waits=>exact ylb (L:=lgL p) Rn.refl S (by omega)
   | fell nm v=>exact ylb (L:=lgL p) Rn.refl S (by omega)
  .rw [if_neg z] at st ⊢
   exact yqU (L:=lgL q) st (yuT q (f+2+lgL p) a w m h σ rs d8 c9 c10 hq eq (by omega) G) (by omega)
 | .either p q,f,a,w,m,h,σ,rs,c8,c9,c10,hu,hs,hl,G=>by
  obtain ⟨_,hp,hq⟩:=hu
  have hl:rs.length+(1+max (ybs p) (ybs q))<=60:=hl
  have hs:X.sub f ([.tup [.str "either",.int ((f+3+lgL p:Nat):Int)]]++ybJ (f+1) p++[yeX,ylY (f+3+lgL p+lgL q)]++ybJ (f+3+lgL p) q):=hs
  have e0:=sub_0 (yhF (yhF hs))
  have ep:=ylc (yhF (yhF hs))
  have es:=sub_0 (ylc (yhF hs))
  have ej:=sub_0 (ylc (l:=[yeX]) (ylc (yhF hs)))
  have eq:=ylc hs
  simp only [length_append,length_cons,length_nil,ybC] at ep es ej eq
  rw [show f+(0+1+lgL p)=f+1+lgL p by omega] at es ej
  rw [show f+(0+1+lgL p+(0+1+1))=f+3+lgL p by omega] at eq
  obtain ⟨h1,d8,e1,G1⟩:=yxl (bx:=X.bx) (c8:=c8) (c9:=c9) (c10:=c10) e0 (by omega) G
  have S:=yuT p (f+1) a w m h1 σ _ d8 c9 c10 hp ep (by show rs.length+1+_<=60;omega) G1
  have Q:=fun h' a' w' m' d8 d9 d10 (τ:AS)=>yuT q (f+3+lgL p) a' w' m' h' τ rs d8 d9 d10 hq eq (by omega)
  show X.oc (3+lgL p+lgL q) (f+(3+lgL p+lgL q)) rs _ h (match evL X.bx p σ with|(.waits,τ)=>evL X.bx q ⟨σ.hs,σ.v,τ.s⟩|(.fell nm v,τ)=>(.fell nm v,⟨σ.hs,σ.v,τ.s⟩)|(.done,τ)=>(.done,τ))
  rw [show f+(3+lgL p+lgL q)=f+3+lgL p+lgL q by omega]
  refine yqU (L:=2+lgL p+lgL q) (Rn.one e0 e1) ?_ (by omega)
  generalize evL X.bx p σ=o at S ⊢
  obtain ⟨e,τ⟩:=o
  cases e with
  | done=>exact yzL (L2:=2) S (fun h' a' w' m' d8 d9 d10 G=>yuS (g:=0) es ej G) (by omega)
  | waits=>exact yzL (L2:=lgL q) (show X.dn (lgL p) (f+3+lgL p) ⟨σ.hs,σ.v,τ.s⟩ rs _ h1 from S) (fun h' a' w' m' d8 d9 d10 G=>Q h' a' w' m' d8 d9 d10 _ G) (by omega)
  | fell nm v=>exact ylb (L:=lgL p) (e:=.fell nm v) Rn.refl (show X.to (lgL p) (.fell nm v) τ.s _ h1 (ygR (.fell nm v) rs) from S) (by omega)
 | .try_ p nm r q,f,a,w,m,h,σ,rs,c8,c9,c10,hu,hs,hl,G=>by
  obtain ⟨_,hr,hp,hq⟩:=hu
  have hl:rs.length+(1+max (ybs p) (ybs q))<=60:=hl
  have hs:X.sub f ([.tup [.str "guard",.str nm,.str r,.int ((f+3+lgL p:Nat):Int)]]++ybJ (f+1) p++[yeX,ylY (f+3+lgL p+lgL q)]++ybJ (f+3+lgL p) q):=hs
  have e0:=sub_0 (yhF (yhF hs))
  have ep:=ylc (yhF (yhF hs))
  have es:=sub_0 (ylc (yhF hs))
  have ej:=sub_0 (ylc (l:=[yeX]) (ylc (yhF hs)))
  have eq:=ylc hs
  simp only [length_append,length_cons,length_nil,ybC] at ep es ej eq
  rw [show f+(0+1+lgL p)=f+1+lgL p by omega] at es ej
  rw [show f+(0+1+lgL p+(0+1+1))=f+3+lgL p by omega] at eq
  obtain ⟨h1,d8,e1,G1⟩:=yzK (bx:=X.bx) (c8:=c8) (c9:=c9) (c10:=c10) hr e0 (by omega) G
  have S:=yuT p (f+1) a w m h1 σ _ d8 c9 c10 hp ep (by show rs.length+1+_<=60;omega) G1
  have Q:=fun h' a' w' m' d8 d9 d10 (τ:AS)=>yuT q (f+3+lgL p) a' w' m' h' τ rs d8 d9 d10 hq eq (by omega)
  show X.oc (3+lgL p+lgL q) (f+(3+lgL p+lgL q)) rs _ h (match evL X.bx p σ with|(.fell m v,τ)=>if m=nm then evL X.bx q ((⟨σ.hs,σ.v,τ.s⟩:AS).put_ r v) else (.fell m v,⟨σ.hs,σ.v,τ.s⟩)|(.waits,τ)=>(.waits,⟨σ.hs,σ.v,τ.s⟩)|(.done,τ)=>(.done,τ))
  rw [show f+(3+lgL p+lgL q)=f+3+lgL p+lgL q by omega]
  refine yqU (L:=2+lgL p+lgL q) (Rn.one e0 e1) ?_ (by omega)
  generalize evL X.bx p σ=o at S ⊢
  obtain ⟨e,τ⟩:=o
  cases e with
  | done=>exact yzL (L2:=2) S (fun h' a' w' m' d8 d9 d10 G=>yuS (g:=0) es ej G) (by omega)
  | waits=>exact ylb (L:=lgL p) (e:=.waits) Rn.refl (show X.to (lgL p) .waits τ.s _ h1 (ygR .waits rs) from S) (by omega)
  | fell n v =>
   have S:X.to (lgL p) (.fell n v) τ.s _ h1 (if decide (nm=n)=true then _ else ygR (.fell n v) rs):=S
   show X.oc _ _ rs _ h1 (if n=nm then _ else _)
   by_cases z:n=nm
   .rw [if_pos (by rw [z];exact decide_eq_true rfl)] at S
    rw [if_pos z]
    exact yzL (L2:=lgL q) (show X.dn (lgL p) (f+3+lgL p) ((⟨σ.hs,σ.v,τ.s⟩:AS).put_ r v) rs _ h1 from S) (fun h' a' w' m' d8 d9 d10 G=>Q h' a' w' m' d8 d9 d10 _ G) (by omega)
   .rw [if_neg (fun y=>z (of_decide_eq_true y).symm)] at S
    rw [if_neg z]
    exact ylb (L:=lgL p) (e:=.fell n v) Rn.refl S (by omega)
theorem yuT:∀ (ts:List T) (f a w m:Nat) (h:AH) (σ:AS) (rs:List Mrk) (c8 c9 c10:PVar),okL ts->X.sub f (ybJ f ts)->rs.length+ybs ts<=60->GS h a w X.c m X.H σ rs->X.oc (lgL ts) (f+lgL ts) rs (X.st a w m f c8 c9 c10) h (evL X.bx ts σ)
 | [],f,a,w,m,h,σ,rs,c8,c9,c10,_,_,_,G=>⟨0,h,a,w,m,c8,c9,c10,Nat.le_refl _,Rn.refl,G⟩
 | t::r,f,a,w,m,h,σ,rs,c8,c9,c10,hu,hs,hl,G=>by
  have hl:rs.length+max (ykW t) (ybs r)<=60:=hl
  have hs:X.sub f (yoD f t++ybJ (f+lgT t) r):=hs
  have S:=yNL t f a w m h σ rs c8 c9 c10 hu.1 (yhF hs) (by omega) G
  have hs:=ylc hs
  rw [yoE] at hs
  have Q:=fun h' a' w' m' d8 d9 d10 (τ:AS)=>yuT r (f+lgT t) a' w' m' h' τ rs d8 d9 d10 hu.2 hs (by omega)
  show X.oc (lgT t+lgL r) (f+(lgT t+lgL r)) rs _ h (match evT X.bx t σ with|(.done,τ)=>evL X.bx r τ|(.waits,τ)=>(.waits,τ)|(.fell nm v,τ)=>(.fell nm v,τ))
  rw [<- add_assoc]
  generalize evT X.bx t σ=o at S ⊢
  obtain ⟨e,τ⟩:=o
  cases e with
  | done=>exact yzL (L2:=lgL r) S (fun h' a' w' m' d8 d9 d10 G=>Q h' a' w' m' d8 d9 d10 τ G) (Nat.le_refl _)
  | waits=>exact ylb (L:=lgT t) (e:=.waits) Rn.refl S (by omega)
  | fell nm v=>exact ylb (L:=lgT t) (e:=.fell nm v) Rn.refl S (by omega)
end
end
section
variable {h:AH}{f0 a w c m:Nat}{sl bx:List Int}{H:AH}{σ:AS}{rs:List Mrk}{R:List PV}{c8 c9 c10:PVar}{at':Nat}
theorem yLJ (e:R[at']?=some yFp) (G:GS h a w c m H σ rs):yfo (gρ R bx f0 a w c m at' c8 c9 c10) h=some (.rt (.tup [enV .done,.lst (ygG σ.s),.lst (ygG σ.v),.lst (σ.hs.map .int)]),h):=by
 have fe:atI R (at':Int)=some (.tup [.str "lay"]):=ycb e
 obtain ⟨sj,sv,wj,wv,q1,q2,i1,i2,f1,f2⟩:=G.ms.ex
 unfold yfo gL gρ
 simp_all? only [fe,ytf,ysq q1 i1 f1,ysq q2 i2 f2,if_true]
 rw [yGO,yB,if_pos (by decide),yuR (n:=a) (hs:=σ.hs) ?_ G.ms.hh G.ms.h8]
 .rfl
 .exact fun x=>rfl
theorem yJf {ts:List T}(hu:okL ts) (hd:ybs ts<=4) (hw:wL ts<=200) (ef:h[f0]?=some (.dct KS (sl.map .int))) (s8:sl.length=8) (b1:1<=bx.length) (b16:bx.length<=16) (nh:∀ v∈sl,N64 v) (nb:∀ v∈bx,N64 v) :
  ∃ h',ygF [.lst (ybJ 0 ts++[yFp]),.lst (bx.map .int),.loc f0] h=some (.tup [enV (evL bx ts ⟨sl,fun _=>none,fun _=>none⟩).1,.lst (ygG (evL bx ts ⟨sl,fun _=>none,fun _=>none⟩).2.s),.lst (wrE (evL bx ts ⟨sl,fun _=>none,fun _=>none⟩).1 (evL bx ts ⟨sl,fun _=>none,fun _=>none⟩).2),.lst ((hsE (evL bx ts ⟨sl,fun _=>none,fun _=>none⟩).1 (evL bx ts ⟨sl,fun _=>none,fun _=>none⟩).2 sl).map .int)],h') /\
   ∀ (n:Nat) (d:Nd),h[n]?=some d->h'[n]?=some d:=by
 have gx:∀ (X:List Nd) (k:Nat),(h++X)[h.length+k]?=X[k]?:=fun X k=>by rw [getElem?_append_right (le_add_right _ _),Nat.add_sub_cancel_left]
 have G0:GS (h++[Nd.dct KS (sl.map .int)]++[Nd.dct [] []]++[Nd.dct [] []]++[Nd.lst []]) h.length (h.length+1) (h.length+2) (h.length+3) h ⟨sl,fun _=>none,fun _=>none⟩ []:=by
  rw [show h++[Nd.dct KS (sl.map .int)]++[Nd.dct [] []]++[Nd.dct [] []]++[Nd.lst []]=h++[Nd.dct KS (sl.map .int),.dct [] [],.dct [] [],.lst []] by simp]
  refine ⟨⟨⟨[],[],[],[],gx _ 2,gx _ 1,⟨by simp,by simp,rfl⟩,⟨by simp,by simp,rfl⟩,fun _=>rfl,fun _=>rfl⟩,gx _ 0,⟨by omega,by omega,by omega⟩,s8,nh,fun j v e=>(nomatch e)⟩,gx _ 3,⟨by omega,by omega,by omega⟩,fun k hk=>(nomatch hk),fun n d e=>?_⟩
  have:=yeT e
  exact ⟨(getElem?_append_left this).trans e,by omega,by omega,by omega,by omega⟩
 have lw:=ynn ts
 have S:=yuT (X:=⟨ybJ 0 ts++[yFp],bx,sl,h,f0,h.length+2⟩) s8 ef b1 b16 nb ts 0 _ _ _ _ _ [] .no .no .no hu (fun i hi=>by rw [Nat.zero_add];exact getElem?_append_left hi) (by show 0+_<=60;omega) G0
 unfold ygF
 rw [yC]
 show ∃ h',ob (yw (ybA (ygw (ykC (ydn) (yb (yd 2) (yn)))) (yx 3)) (yw (ybA (ygw (ynZ)) (yx 4)) (yw (ybA (ygw (ynZ)) (yx 5)) (yw (ybA (ygw (ygf (yn))) (yx 6)) (yw (ybA (xC (.int 0)) (yx 7)) (yw (ymA 1000 yuP yfo) (ybg (xC .non))))))) [.val (.lst (ybJ 0 ts++[yFp])),.val (.lst (bx.map .int)),.val (.loc f0),.no,.no,.no,.no,.no,.no,.no,.no] h) fnK=_/\_
 ac_rfl
 rw [ykM ef]
 ac_rfl
 simp only [yCq,yB]
 rw [show length (h++[Nd.dct KS (sl.map .int)])=h.length+1 by simp,show length (h++[Nd.dct KS (sl.map .int)]++[Nd.dct [] []])=h.length+2 by simp,show length (h++[Nd.dct KS (sl.map .int)]++[Nd.dct [] []]++[Nd.dct [] []])=h.length+3 by simp]
 generalize h++[Nd.dct KS (sl.map .int)]++[Nd.dct [] []]++[Nd.dct [] []]++[Nd.lst []]=h4 at *
 have fin:∀ y:PV,(∃ j,j<=1000/\Rx h j (gρ (ybJ 0 ts++[yFp]) bx f0 h.length (h.length+1) (h.length+2) (h.length+3) 0 .no .no .no) h4 y)->∃ h',ob (ymA 1000 yuP yfo (gρ (ybJ 0 ts++[yFp]) bx f0 h.length (h.length+1) (h.length+2) (h.length+3) 0 .no .no .no) h4) (fun x h=>ob (sqK (ybg (xC .non)) x h) fnK)=some (y,h')/\∀ (n:Nat) (d:Nd),h[n]?=some d->h'[n]?=some d:=by
  rintro y ⟨j,hj,h',r,e⟩
  refine ⟨h',?_,r⟩
  show ob (whl yuP yfo 1000 _ h4) _=_
  rw [show 1000=(1000-j)+j by omega,e]
  rfl
 generalize evL bx ts ⟨sl,fun _=>none,fun _=>none⟩=q at *
 obtain ⟨e,τ⟩:=q
 refine fin _ ?_
 cases e with
 | done =>
  obtain ⟨j,h',a',w',m',d8,d9,d10,q1,q2,q3⟩:=S
  have el:(ybJ 0 ts++[yFp])[0+lgL ts]?=some yFp:=by
   rw [Nat.zero_add,getElem?_append_right (by rw [ybC];exact Nat.le_refl _),ybC,sub_self]
   rfl
  exact ⟨1+j,by omega,q2.fin (Rx.one el (yLJ el q3) fun n d e=>(q3.hf n d e).1)⟩
 | waits =>
  obtain ⟨j,q1,q2⟩:=S
  exact ⟨j,by omega,q2⟩
 | fell nm v =>
  obtain ⟨j,q1,q2⟩:=S
  exact ⟨j,by omega,q2⟩
end
section
variable {h:AH}
theorem yyI {r:Str}:∀ {l:List Str},r∉l->ynB (l.map .inr) (.inr r)=false
 | [],_=>rfl
 | a::l,hm=>by
  show (if Sum.inr a=Sum.inr r then true else ynB (l.map .inr) (.inr r))=false
  rw [if_neg (fun z=>hm (by rw [Sum.inr.inj z];exact mem_cons_self))]
  exact yyI fun z=>hm (mem_cons_of_mem _ z)
theorem yNM {n:Nat}{l:List Str}{xs:List PV}{r:Str}{v:PV}{ed ek ev:XE}{ρ:PSt}(ev':ev ρ h=some (v,h)) (ed':ed ρ h=some (.loc n,h)) (ek':ek ρ h=some (.str r,h)) (e:h[n]?=some (.dct (l.map .inr) xs)) (nr:r∉l) (hl:l.length<1000) :
  yfn ed ek ev ρ h=some (.nx ρ,h.set n (.dct ((l++[r]).map .inr) (xs++[v]))):=by
 unfold yfn
 rw [ev',yB,ed',yB,ek',yB]
 simp only [e,keyOf]
 rw [if_pos (by rw [length_map];exact hl)]
 unfold yct
 rw [yyI nr,map_append]
 rfl
theorem yLK:∀ i:Nat,i<8->∃ r,SL[i]?=some r/\r∉SL.take i/\atI ("abcdefgh":Str).cps.toList (i:Int)=some (r.cps.toList.headD 0)/\r=⟨#[r.cps.toList.headD 0]⟩:=by
 intro i hi
 have:∀ i∈List.range 8,SL[i]?.getD ""∉SL.take i/\SL[i]?=some (SL[i]?.getD "")/\atI ("abcdefgh":Str).cps.toList (i:Int)=some ((SL[i]?.getD "").cps.toList.headD 0)/\SL[i]?.getD "" = ⟨#[(SL[i]?.getD "").cps.toList.headD 0]⟩:=by rfl'
 obtain ⟨q1,q2,q3,q4⟩:=this i (List.mem_range.mpr hi)
 exact ⟨_,q2,q1,q3,q4⟩
theorem yzM {n0 n1:Nat}{sl:List Int}(s8:sl.length=8) (e0:h[n0]?=some (.lst (sl.map .int))) (ne:n0≠n1) (e1:h[n1]?=some (.dct [] [])) {c0 c1 c2 c3 c4 c5 c8 c9:PVar} :
  ∃ d8,ymz (yx 8) (yfn (yd 7) (xOp (yya) (xC (.str "abcdefgh")) (yd 8)) (xOp (ydk) (yd 6) (yd 8))) (yvO 0 8) [c0,c1,c2,c3,c4,c5,.val (.loc n0),.val (.loc n1),c8,c9] h=some (.nx [c0,c1,c2,c3,c4,c5,.val (.loc n0),.val (.loc n1),d8,c9],h.set n1 (.dct KS (sl.map .int))):=by
 obtain ⟨ρ',h',e,hI⟩:=yBs (g:=yx 8) (s:=yfn (yd 7) (xOp (yya) (xC (.str "abcdefgh")) (yd 8)) (xOp (ydk) (yd 6) (yd 8))) (xs:=yvO 0 8) (ρ:=[c0,c1,c2,c3,c4,c5,.val (.loc n0),.val (.loc n1),c8,c9]) (h:=h) (fun i ρ h1=>h1=h.set n1 (.dct ((SL.take i).map .inr) ((sl.take i).map .int))/\∃ d8,ρ=[c0,c1,c2,c3,c4,c5,.val (.loc n0),.val (.loc n1),d8,c9]) ⟨by
   have:h.set n1 (.dct [] [])=h:=by
    apply List.ext_getElem?
    intro i
    by_cases q:i=n1
    .rw [q,set_same e1,e1]
    .exact getElem?_set_ne (Ne.symm q)
   exact this.symm,c8,rfl⟩ (by
  rintro i x ρ h1 hx ⟨rfl,d8,rfl⟩
  obtain ⟨hi,rfl⟩:=yhK hx
  rw [zero_add]
  obtain ⟨r,r1,r2,r3,r4⟩:=yLK i hi
  have g1:=set_same (x:=.dct ((SL.take i).map .inr) ((sl.take i).map PV.int)) e1
  have g0:=yF (x:=.dct ((SL.take i).map .inr) ((sl.take i).map PV.int)) ne e0
  refine ⟨_,[c0,c1,c2,c3,c4,c5,.val (.loc n0),.val (.loc n1),.val (.int i),c9],_,rfl,.inl (yNM (n:=n1) (r:=r) (v:=.int (sl.getD i 0)) (by
   simp_all? only [yCl g0 (show i<sl.length by omega)]) rfl (by
   simp_all? only [r3,bind_some,show ("abcdefgh":Str).length<=100000 from by rfl',↓reduceIte]
   show some (PV.str ⟨#[_]⟩,_)=_
   rw [<- r4]) g1 r2 (by rw [length_take];show min i 8<1000;omega)),?_,_,rfl⟩
  rw [List.set_set]
  congr 2
  .rw [take_add_one,r1];rfl
  .rw [take_add_one,map_append,List.getElem?_eq_getElem (by omega),getD_eq_getElem?_getD,List.getElem?_eq_getElem (by omega)];rfl)
 obtain ⟨rfl,d8,rfl⟩:=hI
 refine ⟨d8,?_⟩
 rw [e]
 rw [show (yvO 0 8).length=8 from rfl,show SL.take 8=SL from rfl,List.take_of_length_le (by omega)]
 rfl
end
section
variable {h:AH}
local macro_rules | `(tactic| walk_at "pt")=>`(tactic| simp_all? only [$(sl_ "yNA yNB yNC yND yNE yNF yNG yIP yLB yLC ne_eq not_true_eq_false"),*])
theorem yFz {n f:Nat}{xs:List Int}(e1:h[f]?=some (.lst (xs.map .int))) (hs:xs.length<=1000):yH (n+2) [.loc f,.lst (xs.map .int)] h=some (.bl true,h):=by
 unfold yH
 rw [yC]
 show ob (yw _ _ [.val (.loc f),.val (.lst (xs.map .int)),.no] h) fnK=_
 walk_at "pt"
 rw [yOo e1]
 walk_at "pt"
 rw [ywD e1]
 walk_at "pt"
 rw [ykK (j:=(xs.length:Int)) (h1:=h) (by walk_at "pt";rw [length_map]) (by omega) (by omega),yB]
 refine ygg (fun i ρ h1=>h1=h/\∃ c,ρ=[.val (.loc f),.val (.lst (xs.map .int)),c]) ⟨rfl,.no,rfl⟩ ?_ ?_
 .rintro i x ρ h1 hx ⟨rfl,c,rfl⟩
  obtain ⟨hi,rfl⟩:=yhK hx
  rw [zero_add]
  have hi:i<(xs.map PV.int).length:=by rw [length_map];omega
  refine ⟨_,[.val (.loc f),.val (.lst (xs.map .int)),.val (.int i)],h1,rfl,.inl ?_,rfl,_,rfl⟩
  walk_at "pt"
  rw [yCf e1 hi,yB,ycb (List.getElem?_eq_getElem hi)]
  walk_at "pt"
  rw [List.getElem_map,ysd]
  walk_at "pt"
 .rintro ρ' h' ⟨rfl,c,rfl⟩
  walk_at "pt"
theorem yCV {a:Nat}{e:En}{xs ys:List PV}{hs:List Int}(e1:h[a]?=some (.lst xs)) (e2:h[a+1]?=some (.lst ys)) (e3:h[a+2]?=some (.lst (hs.map .int))) (h8:hs.length=8) (t1:Tl xs) (t2:Tl ys) :
  yH 5 [.tup [enV e,.loc a,.loc (a+1),.loc (a+2)],.tup [enV e,.lst xs,.lst ys,.lst (hs.map .int)]] h=some (.bl true,h):=by
 refine ynH rfl (by simp) fun i x y hx hy=>?_
 match i,hx,hy with
 | 0,hx,hy=>cases hx;cases hy;exact yFw e
 | 1,hx,hy=>cases hx;cases hy;exact yCg e1 t1
 | 2,hx,hy=>cases hx;cases hy;exact yCg e2 t2
 | 3,hx,hy=>cases hx;cases hy;exact yFz e3 (by omega)
theorem yLL (ns:List Int) (hl:ns.length<=63):∃ h',yFd [.scr ns] h=some (.bl true,h'):=by
 unfold yFd
 rw [yC]
 show ∃ h',ob (yw _ _ [.val (.scr ns),.no,.no,.no,.no,.no,.no,.no,.no,.no] h) fnK=_
 ac_rfl
 have hs0:∀ (cs:List Int) (h:AH) lo hi,yDr [.lst (yqI (cs.map PV.int) lo hi)] h=some (.int (yqI cs lo hi).sum,h):=fun cs h lo hi=>by
  rw [yst]
  unfold yDr ydG
  simp only [ylL]
 obtain ⟨na,nb',nc,en⟩:=yFv (h:=h) (yqI ns none (some 1)).sum
 rw [hs0,yB,en,yB]
 have hmax:yBr [.int 1,.int (ns.length:Int)] h=some (.int (max 1 (ns.length:Int)),h):=by
  unfold yBr
  show some (PV.int (if (ns.length:Int)>1 then (ns.length:Int) else 1),h)=_
  congr 3
  split<;>omega
 rw [yKY (i:=0) (j:=max 1 (ns.length:Int)) (c:=12) (h1:=h) (by ac_rfl;rw [hmax];ac_rfl) (by omega),yB]
 refine yrF (P:=fun (q:Option (PV×AH))=>∃ h',q=some (.bl true,h')) (fun i ρ h1=>∃ c2 c3 c4 c5 c6 c7 c8 c9:PVar,ρ=[.val (.scr ns),.val (.lst [.str na,.str nb',.str nc]),c2,c3,c4,c5,c6,c7,c8,c9]) (fun _ _=>False) ⟨.no,.no,.no,.no,.no,.no,.no,.no,rfl⟩ ?_ ?_ (fun _ _ z=>z.elim)
 .rintro i x ρ h1 hx ⟨c2,c3,c4,c5,c6,c7,c8,c9,rfl⟩
  obtain ⟨k,rfl⟩:∃ k:Nat,x=.int (k:Int):=by
   unfold yzZ at hx
   rw [getElem?_map] at hx
   obtain ⟨j,hj,rfl⟩:=Option.map_eq_some_iff.mp hx
   exact ⟨j*12,by simp⟩
  have hcl:(yqI ns (some (k:Int)) (some ((k:Int)+12))).length<=12:=by
   have:=ywY ns k (k+12) (by omega)
   rw [show (k:Int)+12=((k+12:Nat):Int) by omega]
   omega
  generalize hcs:yqI ns (some (k:Int)) (some ((k:Int)+12))=cs at hcl
  obtain ⟨ts,pl,et⟩:=yCF na nb' nc 5 3 h1 cs (by omega) hcl
  have wl:=pl.w
  have dl:=pl.d
  obtain ⟨bx,b1,b16,nb,eb⟩:=yFs (h:=h1) ((yqI cs (some 1) (some 2)).sum+k)
  obtain ⟨sl,h8,nh,es⟩:=yFt (h:=h1) ((yqI cs none (some 1)).sum+k)
  refine ywZ rfl ?_
  ac_rfl
  rw [yst,hcs,show ycU 5 [.lst (cs.map .int),.int 3,.lst [.str na,.str nb',.str nc]] h1=_ from et]
  ac_rfl
  rw [yCx 7 ts (by omega) (by omega) pl.ok,yB]
  rw [hs0]
  ac_rfl
  rw [eb]
  ac_rfl
  rw [hs0]
  ac_rfl
  rw [es]
  ac_rfl
  simp only [yCq,yB]
  rw [ykK (j:=8) rfl (by decide) (by decide),yB,show (h1++[Nd.lst (sl.map .int)]).length=h1.length+1 by simp]
  have p0:(h1++[Nd.lst (sl.map .int)]++[Nd.dct [] []])[h1.length]?=some (.lst (sl.map .int)):=by simp
  have p1:(h1++[Nd.lst (sl.map .int)]++[Nd.dct [] []])[h1.length+1]?=some (.dct [] []):=by simp
  generalize h1++[Nd.lst (sl.map .int)]++[Nd.dct [] []]=h2 at *
  obtain ⟨d8,e2⟩:=yzM h8 p0 (by omega) p1
  rw [show Int.toNat 8=8 from rfl,e2,yB]
  have p0:=yF (x:=.dct KS (sl.map PV.int)) (show h1.length≠h1.length+1 by omega) p0
  have p1:=set_same (x:=.dct KS (sl.map PV.int)) p1
  generalize h2.set (h1.length+1) (.dct KS (sl.map PV.int))=h3 at *
  ac_rfl
  rw [yzz ts dl (by omega),yB]
  obtain ⟨h4,e4,F4⟩:=yJf pl.ok dl (by omega) p1 h8 b1 b16 nh nb
  rw [e4,yB]
  have p0:=F4 _ _ p0
  obtain ⟨h5,r,e5,R5⟩:=yCs (h:=h4) (us:=ts) (x:=.lst (bx.map .int)) (y:=.lst (sl.map .int)) pl.ok dl LV.lst LV.lst (fun h2 F=>yww) h8 b1 b16 nh nb
  generalize evL bx ts ⟨sl,fun _=>none,fun _=>none⟩=q at *
  obtain ⟨e,τ⟩:=q
  dsimp only at e4 e5 R5 ⊢
  obtain ⟨⟨a1,rfl,ha,g1,g2,g3⟩,F5,g8⟩:=R5
  rw [if_neg (show ¬ isN (.tup [enV e,.lst (ygG τ.s),.lst (wrE e τ),.lst ((hsE e τ sl).map .int)])=true from fun z=>by cases z),yrH p0,yB,show fzN (.lst (sl.map .int)) h4=some (.lst (sl.map .int),h4) from rfl,yB,e5,yB,yCV g1 g2 g3 g8 (yyE _) (yLE _ _)]
  exact ⟨_,rfl,_,_,_,_,_,_,_,_,rfl⟩
 .rintro ρ' h' ⟨c2,c3,c4,c5,c6,c7,c8,c9,rfl⟩
  (try ac_rfl)
  exact ⟨_,rfl⟩
end
end
local macro_rules | `(tactic| walk_at "sc")=>`(tactic| exact ⟨rfl,rfl,rfl,by rfl',rfl,by rfl',by rfl'⟩)
local macro_rules | `(tactic| symm)=>`(tactic| exact ⟨by rfl',by rfl',by rfl'⟩)
def top (i:Nat):Stmt:=PySem.Challenge.pw_retryhall_k20_whole_alone_by_rows.main.body.getD i (.Pass ⟨0,0,0,0⟩)
abbrev yfN:Stmt:=inClass (top 2) 0
abbrev yjD:Stmt:=inClass (top 2) 1
abbrev yoK:Stmt:=inClass (top 2) 2
abbrev yjE:Stmt:=inClass (top 2) 3
abbrev yhV:Stmt:=inClass (top 2) 4
abbrev ylZ:Stmt:=inClass (top 2) 5
abbrev yoL:Stmt:=inClass (top 2) 7
abbrev yoM:Stmt:=inClass (top 2) 8
abbrev yjF:Stmt:=inClass (top 2) 9
abbrev ysG:Stmt:=top 6
abbrev yhW:Stmt:=top 7
abbrev yeY:Stmt:=inClass (top 9) 0
abbrev yfO:Stmt:=inClass (top 9) 1
abbrev yjG:Stmt:=inClass (top 9) 2
abbrev ygS:Stmt:=inClass (top 9) 3
abbrev yeo:Stmt:=inClass (top 9) 4
abbrev ygT:Stmt:=inClass (top 9) 5
abbrev yfP:Stmt:=inClass (top 9) 6
abbrev yeZ:Stmt:=inClass (top 9) 7
abbrev yep:Stmt:=inClass (top 9) 8
abbrev yfQ:Stmt:=inClass (top 13) 0
abbrev ydM:Stmt:=inClass (top 14) 0
abbrev yfa:Stmt:=inClass (top 15) 0
abbrev yfR:Stmt:=inClass (top 16) 0
abbrev yeq:Stmt:=inClass (top 26) 0
abbrev ydN:Stmt:=inClass (top 26) 8
abbrev yds:Stmt:=inClass (top 26) 7
abbrev yer:Stmt:=inClass (top 26) 1
abbrev yes:Stmt:=inClass (top 26) 2
abbrev yfS:Stmt:=inClass (top 26) 3
abbrev ydt:Stmt:=inClass (top 26) 4
abbrev yfb:Stmt:=inClass (top 26) 5
abbrev ycW:Stmt:=inClass (top 26) 6
abbrev yxm:Stmt:=top 25
abbrev ygU:Stmt:=inClass (top 17) 0
abbrev ydO:Stmt:=inClass (top 18) 0
abbrev yfT:Stmt:=inClass (top 19) 0
abbrev yet:Stmt:=inClass (top 20) 0
abbrev yjH:Stmt:=inClass (top 12) 1
abbrev yma:Stmt:=inClass (top 13) 2
abbrev ygV:Stmt:=inClass (top 14) 2
abbrev yjI:Stmt:=inClass (top 15) 2
abbrev ymb:Stmt:=inClass (top 16) 2
abbrev yhX:Stmt:=inClass (top 20) 2
abbrev yjJ:Stmt:=inClass (top 21) 1
abbrev yjK:Stmt:=top 11
abbrev yoN:Stmt:=inClass (top 17) 2
abbrev ygW:Stmt:=inClass (top 18) 2
abbrev ymc:Stmt:=inClass (top 19) 2
abbrev yhY:Stmt:=top 31
abbrev yjL:Stmt:=top 33
abbrev yfU:Stmt:=top 34
abbrev yjM:Stmt:=top 29
abbrev yjN:Stmt:=top 30
abbrev yhZ:Stmt:=top 32
abbrev yoO:Stmt:=top 28
abbrev yia:Stmt:=top 36
abbrev yjO:Stmt:=top 37
abbrev yib:Stmt:=top 38
abbrev yic:Stmt:=top 39
abbrev yid:Stmt:=top 40
abbrev yie:Stmt:=top 41
abbrev yjP:Stmt:=top 42
abbrev yjQ:Stmt:=top 43
abbrev yif:Stmt:=top 44
abbrev yig:Stmt:=top 45
abbrev ymd:Stmt:=top 46
abbrev yih:Stmt:=top 47
abbrev yjR:Stmt:=top 48
abbrev yme:Stmt:=top 49
abbrev yeu:Stmt:=top 50
abbrev yjS:Stmt:=top 51
abbrev yJg:Stmt:=top 52
theorem yoP:yl ["self"] ["self"] (yh yfN):=by walk_at "sc"
theorem ymH:yl ["self","box","number","top"] ["self","box","number"] (yh yjD):=by walk_at "sc"
theorem yqV:yl ["self","box","layer"] ["self","box"] (yh yoK):=by walk_at "sc"
theorem yuU:yl ["self"] ["self"] (yh yjE):=by walk_at "sc"
theorem ygX:yl ["self","top","beneath"] ["self"] (yh yhV):=by walk_at "sc"
theorem yxn:yl ["self"] ["self"] (yh ylZ):=by walk_at "sc"
theorem yzN:yl ["self","box","number"] ["self","box","number"] (yh yoL):=by walk_at "sc"
theorem yzO:yl ["self"] ["self"] (yh yoM):=by walk_at "sc"
theorem ymI:yl ["self","lowest"] ["self"] (yh yjF):=by walk_at "sc"
theorem yCW:yl ["word","one","other"] ["word","one","other"] (yh ysG):=by walk_at "sc"
theorem ysH:yl ["slot"] ["slot"] (yh yhW):=by walk_at "sc"
theorem yno:yl ["self","slots","width"] ["self","slots","width"] (yh yeY):=by walk_at "sc"
theorem yoQ:yl ["self","slot"] ["self","slot"] (yh yfO):=by walk_at "sc"
theorem yuV:yl ["self","slot","number"] ["self","slot","number"] (yh yjG):=by walk_at "sc"
theorem yqt:yl ["self","place"] ["self","place"] (yh ygS):=by walk_at "sc"
theorem ymf:yl ["self","word","slot","one","other"] ["self","word","slot","one","other"] (yh yeo):=by walk_at "sc"
theorem yqu:yl ["self","place","slot"] ["self","place","slot"] (yh ygT):=by walk_at "sc"
theorem yoR:yl ["self","place"] ["self","place"] (yh yfP):=by walk_at "sc"
theorem ynp:yl ["self","slot","place"] ["self","slot","place"] (yh yeZ):=by walk_at "sc"
theorem ygm:yl ["self","slot","place","numbers","box"] ["self","slot","place","numbers"] (yh yep):=by walk_at "sc"
theorem yoS:yl ["self","slot","number"] ["self","slot","number"] (yh yfQ):=by walk_at "sc"
theorem yle:yl ["self","word","slot","one","other"] ["self","word","slot","one","other"] (yh ydM):=by walk_at "sc"
theorem ynq:yl ["self","slot","place"] ["self","slot","place"] (yh yfa):=by walk_at "sc"
theorem yoT:yl ["self","place","slot"] ["self","place","slot"] (yh yfR):=by walk_at "sc"
theorem ymg:yl ["self","boxes","slots"] ["self","boxes","slots"] (yh yeq):=by walk_at "sc"
theorem ylf:yl ["self","part"] ["self","part"] (yh ydN):=by walk_at "sc"
theorem yjT:yl ["self","part"] ["self","part"] (yh yds):=by walk_at "sc"
theorem ydP:yl ["self","parts","part","end"] ["self","parts"] (yh yer):=by walk_at "sc"
theorem ymh:yl ["self","part"] ["self","part"] (yh yes):=by walk_at "sc"
theorem yoU:yl ["self","part"] ["self","part"] (yh yfS):=by walk_at "sc"
theorem yfc:yl ["self","part","end"] ["self","part"] (yh ydt):=by walk_at "sc"
theorem yhp:yl ["self","part","end"] ["self","part"] (yh yfb):=by walk_at "sc"
theorem ycG:yl ["self","parts","before","end"] ["self","parts"] (yh ycW):=by walk_at "sc"
theorem sc_alone:yl ["deed","boxes","slots","doing","end"] ["deed","boxes","slots"] (yh yxm):=by walk_at "sc"
theorem yqv:yl ["self","slot","parts","others"] ["self","slot","parts","others"] (yh ygU):=by walk_at "sc"
theorem ylg:yl ["self","parts","others"] ["self","parts","others"] (yh ydO):=by walk_at "sc"
theorem yoV:yl ["self","parts","name","slot","others"] ["self","parts","name","slot","others"] (yh yfT):=by walk_at "sc"
theorem ymi:yl ["self","name","slot"] ["self","name","slot"] (yh yet):=by walk_at "sc"
theorem yuW:yl ["self"] ["self"] (yh yjH):=by walk_at "sc"
theorem yxo:yl ["self"] ["self"] (yh yma):=by walk_at "sc"
theorem yqw:yl ["self"] ["self"] (yh ygV):=by walk_at "sc"
theorem yuX:yl ["self"] ["self"] (yh yjI):=by walk_at "sc"
theorem yxp:yl ["self"] ["self"] (yh ymb):=by walk_at "sc"
theorem ysI:yl ["self"] ["self"] (yh yhX):=by walk_at "sc"
theorem yuY:yl ["self"] ["self"] (yh yjJ):=by walk_at "sc"
theorem yuZ:yl ["parts"] ["parts"] (yh yjK):=by walk_at "sc"
theorem yzP:yl ["self"] ["self"] (yh yoN):=by walk_at "sc"
theorem yqx:yl ["self"] ["self"] (yh ygW):=by walk_at "sc"
theorem yxq:yl ["self"] ["self"] (yh ymc):=by walk_at "sc"
theorem ysJ:yl ["part"] ["part"] (yh yhY):=by walk_at "sc"
theorem yva:yl ["part","second"] ["part","second"] (yh yjL):=by walk_at "sc"
theorem yoW:yl ["part","behind"] ["part","behind"] (yh yfU):=by walk_at "sc"
theorem yii:yl ["parts","first","rows","part"] ["parts","first"] (yh yjM):=by walk_at "sc"
theorem yvb:yl ["part","first"] ["part","first"] (yh yjN):=by walk_at "sc"
theorem ydu:yl ["part","first","behind","second","inner","outer"] ["part","first"] (yh yhZ):=by walk_at "sc"
theorem yzQ:yl ["deed"] ["deed"] (yh yoO):=by walk_at "sc"
theorem ysK:yl ["_law_cell"] ["_law_cell"] (yh yia):=by walk_at "sc"
theorem yvc:yl ["_law_cell"] ["_law_cell"] (yh yjO):=by walk_at "sc"
theorem ylh:yl ["_law_found","_law_due","_law_k"] ["_law_found","_law_due"] (yh yib):=by walk_at "sc"
theorem ybc:yl ["_law_cell","_law_letters","_law_mixed_here","_law_size","_law_at","_law_names_here","_law_turn","_law_name","_law_k","_law_sign"] ["_law_cell"] (yh yic):=by walk_at "sc"
theorem ybp:yl ["_law_mixed_here","_law_cell","_law_letters","_law_many","_law_rest","_law_one","_law_other","_law_third","_law_way","_law_word","_law_tree_here"] ["_law_mixed_here","_law_cell"] (yh yid):=by walk_at "sc"
theorem ybQ:yl ["_law_mixed_here","_law_one","_law_other","_law_names_here","_law_letters","_law_slot","_law_way","_law_stop"] ["_law_mixed_here","_law_one","_law_other","_law_names_here"] (yh yie):=by walk_at "sc"
theorem ybl:yl ["_law_cells","_law_depth","_law_names_here","_law_tree_here","_law_at","_law_cell","_law_mixed_here","_law_stops","_law_many","_law_more","_law_one","_law_other"] ["_law_cells","_law_depth","_law_names_here"] (yh yjP):=by walk_at "sc"
theorem yij:yl ["_law_tree_here","_law_made_here","_law_part"] ["_law_tree_here"] (yh yjQ):=by walk_at "sc"
theorem ycF:yl ["_law_cell","_law_mixed_here","_law_many","_law_boxes_here","_law_k","_law_some"] ["_law_cell"] (yh yif):=by walk_at "sc"
theorem ygY:yl ["_law_cell","_law_mixed_here","_law_slots_here"] ["_law_cell"] (yh yig):=by walk_at "sc"
theorem yxr:yl ["_law_word","_law_one","_law_other"] ["_law_word","_law_one","_law_other"] (yh ymd):=by walk_at "sc"
theorem ysL:yl ["_law_found"] ["_law_found"] (yh yih):=by walk_at "sc"
theorem ymJ:yl ["_law_marks","_law_row","_law_k"] ["_law_marks","_law_row"] (yh yjR):=by walk_at "sc"
theorem yxs:yl ["_law_row","_law_slots_here"] ["_law_row","_law_slots_here"] (yh yme):=by walk_at "sc"
theorem ygn:yl ["_law_row","_law_boxes_here","_law_saw","_law_slots_here","_law_written","_law_box"] ["_law_row","_law_boxes_here","_law_saw","_law_slots_here","_law_written"] (yh yeu):=by walk_at "sc"
theorem yU:yl ["_law_rows","_law_boxes_here","_law_first","_law_slots_here","_law_written","_law_saw","_law_marks","_law_at","_law_row","_law_k","_law_end_here"] ["_law_rows","_law_boxes_here","_law_first"] (yh yjS):=by walk_at "sc"
theorem sc_law:yl ["_law_script","_law_names_here","_law_at","_law_cells","_law_deed","_law_boxes_here","_law_slots_here","_law_first","_law_k","_law_due"] ["_law_script"] (yh yJg):=by walk_at "sc"
theorem ml1 {α:Type}{P:List α->Prop}(h:∀ a,P [a]):∀ us:List α,us.length=1->P us
 | [_],_=>h _
theorem ml2 {α:Type}{P:List α->Prop}(h:∀ a b,P [a,b]):∀ us:List α,us.length=2->P us
 | [_,_],_=>h _ _
theorem ml3 {α:Type}{P:List α->Prop}(h:∀ a b c,P [a,b,c]):∀ us:List α,us.length=3->P us
 | [_,_,_],_=>h _ _ _
theorem ml4 {α:Type}{P:List α->Prop}(h:∀ a b c d,P [a,b,c,d]):∀ us:List α,us.length=4->P us
 | [_,_,_,_],_=>h _ _ _ _
theorem ml5 {α:Type}{P:List α->Prop}(h:∀ a b c d e,P [a,b,c,d,e]):∀ us:List α,us.length=5->P us
 | [_,_,_,_,_],_=>h _ _ _ _ _
set_option genInjectivity false in
set_option genSizeOf false in
structure Ads where
 A:Nat->Addr
 yfV:Addr
 yje:FuncData
 yjU:Addr
 yoX:FuncData
 yoY:Addr
 yvd:FuncData
 yjV:Addr
 yoZ:FuncData
 yik:Addr
 ymK:FuncData
 ymj:Addr
 yqW:FuncData
 ypa:Addr
 yve:FuncData
 ypb:Addr
 yvf:FuncData
 yjW:Addr
 ypc:FuncData
 a_reckon:Addr
 d_reckon:FuncData
 yil:Addr
 ymL:FuncData
 ydv:Addr
 yim:FuncData
 yfW:Addr
 yjf:FuncData
 yjX:Addr
 ypd:FuncData
 ygZ:Addr
 yli:FuncData
 yev:Addr
 yhq:FuncData
 yha:Addr
 ylj:FuncData
 yfX:Addr
 yjg:FuncData
 yfd:Addr
 yin:FuncData
 yew:Addr
 yhr:FuncData
 yfY:Addr
 yjh:FuncData
 ydQ:Addr
 ygo:FuncData
 yfe:Addr
 yio:FuncData
 yfZ:Addr
 yji:FuncData
 yex:Addr
 yhs:FuncData
 ydR:Addr
 ygp:FuncData
 ydw:Addr
 yfA:FuncData
 yey:Addr
 yht:FuncData
 yez:Addr
 yhu:FuncData
 yga:Addr
 yjj:FuncData
 ydx:Addr
 yfB:FuncData
 yff:Addr
 yip:FuncData
 ycX:Addr
 yfg:FuncData
 a_alone:Addr
 d_alone:FuncData
 yhb:Addr
 ylk:FuncData
 ydS:Addr
 ygq:FuncData
 ygb:Addr
 yjk:FuncData
 yeA:Addr
 yhv:FuncData
 yjY:Addr
 ype:FuncData
 ymk:Addr
 yqX:FuncData
 yhc:Addr
 yll:FuncData
 yjZ:Addr
 ypf:FuncData
 yml:Addr
 yqY:FuncData
 yiq:Addr
 ymM:FuncData
 yka:Addr
 ypg:FuncData
 ykb:Addr
 yph:FuncData
 ypi:Addr
 yvg:FuncData
 yhd:Addr
 ylm:FuncData
 ymm:Addr
 yqZ:FuncData
 yir:Addr
 ymN:FuncData
 ykc:Addr
 ypj:FuncData
 ygc:Addr
 yjl:FuncData
 ykd:Addr
 ypk:FuncData
 yke:Addr
 ypl:FuncData
 yis:Addr
 ymO:FuncData
 ypm:Addr
 yvh:FuncData
 yit:Addr
 ymP:FuncData
 ykf:Addr
 ypn:FuncData
 yiu:Addr
 ymQ:FuncData
 yiv:Addr
 ymR:FuncData
 yiw:Addr
 ymS:FuncData
 yix:Addr
 ymT:FuncData
 ykg:Addr
 ypo:FuncData
 ykh:Addr
 ypp:FuncData
 yiy:Addr
 ymU:FuncData
 yiz:Addr
 ymV:FuncData
 ymn:Addr
 yra:FuncData
 yiA:Addr
 ymW:FuncData
 yki:Addr
 ypq:FuncData
 ymo:Addr
 yrb:FuncData
 yeB:Addr
 yhw:FuncData
 ykj:Addr
 ypr:FuncData
 a_law:Addr
 d_law:FuncData
 k_DONE:Addr
 k_SLOTS:Tok
 k_WAITS:Addr
 k_WIDE:Tok
abbrev yyJ (K:PySem.W.Frag) (t:Ads):Ck:=⟨K,t.A⟩
structure FB (K:PySem.W.Frag) (x q:Str) (st:Stmt) (f:Addr) (fd:FuncData) (ps:List Str):Prop where
 F:Fun K x q st f fd
 b:Binds K fd ps []
theorem FB.kp {K:PySem.W.Frag}{x q:Str}{st:Stmt}{f:Addr}{fd:FuncData}{ps:List Str}(h:FB K x q st f fd ps):keepIn K (.ref f)=true:=h.F.kp
structure Txt (K:PySem.W.Frag) (mg:Str->Option Value) (t:Ads):Prop where
 yjm:FB K "__init__" "Log.__init__" yfN t.yfV t.yje ["self"]
 yps:FB K "write" "Log.write" yjD t.yjU t.yoX ["self","box","number"]
 ypt:FB K "own" "Log.own" yoK t.yoY t.yvd ["self","box"]
 ypu:FB K "begin" "Log.begin" yjE t.yjV t.yoZ ["self"]
 ymX:FB K "settle" "Log.settle" yhV t.yik t.ymK ["self"]
 yrc:FB K "drop" "Log.drop" ylZ t.ymj t.yqW ["self"]
 yvi:FB K "see" "Log.see" yoL t.ypa t.yve ["self","box","number"]
 ypv:FB K "saw" "Log.saw" yoM t.ypb t.yvf ["self"]
 ypw:FB K "wrote" "Log.wrote" yjF t.yjW t.ypc ["self"]
 F_reckon:FB K "reckon" "reckon" ysG t.a_reckon t.d_reckon ["word","one","other"]
 m_reckon:mg "reckon" = some (.ref t.a_reckon)
 yef:FB K "slot_index" "slot_index" yhW t.yil t.ymL ["slot"]
 ymY:mg "slot_index" = some (.ref t.yil)
 yiB:FB K "__init__" "Doer.__init__" yeY t.ydv t.yim ["self","slots","width"]
 ybX:FB K "held_in" "Doer.held_in" yfO t.yfW t.yjf ["self","slot"]
 ydT:FB K "hold" "Doer.hold" yjG t.yjX t.ypd ["self","slot","number"]
 ydy:FB K "box_at" "Doer.box_at" ygS t.ygZ t.yli ["self","place"]
 yhx:FB K "do_reckon" "Doer.do_reckon" yeo t.yev t.yhq ["self","word","slot","one","other"]
 yln:FB K "do_put" "Doer.do_put" ygT t.yha t.ylj ["self","place","slot"]
 yjn:FB K "sees_at" "Doer.sees_at" yfP t.yfX t.yjg ["self","place"]
 yiC:FB K "take_own" "Doer.take_own" yeZ t.yfd t.yin ["self","slot","place"]
 yhy:FB K "take_seen" "Doer.take_seen" yep t.yew t.yhr ["self","slot","place","numbers"]
 yjo:FB K "__init__" "Let.__init__" yfQ t.yfY t.yjh ["self","slot","number"]
 ygr:FB K "__init__" "Reckon.__init__" ydM t.ydQ t.ygo ["self","word","slot","one","other"]
 yiD:FB K "__init__" "Take.__init__" yfa t.yfe t.yio ["self","slot","place"]
 yjp:FB K "__init__" "Put.__init__" yfR t.yfZ t.yji ["self","place","slot"]
 yhz:FB K "__init__" "Doing.__init__" yeq t.yex t.yhs ["self","boxes","slots"]
 ygs:FB K "take_done" "Doing.take_done" ydN t.ydR t.ygp ["self","part"]
 yfC:FB K "plain_done" "Doing.plain_done" yds t.ydw t.yfA ["self","part"]
 ybB:FB K "list_end" "Doing.list_end" yer t.yey t.yht ["self","parts"]
 yhA:FB K "part_end" "Doing.part_end" yes t.yez t.yhu ["self","part"]
 yjq:FB K "if_end" "Doing.if_end" yfS t.yga t.yjj ["self","part"]
 yfD:FB K "either_end" "Doing.either_end" ydt t.ydx t.yfB ["self","part"]
 yiE:FB K "try_end" "Doing.try_end" yfb t.yff t.yip ["self","part"]
 ycY:FB K "layered_end" "Doing.layered_end" ycW t.ycX t.yfg ["self","parts"]
 F_alone:FB K "alone" "alone" yxm t.a_alone t.d_alone ["deed","boxes","slots"]
 m_alone:mg "alone" = some (.ref t.a_alone)
 ylo:FB K "__init__" "If.__init__" ygU t.yhb t.ylk ["self","slot","parts","others"]
 ygt:FB K "__init__" "Either.__init__" ydO t.ydS t.ygq ["self","parts","others"]
 yjr:FB K "__init__" "Try.__init__" yfT t.ygb t.yjk ["self","parts","name","slot","others"]
 yhB:FB K "__init__" "Throw.__init__" yet t.yeA t.yhv ["self","name","slot"]
 ypx:FB K "long" "Part.long" yjH t.yjY t.ype ["self"]
 yrd:FB K "long" "Let.long" yma t.ymk t.yqX ["self"]
 ylp:FB K "long" "Reckon.long" ygV t.yhc t.yll ["self"]
 ypy:FB K "long" "Take.long" yjI t.yjZ t.ypf ["self"]
 yre:FB K "long" "Put.long" ymb t.yml t.yqY ["self"]
 ymZ:FB K "long" "Throw.long" yhX t.yiq t.ymM ["self"]
 ypz:FB K "long" "Wait.long" yjJ t.yka t.ypg ["self"]
 ybh:FB K "list_long" "list_long" yjK t.ykb t.yph ["parts"]
 ycZ:mg "list_long" = some (.ref t.ykb)
 yvj:FB K "long" "If.long" yoN t.ypi t.yvg ["self"]
 ylq:FB K "long" "Either.long" ygW t.yhd t.ylm ["self"]
 yrf:FB K "long" "Try.long" ymc t.ymm t.yqZ ["self"]
 yiF:FB K "plain_rows" "plain_rows" yhY t.yir t.ymN ["part"]
 yvk:mg "plain_rows" = some (.ref t.yir)
 ykk:FB K "first_row" "first_row" yjL t.ykc t.ypj ["part","second"]
 yxt:mg "first_row" = some (.ref t.ykc)
 ygd:FB K "rows_between" "rows_between" yfU t.ygc t.yjl ["part","behind"]
 yqy:mg "rows_between" = some (.ref t.ygc)
 yda:FB K "list_rows" "list_rows" yjM t.ykd t.ypk ["parts","first"]
 ykl:mg "list_rows" = some (.ref t.ykd)
 ykm:FB K "part_rows" "part_rows" yjN t.yke t.ypl ["part","first"]
 yxu:mg "part_rows" = some (.ref t.yke)
 yiG:FB K "sided_rows" "sided_rows" yhZ t.yis t.ymO ["part","first"]
 yvl:mg "sided_rows" = some (.ref t.yis)
 ypA:FB K "rows_of" "rows_of" yoO t.ypm t.yvh ["deed"]
 yCX:mg "rows_of" = some (.ref t.ypm)
 ybR:FB K "_law_mixed" "_law_mixed" yia t.yit t.ymP ["_law_cell"]
 yfE:mg "_law_mixed" = some (.ref t.yit)
 ydb:FB K "_law_wide" "_law_wide" yjO t.ykf t.ypn ["_law_cell"]
 ykn:mg "_law_wide" = some (.ref t.ykf)
 yeg:FB K "_law_alike" "_law_alike" yib t.yiu t.ymQ ["_law_found","_law_due"]
 yna:mg "_law_alike" = some (.ref t.yiu)
 yiH:FB K "_law_names" "_law_names" yic t.yiv t.ymR ["_law_cell"]
 yvm:mg "_law_names" = some (.ref t.yiv)
 yiI:FB K "_law_plain" "_law_plain" yid t.yiw t.ymS ["_law_mixed_here","_law_cell"]
 yvn:mg "_law_plain" = some (.ref t.yiw)
 yiJ:FB K "_law_sided" "_law_sided" yie t.yix t.ymT ["_law_mixed_here","_law_one","_law_other","_law_names_here"]
 yvo:mg "_law_sided" = some (.ref t.yix)
 ydc:FB K "_law_tree" "_law_tree" yjP t.ykg t.ypo ["_law_cells","_law_depth","_law_names_here"]
 yko:mg "_law_tree" = some (.ref t.ykg)
 ybi:FB K "_law_made" "_law_made" yjQ t.ykh t.ypp ["_law_tree_here"]
 ydd:mg "_law_made" = some (.ref t.ykh)
 yiK:FB K "_law_boxes" "_law_boxes" yif t.yiy t.ymU ["_law_cell"]
 yvp:mg "_law_boxes" = some (.ref t.yiy)
 yiL:FB K "_law_slots" "_law_slots" yig t.yiz t.ymV ["_law_cell"]
 yvq:mg "_law_slots" = some (.ref t.yiz)
 ymp:FB K "_law_sum" "_law_sum" ymd t.ymn t.yra ["_law_word","_law_one","_law_other"]
 yzR:mg "_law_sum" = some (.ref t.ymn)
 ycw:FB K "_law_pairs" "_law_pairs" yih t.yiA t.ymW ["_law_found"]
 yiM:mg "_law_pairs" = some (.ref t.yiA)
 ykp:FB K "_law_mark" "_law_mark" yjR t.yki t.ypq ["_law_marks","_law_row"]
 yxv:mg "_law_mark" = some (.ref t.yki)
 ygu:FB K "_law_end" "_law_end" yme t.ymo t.yrb ["_law_row","_law_slots_here"]
 yrg:mg "_law_end" = some (.ref t.ymo)
 yeC:FB K "_law_plain_row" "_law_plain_row" yeu t.yeB t.yhw ["_law_row","_law_boxes_here","_law_saw","_law_slots_here","_law_written"]
 ynr:mg "_law_plain_row" = some (.ref t.yeB)
 ykq:FB K "_law_gone" "_law_gone" yjS t.ykj t.ypr ["_law_rows","_law_boxes_here","_law_first"]
 yxw:mg "_law_gone" = some (.ref t.ykj)
 F_law:FB K "law" "law" yJg t.a_law t.d_law ["_law_script"]
 m_law:mg "law" = some (.ref t.a_law)
 m_Log:mg "Log" = some (.ref (t.A 0))
 mk_Log:Mk K (t.A 0) t.yfV
 m_Doing:mg "Doing" = some (.ref (t.A 1))
 mk_Doing:Mk K (t.A 1) t.yex
 m_Doer:mg "Doer" = some (.ref (t.A 2))
 mk_Doer:Mk K (t.A 2) t.ydv
 m_Let:mg "Let" = some (.ref (t.A 3))
 mk_Let:Mk K (t.A 3) t.yfY
 m_Reckon:mg "Reckon" = some (.ref (t.A 4))
 mk_Reckon:Mk K (t.A 4) t.ydQ
 m_Take:mg "Take" = some (.ref (t.A 5))
 mk_Take:Mk K (t.A 5) t.yfe
 m_Put:mg "Put" = some (.ref (t.A 6))
 mk_Put:Mk K (t.A 6) t.yfZ
 m_If:mg "If" = some (.ref (t.A 7))
 mk_If:Mk K (t.A 7) t.yhb
 m_Either:mg "Either" = some (.ref (t.A 8))
 mk_Either:Mk K (t.A 8) t.ydS
 m_Try:mg "Try" = some (.ref (t.A 9))
 mk_Try:Mk K (t.A 9) t.ygb
 m_Throw:mg "Throw" = some (.ref (t.A 10))
 mk_Throw:Mk K (t.A 10) t.yeA
 m_Wait:mg "Wait" = some (.ref (t.A 11))
 mk_Wait:makesIn K (t.A 11)=true
 io_Wait:findIn K (.ref (t.A 11)) "__init__" = some (some (.builtin "object.__init__"))
 kp_Wait:keepIn K (.ref (t.A 11))=true
 m_Part:mg "Part" = some (.ref (t.A 12))
 mk_Part:makesIn K (t.A 12)=true
 io_Part:findIn K (.ref (t.A 12)) "__init__" = some (some (.builtin "object.__init__"))
 kp_Part:keepIn K (.ref (t.A 12))=true
 me_Part_long:ycq K (t.A 12) "long" t.yjY
 me_Let_long:ycq K (t.A 3) "long" t.ymk
 me_Reckon_long:ycq K (t.A 4) "long" t.yhc
 me_Take_long:ycq K (t.A 5) "long" t.yjZ
 me_Put_long:ycq K (t.A 6) "long" t.yml
 me_If_long:ycq K (t.A 7) "long" t.ypi
 me_Either_long:ycq K (t.A 8) "long" t.yhd
 me_Try_long:ycq K (t.A 9) "long" t.ymm
 me_Throw_long:ycq K (t.A 10) "long" t.yiq
 me_Wait_long:ycq K (t.A 11) "long" t.yka
 yvr:ycq K (t.A 0) "write" t.yjU
 yrh:ycq K (t.A 0) "own" t.yoY
 yvs:ycq K (t.A 0) "begin" t.yjV
 ysM:ycq K (t.A 0) "settle" t.yik
 yxx:ycq K (t.A 0) "drop" t.ymj
 yzS:ycq K (t.A 0) "see" t.ypa
 yri:ycq K (t.A 0) "saw" t.ypb
 yvt:ycq K (t.A 0) "wrote" t.yjW
 ms_Doing_held_in:ycq K (t.A 1) "held_in" t.yfW
 ms_Doing_hold:ycq K (t.A 1) "hold" t.yjX
 ms_Doing_box_at:ycq K (t.A 1) "box_at" t.ygZ
 ms_Doing_do_reckon:ycq K (t.A 1) "do_reckon" t.yev
 ms_Doing_do_put:ycq K (t.A 1) "do_put" t.yha
 ms_Doing_sees_at:ycq K (t.A 1) "sees_at" t.yfX
 ms_Doing_take_own:ycq K (t.A 1) "take_own" t.yfd
 ms_Doing_take_seen:ycq K (t.A 1) "take_seen" t.yew
 ylr:ycq K (t.A 1) "take_done" t.ydR
 ykr:ycq K (t.A 1) "plain_done" t.ydw
 ybE:ycq K (t.A 1) "list_end" t.yey
 ymq:ycq K (t.A 1) "part_end" t.yez
 ypB:ycq K (t.A 1) "if_end" t.yga
 yks:ycq K (t.A 1) "either_end" t.ydx
 yns:ycq K (t.A 1) "try_end" t.yff
 yeE:ycq K (t.A 1) "layered_end" t.ycX
 cf_Doer:yFb K (t.A 2) "__init__" t.ydv
 cl:∀ k,Cls K (t.A k)
 fa:Fa (yyJ K t)
 z_bool:mg "bool" = none
 z_dict:mg "dict" = none
 z_int:mg "int" = none
 z_isinstance:mg "isinstance" = none
 z_len:mg "len" = none
 z_list:mg "list" = none
 z_max:mg "max" = none
 z_range:mg "range" = none
 z_reversed:mg "reversed" = none
 z_sorted:mg "sorted" = none
 z_str:mg "str" = none
 z_sum:mg "sum" = none
 z_tuple:mg "tuple" = none
 m_DONE:mg "DONE" = some (.ref t.k_DONE)
 kt_DONE:KTp K t.k_DONE ((["done"]:List Str).map V.str)
 m_SLOTS:mg "SLOTS" = some (.str "abcdefgh" t.k_SLOTS)
 m_WAITS:mg "WAITS" = some (.ref t.k_WAITS)
 kt_WAITS:KTp K t.k_WAITS ((["waits"]:List Str).map V.str)
 m_WIDE:mg "WIDE" = some (.int 18446744073709551616 t.k_WIDE)
theorem ypC:Nm "DONE":=by symm
theorem yJh:Nm "Doer":=by symm
theorem yFA:Nm "Doing":=by symm
theorem yls:Nm "Either":=by symm
theorem yCY:Nm "If":=by symm
theorem yCZ:Nm "Let":=by symm
theorem yLM:Nm "Log":=by symm
theorem yDa:Nm "Put":=by symm
theorem ypD:Nm "Reckon":=by symm
theorem yFB:Nm "SLOTS":=by symm
theorem yxy:Nm "Take":=by symm
theorem ysN:Nm "Throw":=by symm
theorem yDb:Nm "Try":=by symm
theorem yyK:Nm "WAITS":=by symm
theorem yxz:Nm "WIDE":=by symm
theorem yxA:Nm "Wait":=by symm
theorem ylt:Nm "_law_alike":=by symm
theorem ybm:Nm "_law_at":=by symm
theorem yde:Nm "_law_box":=by symm
theorem ysO:Nm "_law_boxes":=by symm
theorem yL:Nm "_law_boxes_here":=by symm
theorem ybD:Nm "_law_cell":=by symm
theorem ycj:Nm "_law_cells":=by symm
theorem ynb:Nm "_law_deed":=by symm
theorem yhe:Nm "_law_depth":=by symm
theorem ybY:Nm "_law_due":=by symm
theorem ypE:Nm "_law_end":=by symm
theorem ynt:Nm "_law_end_here":=by symm
theorem yeJ:Nm "_law_first":=by symm
theorem ybq:Nm "_law_found":=by symm
theorem yvu:Nm "_law_gone":=by symm
theorem yT:Nm "_law_k":=by symm
theorem ybK:Nm "_law_letters":=by symm
theorem ycx:Nm "_law_made":=by symm
theorem yu:Nm "_law_made_here":=by symm
theorem ybx:Nm "_law_many":=by symm
theorem yvv:Nm "_law_mark":=by symm
theorem ybd:Nm "_law_marks":=by symm
theorem yeK:Nm "_law_mixed":=by symm
theorem yi:Nm "_law_mixed_here":=by symm
theorem ync:Nm "_law_more":=by symm
theorem ynd:Nm "_law_name":=by symm
theorem ysP:Nm "_law_names":=by symm
theorem yM:Nm "_law_names_here":=by symm
theorem yQ:Nm "_law_one":=by symm
theorem yJ:Nm "_law_other":=by symm
theorem yhf:Nm "_law_pairs":=by symm
theorem yv:Nm "_law_part":=by symm
theorem ysQ:Nm "_law_plain":=by symm
theorem ymr:Nm "_law_plain_row":=by symm
theorem ycy:Nm "_law_rest":=by symm
theorem yk:Nm "_law_row":=by symm
theorem yne:Nm "_law_rows":=by symm
theorem yhg:Nm "_law_saw":=by symm
theorem yge:Nm "_law_script":=by symm
theorem ysR:Nm "_law_sided":=by symm
theorem yfF:Nm "_law_sign":=by symm
theorem ynf:Nm "_law_size":=by symm
theorem yiN:Nm "_law_slot":=by symm
theorem ysS:Nm "_law_slots":=by symm
theorem ym:Nm "_law_slots_here":=by symm
theorem yvw:Nm "_law_some":=by symm
theorem yng:Nm "_law_stop":=by symm
theorem ysT:Nm "_law_stops":=by symm
theorem yxB:Nm "_law_sum":=by symm
theorem ylu:Nm "_law_third":=by symm
theorem yiO:Nm "_law_tree":=by symm
theorem ybn:Nm "_law_tree_here":=by symm
theorem yvx:Nm "_law_turn":=by symm
theorem ycz:Nm "_law_way":=by symm
theorem yiP:Nm "_law_wide":=by symm
theorem ydg:Nm "_law_word":=by symm
theorem ycd:Nm "_law_written":=by symm
theorem yFC:Nm "alone":=by symm
theorem yDc:Nm "before":=by symm
theorem ylv:Nm "behind":=by symm
theorem yzT:Nm "beneath":=by symm
theorem yJi:Nm "bool":=by symm
theorem ypF:Nm "box":=by symm
theorem ysU:Nm "boxes":=by symm
theorem yDd:Nm "deed":=by symm
theorem ypG:Nm "dict":=by symm
theorem ylw:Nm "doing":=by symm
theorem ygv:Nm "end":=by symm
theorem ynJ:Nm "first":=by symm
theorem yvy:Nm "first_row":=by symm
theorem yFD:Nm "inner":=by symm
theorem yyL:Nm "int":=by symm
theorem yr:Nm "isinstance":=by symm
theorem yyM:Nm "layer":=by symm
theorem yfG:Nm "len":=by symm
theorem ydz:Nm "list":=by symm
theorem ycA:Nm "list_long":=by symm
theorem yiQ:Nm "list_rows":=by symm
theorem yDe:Nm "lowest":=by symm
theorem yLN:Nm "max":=by symm
theorem yDf:Nm "name":=by symm
theorem ylx:Nm "number":=by symm
theorem yrj:Nm "numbers":=by symm
theorem ypH:Nm "one":=by symm
theorem yhh:Nm "other":=by symm
theorem ypI:Nm "others":=by symm
theorem yFE:Nm "outer":=by symm
theorem yo:Nm "part":=by symm
theorem yvz:Nm "part_rows":=by symm
theorem yhi:Nm "parts":=by symm
theorem yhj:Nm "place":=by symm
theorem ysV:Nm "plain_rows":=by symm
theorem yDg:Nm "reckon":=by symm
theorem ypJ:Nm "rows":=by symm
theorem ypK:Nm "rows_between":=by symm
theorem yzU:Nm "rows_of":=by symm
theorem yiR:Nm "second":=by symm
theorem yg:Nm "self":=by symm
theorem ysW:Nm "sided_rows":=by symm
theorem ydA:Nm "slot":=by symm
theorem yly:Nm "slot_index":=by symm
theorem ynK:Nm "slots":=by symm
theorem ypL:Nm "sorted":=by symm
theorem yGR:Nm "str":=by symm
theorem yyN:Nm "sum":=by symm
theorem yGS:Nm "top":=by symm
theorem yyO:Nm "tuple":=by symm
theorem yFF:Nm "width":=by symm
theorem yms:Nm "word":=by symm
theorem oI {α:Type}{a:α}{p:Prop}:a=a\/p:=.inl rfl
local macro_rules | `(‹($n,$a,$d,$l,$k,$p)›)=>`(FnOk $(Lean.mkIdent `P) $(Lean.mkIdent `w) $(Lean.mkIdent `K) $(Lean.mkIdent `mg) $(Lean.mkIdent `base) CX0 $n $a $d $l (spE (yyJ $(Lean.mkIdent `K) $(Lean.mkIdent `t)) $k $p))
local macro_rules | `(‹_›)=>`($(Lean.mkIdent `hr).mono (by omega))
local macro_rules | `(nofun)=>`(fun _ _=>rfl)
section
variable {P:Program}{w:World}{K:PySem.W.Frag}{mg:Str->Option Value}{base:Heap}{t:Ads}
theorem ykt {n:Nat}{ck:Ck}{vs:List V}{H:Hp}{Q:VK}{E:XK}(h:spE ck n (fun _ _=>none) vs H Q E):False:=by
 obtain ⟨_,_,_,_,_,_,_,_,q,_⟩:=h
 cases q
theorem ycH {f:Addr}{fd:FuncData}{ps:List Str}{k n:Nat}{ck:Ck}:FnOk P w K mg base CX0 k f fd ps (spE ck n fun _ _=>none):=⟨fun vs H Q E h=>(ykt h).elim,fun A outer s H args us vs Q E _ _ _ _ h=>(ykt h).elim⟩
structure yPb (P:Program) (w:World) (K:PySem.W.Frag) (mg:Str->Option Value) (base:Heap) (t:Ads) (n:Nat):Prop where
 yhC:‹(n+8,t.yey,t.yht,["self","parts"],2,(ybb n))›
 ynu:‹(n+8,t.yez,t.yhu,["self","part"],2,(yI n))›
 yqz:‹(n+8,t.yga,t.yjj,["self","part"],2,(yea n))›
 ylz:‹(n+8,t.ydx,t.yfB,["self","part"],2,(ycs n))›
 ypM:‹(n+8,t.yff,t.yip,["self","part"],2,(ydr n))›
 yku:‹(n+8,t.ycX,t.yfg,["self","parts"],2,(ybI n))›
structure yPc (P:Program) (w:World) (K:PySem.W.Frag) (mg:Str->Option Value) (base:Heap) (t:Ads) (n:Nat):Prop where
 ypN:‹(n+1,t.ykb,t.yph,["parts"],1,(ybU n))›
 yvA:‹(n+1,t.ypi,t.yvg,["self"],1,(ykT n))›
 ylA:‹(n+1,t.yhd,t.ylm,["self"],1,(yeI n))›
 yrk:‹(n+1,t.ymm,t.yqZ,["self"],1,(yiW n))›
 m_long:ywe P w K mg base (n+1) t.A "long" (fun k=>spE (yyJ K t) 1 (yqR n k))
structure yPd (P:Program) (w:World) (K:PySem.W.Frag) (mg:Str->Option Value) (base:Heap) (t:Ads) (n:Nat):Prop where
 ypO:‹(n+22,t.ykd,t.ypk,["parts","first"],2,(ycT n))›
 yxC:‹(n+22,t.yke,t.ypl,["part","first"],2,(ygE n))›
 yvB:‹(n+22,t.yis,t.ymO,["part","first"],2,(yft n))›
structure yPe (P:Program) (w:World) (K:PySem.W.Frag) (mg:Str->Option Value) (base:Heap) (t:Ads) (n:Nat):Prop where
 ynh:‹(n+3,t.yiu,t.ymQ,["_law_found","_law_due"],2,(yH n))›
structure yPf (P:Program) (w:World) (K:PySem.W.Frag) (mg:Str->Option Value) (base:Heap) (t:Ads) (n:Nat):Prop where
 ypP:‹(n+3,t.ykg,t.ypo,["_law_cells","_law_depth","_law_names_here"],3,(ycU n))›
structure yPg (P:Program) (w:World) (K:PySem.W.Frag) (mg:Str->Option Value) (base:Heap) (t:Ads) (n:Nat):Prop where
 ypQ:‹(n+3,t.ykh,t.ypp,["_law_tree_here"],1,(ybV n))›
variable (T:Txt K mg t)
include T
theorem ypR:FnOk P w K mg base CX0 (0+1) t.yfV t.yje ["self"] (spI (yyJ K t) 0 0 ydW):=have fa:=T.fa;zin T.yjm.F yoP rfl (by decide) fun cdv Ar outer sh H E hr=>(ybO (ycc fa.fl_stack (yY (i:=0) rfl oI yg.d yg.c) (yeP (ycp (ya (yeP yqO) yc rfl))) rfl) (yeS (ycc fa.fl_last_seen (yY (i:=0) rfl oI yg.d yg.c) (yeP yqO) rfl)))
theorem yvC:‹(0+1,t.yjU,t.yoX,["self","box","number"],3,ygB)›:=have fa:=T.fa;zfn T.yps.F ymH fun cdv Ar outer sh H E hr=>(ye (yA (i:=3) ymH.nd rfl oI (ybr ix_list ydB (yW fa.fl_stack (z_v 0 yg) rfl) (yJr yqF yzf z_int) nofun) rfl oI) (yf (ygy (yeM hr) (z_v 3 yGS) (z_v 1 ypF) (z_v 2 ylx) rfl)))
theorem yrl:‹(0+1,t.yoY,t.yvd,["self","box"],2,ygi)›:=have fa:=T.fa;zfn T.ypt.F yqV fun cdv Ar outer sh H E hr=>(ye (yIE PassesOwn.never rfl rfl T.z_reversed (yW fa.fl_stack (z_v 0 yg) rfl) rfl rfl (yeR (i:=2) yqV.nd rfl oI oI) (yf (yN (yLe (yeM hr) (z_v 1 ypF) (z_v 2 yyM) (by with_unfolding_all rfl)) (yf (yq (yhM (yeM hr) (z_v 2 yyM) (z_v 1 ypF) nofun))) yy)) (fun _=>rfl)) (yf (yq yBI)))
theorem yvD:‹(0+1,t.yjV,t.yoZ,["self"],1,ygC)›:=have fa:=T.fa;zfn T.ypu.F yuU fun cdv Ar outer sh H E hr=>(yf (ybT (yLW plainAttrs_list PySem.F.slot_list_append PySem.F.type_list_append yhH yGo (yW fa.fl_stack (z_v 0 yg) rfl) (ya (yeP yqO) yc rfl) rfl rfl rfl rfl rfl) rfl))
theorem ysX:‹(0+1,t.yik,t.ymK,["self"],1,yfs)›:=have fa:=T.fa;zfn T.ymX.F ygX fun cdv Ar outer sh H E hr=>(ye (yA (i:=1) ygX.nd rfl oI (yIy plainAttrs_list slot_list_pop type_list_pop yAz yBl (yW fa.fl_stack (z_v 0 yg) rfl) rfl rfl) rfl oI) (ye (yA (i:=2) ygX.nd rfl oI (ybr ix_list ydB (yW fa.fl_stack (z_v 0 yg) rfl) (yJr yqF yzf z_int) nofun) rfl oI) (yf (ybT (yLW plainAttrs_dict PySem.F.slot_dict_update PySem.F.type_dict_update yLm yNx (z_v 2 yzT) (ya (z_v 1 yGS) yc rfl) rfl rfl rfl rfl rfl) rfl))))
theorem yxD:‹(0+1,t.ymj,t.yqW,["self"],1,ygj)›:=have fa:=T.fa;zfn T.yrc.F yxn fun cdv Ar outer sh H E hr=>(yf (ybT (yIy plainAttrs_list slot_list_pop type_list_pop yAz yBl (yW fa.fl_stack (z_v 0 yg) rfl) rfl rfl) rfl))
theorem yzV:‹(0+1,t.ypa,t.yve,["self","box","number"],3,ykR)›:=have fa:=T.fa;zfn T.yvi.F yzN fun cdv Ar outer sh H E hr=>(yf (ygy (yeM hr) (yW fa.fl_last_seen (z_v 0 yg) rfl) (z_v 1 ypF) (z_v 2 ylx) rfl))
theorem yrm:‹(0+1,t.ypb,t.yvf,["self"],1,ygk)›:=have fa:=T.fa;zfn T.ypv.F yzO fun cdv Ar outer sh H E hr=>(yf (yq (yeP (PXS.z_sortI rfl (yW fa.fl_last_seen (z_v 0 yg) rfl) ypL rfl T.z_sorted yoh rfl rfl rfl rfl))))
theorem yvE:‹(0+1,t.yjW,t.ypc,["self"],1,ygD)›:=have fa:=T.fa;zfn T.ypw.F ymI fun cdv Ar outer sh H E hr=>(ye (yA (i:=1) ymI.nd rfl oI (ybr ix_list ydB (yW fa.fl_stack (z_v 0 yg) rfl) z_int nofun) rfl oI) (yf (yq (yeP (PXS.z_sortI rfl (z_v 1 yDe) ypL rfl T.z_sorted yoh rfl rfl rfl rfl)))))
theorem yDh:‹(0+1,t.a_reckon,t.d_reckon,["word","one","other"],3,ynE)›:=zfn T.F_reckon.F yCW fun cdv Ar outer sh H E hr=>(ye (yN (yG ybz yek (z_v 0 yms) z_str (yD _)) (yf (yq (ybo yZ ybS (ybo ybF ycR (z_v 1 ypH) (z_v 2 yhh)) (yBJ yxz rfl T.m_WIDE)))) yy) (ye (yN (yG ybz yek (z_v 0 yms) z_str (yD _)) (yf (yq (ybo yZ ybS (ybo yqE yze (z_v 1 ypH) (z_v 2 yhh)) (yBJ yxz rfl T.m_WIDE)))) yy) (ye (yN (yG ybz yek (z_v 0 yms) z_str (yD _)) (yf (yq (ybo yZ ybS (ybo ynN ywt (z_v 1 ypH) (z_v 2 yhh)) (yBJ yxz rfl T.m_WIDE)))) yy) (ye (yN (yG ybz yek (z_v 0 yms) z_str (yD _)) (yf (yq (yIw (yG yqc yDq (z_v 1 ypH) (z_v 2 yhh) (yD _)) z_int z_int))) yy) (yf (yq (yIw (yG ybz yek (z_v 1 ypH) (z_v 2 yhh) (yD _)) z_int z_int)))))))
theorem ylB:‹(0+1,t.yil,t.ymL,["slot"],1,yee)›:=zfn T.yef.F ysH fun cdv Ar outer sh H E hr=>(yf (yq (yLW PySem.F.plainAttrs_str PySem.F.slot_str_find PySem.F.type_str_find yII yEs (yLc yFB rfl T.m_SLOTS) (ya (z_v 0 ydA) yc rfl) rfl rfl rfl rfl rfl)))
theorem yce:‹(1+1,t.yfW,t.yjf,["self","slot"],2,ybu)›:=have fa:=T.fa;zfn T.ybX.F yoQ fun cdv Ar outer sh H E hr=>(yf (yq (ybr ix_list ydB (yW fa.fl_held (z_v 0 yg) rfl) (yO (ylB T) ‹_› yly rfl T.ymY T.yef.kp T.yef.b (ya (z_v 1 ydA) yc rfl) rfl rfl) nofun)))
theorem yeh:‹(1+1,t.yjX,t.ypd,["self","slot","number"],3,ycu)›:=have fa:=T.fa;zfn T.ydT.F yuV fun cdv Ar outer sh H E hr=>(yf (yBM (z_v 2 ylx) (yW fa.fl_held (z_v 0 yg) rfl) (yO (ylB T) ‹_› yly rfl T.ymY T.yef.kp T.yef.b (ya (z_v 1 ydA) yc rfl) rfl rfl) (fun _=>rfl) rfl rfl rfl))
theorem yec:‹(2+1,t.ygZ,t.yli,["self","place"],2,ych)›:=have fa:=T.fa;zfn T.ydy.F yqt fun cdv Ar outer sh H E hr=>(yf (yq (ybo yZ ybS (yS (z_v 0 yg) (T.cl 1) T.ms_Doing_held_in (yce T) ‹_› T.ybX.b (ya (z_v 1 yhj) yc rfl) rfl rfl rfl) (yW fa.fl_width (z_v 0 yg) rfl))))
theorem ynv:FnOk P w K mg base CX0 (2+1) t.ydv t.yim ["self","slots","width"] (spJ (yyJ K t) 2 1 ydo):=have fa:=T.fa;yOO T.yiB.F yno rfl (by decide) fun cdv Ar outer sh H E hr=>(ybO (ycc fa.fl_held (yY (i:=0) rfl oI yg.d yg.c) (yeP (ydC ybk ycB ydz rfl T.z_list ydl (ya (z_v 1 ynK) yc rfl) rfl rfl)) rfl) (ybO (ycc fa.fl_width (yY (i:=0) rfl oI yg.d yg.c) (z_v 2 yFF) rfl) (yeS (ycc fa.fl_log (yY (i:=0) rfl oI yg.d yg.c) (yeP (yIG T.mk_Log (ypR T) ‹_› yLM rfl T.m_Log T.yjm.b)) rfl))))
theorem ymt:‹(2+1,t.yev,t.yhq,["self","word","slot","one","other"],5,ycM)›:=zfn T.yhx.F ymf fun cdv Ar outer sh H E hr=>(yf (ybT (yS (z_v 0 yg) (T.cl 1) T.ms_Doing_hold (yeh T) ‹_› T.ydT.b (ya (z_v 2 ydA) (ya (yO (yDh T) ‹_› yDg rfl T.m_reckon T.F_reckon.kp T.F_reckon.b (ya (z_v 1 yms) (ya (yS (z_v 0 yg) (T.cl 1) T.ms_Doing_held_in (yce T) ‹_› T.ybX.b (ya (z_v 3 ypH) yc rfl) rfl rfl rfl) (ya (yS (z_v 0 yg) (T.cl 1) T.ms_Doing_held_in (yce T) ‹_› T.ybX.b (ya (z_v 4 yhh) yc rfl) rfl rfl rfl) yc rfl) rfl) rfl) rfl rfl) yc rfl) rfl) rfl rfl rfl) rfl))
theorem yqA:‹(3+1,t.yha,t.ylj,["self","place","slot"],3,yeG)›:=have fa:=T.fa;zfn T.yln.F yqu fun cdv Ar outer sh H E hr=>(yf (ybT (yS (yW fa.fl_log (z_v 0 yg) rfl) (T.cl 0) T.yvr (yvC T) ‹_› T.yps.b (ya (yS (z_v 0 yg) (T.cl 1) T.ms_Doing_box_at (yec T) ‹_› T.ydy.b (ya (z_v 1 yhj) yc rfl) rfl rfl rfl) (ya (yS (z_v 0 yg) (T.cl 1) T.ms_Doing_held_in (yce T) ‹_› T.ybX.b (ya (z_v 2 ydA) yc rfl) rfl rfl rfl) yc rfl) rfl) rfl rfl rfl) rfl))
theorem ypS:‹(3+1,t.yfX,t.yjg,["self","place"],2,ydX)›:=have fa:=T.fa;zfn T.yjn.F yoR fun cdv Ar outer sh H E hr=>(yf (yq (ywF yFO yKt (yS (yW fa.fl_log (z_v 0 yg) rfl) (T.cl 0) T.yrh (yrl T) ‹_› T.ypt.b (ya (yS (z_v 0 yg) (T.cl 1) T.ms_Doing_box_at (yec T) ‹_› T.ydy.b (ya (z_v 1 yhj) yc rfl) rfl rfl rfl) yc rfl) rfl rfl rfl) yBI (yD _))))
theorem ynw:‹(3+1,t.yfd,t.yin,["self","slot","place"],3,ydp)›:=have fa:=T.fa;zfn T.yiC.F ynp fun cdv Ar outer sh H E hr=>(yf (ybT (yS (z_v 0 yg) (T.cl 1) T.ms_Doing_hold (yeh T) ‹_› T.ydT.b (ya (z_v 1 ydA) (ya (yS (yW fa.fl_log (z_v 0 yg) rfl) (T.cl 0) T.yrh (yrl T) ‹_› T.ypt.b (ya (yS (z_v 0 yg) (T.cl 1) T.ms_Doing_box_at (yec T) ‹_› T.ydy.b (ya (z_v 2 yhj) yc rfl) rfl rfl rfl) yc rfl) rfl rfl rfl) yc rfl) rfl) rfl rfl rfl) rfl))
theorem ymu:‹(3+1,t.yew,t.yhr,["self","slot","place","numbers"],4,ycN)›:=have fa:=T.fa;zfn T.yhy.F ygm fun cdv Ar outer sh H E hr=>(ye (yA (i:=4) ygm.nd rfl oI (yS (z_v 0 yg) (T.cl 1) T.ms_Doing_box_at (yec T) ‹_› T.ydy.b (ya (z_v 2 yhj) yc rfl) rfl rfl rfl) rfl oI) (ye (ybT (yS (yW fa.fl_log (z_v 0 yg) rfl) (T.cl 0) T.yzS (yzV T) ‹_› T.yvi.b (ya (z_v 4 ypF) (ya (ybr ix_list ydB (z_v 3 yrj) (z_v 4 ypF) nofun) yc rfl) rfl) rfl rfl rfl) rfl) (yf (ybT (yS (z_v 0 yg) (T.cl 1) T.ms_Doing_hold (yeh T) ‹_› T.ydT.b (ya (z_v 1 ydA) (ya (ybr ix_list ydB (z_v 3 yrj) (z_v 4 ypF) nofun) yc rfl) rfl) rfl rfl rfl) rfl))))
theorem ypT:FnOk P w K mg base CX0 (0+1) t.yfY t.yjh ["self","slot","number"] (spI (yyJ K t) 2 3 ydY):=have fa:=T.fa;zin T.yjo.F yoS rfl (by decide) fun cdv Ar outer sh H E hr=>(ybO (ycc fa.fl_slot (yY (i:=0) rfl oI yg.d yg.c) (z_v 1 ydA) rfl) (yeS (ycc fa.fl_number (yY (i:=0) rfl oI yg.d yg.c) (z_v 2 ylx) rfl)))
theorem ylC:FnOk P w K mg base CX0 (0+1) t.ydQ t.ygo ["self","word","slot","one","other"] (spI (yyJ K t) 4 4 ycC):=have fa:=T.fa;zin T.ygr.F yle rfl (by decide) fun cdv Ar outer sh H E hr=>(ybO (ycc fa.fl_word (yY (i:=0) rfl oI yg.d yg.c) (z_v 1 yms) rfl) (ybO (ycc fa.fl_slot (yY (i:=0) rfl oI yg.d yg.c) (z_v 2 ydA) rfl) (ybO (ycc fa.fl_one (yY (i:=0) rfl oI yg.d yg.c) (z_v 3 ypH) rfl) (yeS (ycc fa.fl_other (yY (i:=0) rfl oI yg.d yg.c) (z_v 4 yhh) rfl)))))
theorem ynx:FnOk P w K mg base CX0 (0+1) t.yfe t.yio ["self","slot","place"] (spI (yyJ K t) 2 5 ydq):=have fa:=T.fa;zin T.yiD.F ynq rfl (by decide) fun cdv Ar outer sh H E hr=>(ybO (ycc fa.fl_slot (yY (i:=0) rfl oI yg.d yg.c) (z_v 1 ydA) rfl) (yeS (ycc fa.fl_place (yY (i:=0) rfl oI yg.d yg.c) (z_v 2 yhj) rfl)))
theorem ypU:FnOk P w K mg base CX0 (0+1) t.yfZ t.yji ["self","place","slot"] (spI (yyJ K t) 2 6 ydZ):=have fa:=T.fa;zin T.yjp.F yoT rfl (by decide) fun cdv Ar outer sh H E hr=>(ybO (ycc fa.fl_place (yY (i:=0) rfl oI yg.d yg.c) (z_v 1 yhj) rfl) (yeS (ycc fa.fl_slot (yY (i:=0) rfl oI yg.d yg.c) (z_v 2 ydA) rfl)))
theorem yqB:FnOk P w K mg base CX0 (0+1) t.yhb t.ylk ["self","slot","parts","others"] (spI (yyJ K t) 3 7 yeH):=have fa:=T.fa;zin T.ylo.F yqv rfl (by decide) fun cdv Ar outer sh H E hr=>(ybO (ycc fa.fl_slot (yY (i:=0) rfl oI yg.d yg.c) (z_v 1 ydA) rfl) (ybO (ycc fa.fl_parts (yY (i:=0) rfl oI yg.d yg.c) (ycL (ydC ybk ycB ydz rfl T.z_list ydl (ya (z_v 2 yhi) yc rfl) rfl rfl)) rfl) (yeS (ycc fa.fl_others (yY (i:=0) rfl oI yg.d yg.c) (ycL (ydC ybk ycB ydz rfl T.z_list ydl (ya (z_v 3 ypI) yc rfl) rfl rfl)) rfl))))
theorem ylD:FnOk P w K mg base CX0 (0+1) t.ydS t.ygq ["self","parts","others"] (spI (yyJ K t) 2 8 ycE):=have fa:=T.fa;zin T.ygt.F ylg rfl (by decide) fun cdv Ar outer sh H E hr=>(ybO (ycc fa.fl_parts (yY (i:=0) rfl oI yg.d yg.c) (ycL (ydC ybk ycB ydz rfl T.z_list ydl (ya (z_v 1 yhi) yc rfl) rfl rfl)) rfl) (yeS (ycc fa.fl_others (yY (i:=0) rfl oI yg.d yg.c) (ycL (ydC ybk ycB ydz rfl T.z_list ydl (ya (z_v 2 ypI) yc rfl) rfl rfl)) rfl)))
theorem ypV:FnOk P w K mg base CX0 (0+1) t.ygb t.yjk ["self","parts","name","slot","others"] (spI (yyJ K t) 4 9 yeb):=have fa:=T.fa;zin T.yjr.F yoV rfl (by decide) fun cdv Ar outer sh H E hr=>(ybO (ycc fa.fl_parts (yY (i:=0) rfl oI yg.d yg.c) (ycL (ydC ybk ycB ydz rfl T.z_list ydl (ya (z_v 1 yhi) yc rfl) rfl rfl)) rfl) (ybO (ycc fa.fl_name (yY (i:=0) rfl oI yg.d yg.c) (z_v 2 yDf) rfl) (ybO (ycc fa.fl_slot (yY (i:=0) rfl oI yg.d yg.c) (z_v 3 ydA) rfl) (yeS (ycc fa.fl_others (yY (i:=0) rfl oI yg.d yg.c) (ycL (ydC ybk ycB ydz rfl T.z_list ydl (ya (z_v 4 ypI) yc rfl) rfl rfl)) rfl)))))
theorem ymv:FnOk P w K mg base CX0 (0+1) t.yeA t.yhv ["self","name","slot"] (spI (yyJ K t) 2 10 ycP):=have fa:=T.fa;zin T.yhB.F ymi rfl (by decide) fun cdv Ar outer sh H E hr=>(ybO (ycc fa.fl_name (yY (i:=0) rfl oI yg.d yg.c) (z_v 1 yDf) rfl) (yeS (ycc fa.fl_slot (yY (i:=0) rfl oI yg.d yg.c) (z_v 2 ydA) rfl)))
theorem ymw:FnOk P w K mg base CX0 (4+1) t.yex t.yhs ["self","boxes","slots"] (spI (yyJ K t) 2 1 ycO):=have fa:=T.fa;zin T.yhz.F ymg rfl (by decide) fun cdv Ar outer sh H E hr=>(ybO (yIK T.cf_Doer yJh rfl T.m_Doer (ynv T) ‹_› T.yiB.b (yY (i:=0) rfl oI yg.d yg.c) (ya (z_v 2 ynK) (ya (yeQ ybj yhl yfG rfl T.z_len yfr (ya (z_v 1 ysU) yc rfl) rfl rfl) yc rfl) rfl) rfl rfl rfl rfl) (yeS (ycc fa.fl_found (yY (i:=0) rfl oI yg.d yg.c) (ycL (ydC ybk ycB ydz rfl T.z_list ydl (ya (z_v 1 ysU) yc rfl) rfl rfl)) rfl)))
theorem ylE:‹(4+1,t.ydR,t.ygp,["self","part"],2,ycD)›:=have fa:=T.fa;zfn T.ygs.F ylf fun cdv Ar outer sh H E hr=>(yf (yN (ybL (yS (z_v 0 yg) (T.cl 1) T.ms_Doing_sees_at (ypS T) ‹_› T.yjn.b (ya (yW fa.fl_place (z_v 1 yo) rfl) yc rfl) rfl rfl rfl) (fun _=>rfl)) (yf (ybT (yS (z_v 0 yg) (T.cl 1) T.ms_Doing_take_seen (ymu T) ‹_› T.yhy.b (ya (yW fa.fl_slot (z_v 1 yo) rfl) (ya (yW fa.fl_place (z_v 1 yo) rfl) (ya (yW fa.fl_found (z_v 0 yg) rfl) yc rfl) rfl) rfl) rfl rfl rfl) rfl)) (yf (ybT (yS (z_v 0 yg) (T.cl 1) T.ms_Doing_take_own (ynw T) ‹_› T.yiC.b (ya (yW fa.fl_slot (z_v 1 yo) rfl) (ya (yW fa.fl_place (z_v 1 yo) rfl) yc rfl) rfl) rfl rfl rfl) rfl))))
theorem ykv:‹(5+1,t.ydw,t.yfA,["self","part"],2,ycr)›:=have fa:=T.fa;zfn T.yfC.F yjT fun cdv Ar outer sh H E hr=>(ye (yN (ybL (yeQ yz (ydm (K:=ckX _ _) fa.isa) yr rfl T.z_isinstance yp (ya (z_v 1 yo) (ya (ycK yCZ rfl T.m_Let) yc rfl) rfl) rfl rfl) (fun _=>rfl)) (yf (ybT (yS (z_v 0 yg) (T.cl 1) T.ms_Doing_hold (yeh T) ‹_› T.ydT.b (ya (yW fa.fl_slot (z_v 1 yo) rfl) (ya (yW fa.fl_number (z_v 1 yo) rfl) yc rfl) rfl) rfl rfl rfl) rfl)) yy) (ye (yN (ybL (yeQ yz (ydm (K:=ckX _ _) fa.isa) yr rfl T.z_isinstance yp (ya (z_v 1 yo) (ya (ycK ypD rfl T.m_Reckon) yc rfl) rfl) rfl rfl) (fun _=>rfl)) (yf (ybT (yS (z_v 0 yg) (T.cl 1) T.ms_Doing_do_reckon (ymt T) ‹_› T.yhx.b (ya (yW fa.fl_word (z_v 1 yo) rfl) (ya (yW fa.fl_slot (z_v 1 yo) rfl) (ya (yW fa.fl_one (z_v 1 yo) rfl) (ya (yW fa.fl_other (z_v 1 yo) rfl) yc rfl) rfl) rfl) rfl) rfl rfl rfl) rfl)) yy) (ye (yN (ybL (yeQ yz (ydm (K:=ckX _ _) fa.isa) yr rfl T.z_isinstance yp (ya (z_v 1 yo) (ya (ycK yxy rfl T.m_Take) yc rfl) rfl) rfl rfl) (fun _=>rfl)) (yf (ybT (yS (z_v 0 yg) (T.cl 1) T.ylr (ylE T) ‹_› T.ygs.b (ya (z_v 1 yo) yc rfl) rfl rfl rfl) rfl)) yy) (yf (yN (ybL (yeQ yz (ydm (K:=ckX _ _) fa.isa) yr rfl T.z_isinstance yp (ya (z_v 1 yo) (ya (ycK yDa rfl T.m_Put) yc rfl) rfl) rfl rfl) (fun _=>rfl)) (yf (ybT (yS (z_v 0 yg) (T.cl 1) T.ms_Doing_do_put (yqA T) ‹_› T.yln.b (ya (yW fa.fl_place (z_v 1 yo) rfl) (ya (yW fa.fl_slot (z_v 1 yo) rfl) yc rfl) rfl) rfl rfl rfl) rfl)) yy)))))
theorem yDi:∀ n,yPb P w K mg base t n
 | 0=>⟨ycH,ycH,ycH,ycH,ycH,ycH⟩
 | n+1=>by
  have fa:=T.fa
  have I:=yDi n
  have ycm:=I.yhC
  have yny:=I.ynu
  have yqC:=I.yqz
  have ylF:=I.ylz
  have ypW:=I.ypM
  have yfh:=I.yku
  exact ⟨zfn T.ybB.F ydP fun cdv Ar outer sh H E hr=>(ye (yjc PassesOwn.never rfl (yog (z_v 1 yhi)) (yeR (i:=2) ydP.nd rfl oI oI) (ye (yA (i:=3) ydP.nd rfl oI (yS (z_v 0 yg) (T.cl 1) T.ymq yny ‹_› T.yhA.b (ya (z_v 2 yo) yc rfl) rfl rfl rfl) rfl oI) (yf (yN (yG (yLj (yys hr)) yNu (z_v 3 ygv) (yoo (ss:=["done"]) ypC rfl T.m_DONE T.kt_DONE) (yD _)) (yf (yq (z_v 3 ygv))) yy))) (fun _=>rfl)) (yf (yq (yoo (ss:=["done"]) ypC rfl T.m_DONE T.kt_DONE)))),
   zfn T.yhA.F ymh fun cdv Ar outer sh H E hr=>(ye (yN (ybL (yeQ yz (ydm (K:=ckX _ _) fa.isa) yr rfl T.z_isinstance yp (ya (z_v 1 yo) (ya (ycK yCY rfl T.m_If) yc rfl) rfl) rfl rfl) (fun _=>rfl)) (yf (yq (yS (z_v 0 yg) (T.cl 1) T.ypB yqC ‹_› T.yjq.b (ya (z_v 1 yo) yc rfl) rfl rfl rfl))) yy) (ye (yN (ybL (yeQ yz (ydm (K:=ckX _ _) fa.isa) yr rfl T.z_isinstance yp (ya (z_v 1 yo) (ya (ycK yls rfl T.m_Either) yc rfl) rfl) rfl rfl) (fun _=>rfl)) (yf (yq (yS (z_v 0 yg) (T.cl 1) T.yks ylF ‹_› T.yfD.b (ya (z_v 1 yo) yc rfl) rfl rfl rfl))) yy) (ye (yN (ybL (yeQ yz (ydm (K:=ckX _ _) fa.isa) yr rfl T.z_isinstance yp (ya (z_v 1 yo) (ya (ycK yDb rfl T.m_Try) yc rfl) rfl) rfl rfl) (fun _=>rfl)) (yf (yq (yS (z_v 0 yg) (T.cl 1) T.yns ypW ‹_› T.yiE.b (ya (z_v 1 yo) yc rfl) rfl rfl rfl))) yy) (ye (yN (ybL (yeQ yz (ydm (K:=ckX _ _) fa.isa) yr rfl T.z_isinstance yp (ya (z_v 1 yo) (ya (ycK ysN rfl T.m_Throw) yc rfl) rfl) rfl rfl) (fun _=>rfl)) (yf (yq (yca (ya z_str (ya (yW fa.fl_name (z_v 1 yo) rfl) (ya (yS (z_v 0 yg) (T.cl 1) T.ms_Doing_held_in (yce T) ‹_› T.ybX.b (ya (yW fa.fl_slot (z_v 1 yo) rfl) yc rfl) rfl rfl rfl) yc rfl) rfl) rfl)))) yy) (ye (yN (ybL (yeQ yz (ydm (K:=ckX _ _) fa.isa) yr rfl T.z_isinstance yp (ya (z_v 1 yo) (ya (ycK yxA rfl T.m_Wait) yc rfl) rfl) rfl rfl) (fun _=>rfl)) (yf (yq (yoo (ss:=["waits"]) yyK rfl T.m_WAITS T.kt_WAITS))) yy) (ye (ybT (yS (z_v 0 yg) (T.cl 1) T.ykr (ykv T) ‹_› T.yfC.b (ya (z_v 1 yo) yc rfl) rfl rfl rfl) rfl) (yf (yq (yoo (ss:=["done"]) ypC rfl T.m_DONE T.kt_DONE))))))))),
   zfn T.yjq.F yoU fun cdv Ar outer sh H E hr=>(ye (yN (yG yJT yOe (yS (z_v 0 yg) (T.cl 1) T.ms_Doing_held_in (yce T) ‹_› T.ybX.b (ya (yW fa.fl_slot (z_v 1 yo) rfl) yc rfl) rfl rfl rfl) z_int (yD _)) (yf (yq (yS (z_v 0 yg) (T.cl 1) T.ybE ycm ‹_› T.ybB.b (ya (yW fa.fl_parts (z_v 1 yo) rfl) yc rfl) rfl rfl rfl))) yy) (yf (yq (yS (z_v 0 yg) (T.cl 1) T.ybE ycm ‹_› T.ybB.b (ya (yW fa.fl_others (z_v 1 yo) rfl) yc rfl) rfl rfl rfl)))),
   zfn T.yfD.F yfc fun cdv Ar outer sh H E hr=>(ye (yA (i:=2) yfc.nd rfl oI (yS (z_v 0 yg) (T.cl 1) T.yeE yfh ‹_› T.ycY.b (ya (yW fa.fl_parts (z_v 1 yo) rfl) yc rfl) rfl rfl rfl) rfl oI) (ye (yN (yG (yBP (yys hr)) yIp (z_v 2 ygv) (yoo (ss:=["waits"]) yyK rfl T.m_WAITS T.kt_WAITS) (yD _)) (yf (yq (yS (z_v 0 yg) (T.cl 1) T.ybE ycm ‹_› T.ybB.b (ya (yW fa.fl_others (z_v 1 yo) rfl) yc rfl) rfl rfl rfl))) yy) (yf (yq (z_v 2 ygv))))),
   zfn T.yiE.F yhp fun cdv Ar outer sh H E hr=>(ye (yA (i:=2) yhp.nd rfl oI (yS (z_v 0 yg) (T.cl 1) T.yeE yfh ‹_› T.ycY.b (ya (yW fa.fl_parts (z_v 1 yo) rfl) yc rfl) rfl rfl rfl) rfl oI) (ye (yN (yET (yua (yG ybz yek (ybr ix_tup yR (z_v 2 ygv) z_int nofun) z_str (yD _)) (yrL (yG ybz yek (ybr ix_tup yR (z_v 2 ygv) z_int nofun) (yW fa.fl_name (z_v 1 yo) rfl) (yD _))))) (ye (ybT (yS (z_v 0 yg) (T.cl 1) T.ms_Doing_hold (yeh T) ‹_› T.ydT.b (ya (yW fa.fl_slot (z_v 1 yo) rfl) (ya (ybr ix_tup yR (z_v 2 ygv) z_int nofun) yc rfl) rfl) rfl rfl rfl) rfl) (yf (yq (yS (z_v 0 yg) (T.cl 1) T.ybE ycm ‹_› T.ybB.b (ya (yW fa.fl_others (z_v 1 yo) rfl) yc rfl) rfl rfl rfl)))) yy) (yf (yq (z_v 2 ygv))))),
   zfn T.ycY.F ycG fun cdv Ar outer sh H E hr=>(ye (yA (i:=2) ycG.nd rfl oI (yeP (ydC ybk ycB ydz rfl T.z_list ydl (ya (yW fa.fl_held (z_v 0 yg) rfl) yc rfl) rfl rfl)) rfl oI) (ye (ybT (yiU (yW fa.fl_log (z_v 0 yg) rfl) (T.cl 0) T.yvs (yvD T) ‹_› T.ypu.b rfl) rfl) (ye (yA (i:=3) ycG.nd rfl oI (yS (z_v 0 yg) (T.cl 1) T.ybE ycm ‹_› T.ybB.b (ya (z_v 1 yhi) yc rfl) rfl rfl rfl) rfl oI) (ye (yN (yG (yBP (yys hr)) yIp (z_v 3 ygv) (yoo (ss:=["done"]) ypC rfl T.m_DONE T.kt_DONE) (yD _)) (yf (ybT (yiU (yW fa.fl_log (z_v 0 yg) rfl) (T.cl 0) T.ysM (ysX T) ‹_› T.ymX.b rfl) rfl)) (ye (ybT (yiU (yW fa.fl_log (z_v 0 yg) rfl) (T.cl 0) T.yxx (yxD T) ‹_› T.yrc.b rfl) rfl) (yf (yIB fa.fl_held (z_v 0 yg) (z_v 2 yDc) rfl)))) (yf (yq (z_v 3 ygv)))))))⟩
theorem yFG:‹(28+1,t.a_alone,t.d_alone,["deed","boxes","slots"],3,ysc)›:=have fa:=T.fa;zfn T.F_alone.F sc_alone fun cdv Ar outer sh H E hr=>(ye (yA (i:=3) sc_alone.nd rfl oI (yeP (ykO T.mk_Doing (ymw T) ‹_› yFA rfl T.m_Doing T.yhz.b (ya (z_v 1 ysU) (ya (z_v 2 ynK) yc rfl) rfl) rfl rfl)) rfl oI) (ye (yA (i:=4) sc_alone.nd rfl oI (yS (z_v 3 ylw) (T.cl 1) T.ybE (yDi T 20).yhC ‹_› T.ybB.b (ya (z_v 0 yDd) yc rfl) rfl rfl rfl) rfl oI) (ye (yN (yG (yBP (yys hr)) yIp (z_v 4 ygv) (yoo (ss:=["done"]) ypC rfl T.m_DONE T.kt_DONE) (yD _)) (yf (yq (yca (ya (z_v 4 ygv) (ya (yiU (yW fa.fl_log (z_v 3 ylw) rfl) (T.cl 0) T.yri (yrm T) ‹_› T.ypv.b rfl) (ya (yiU (yW fa.fl_log (z_v 3 ylw) rfl) (T.cl 0) T.yvt (yvE T) ‹_› T.ypw.b rfl) (ya (yeP (ydC ybk ycB ydz rfl T.z_list ydl (ya (yW fa.fl_held (z_v 3 ylw) rfl) yc rfl) rfl rfl)) yc rfl) rfl) rfl) rfl)))) yy) (yf (yq (yca (ya (z_v 4 ygv) (ya (yiU (yW fa.fl_log (z_v 3 ylw) rfl) (T.cl 0) T.yri (yrm T) ‹_› T.ypv.b rfl) (ya (yeP (ycp yc)) (ya (yeP (ydC ybk ycB ydz rfl T.z_list ydl (ya (z_v 2 ynK) yc rfl) rfl rfl)) yc rfl) rfl) rfl) rfl)))))))
theorem yvF:‹(0+1,t.yjY,t.ype,["self"],1,yot)›:=zfn T.ypx.F yuW fun cdv Ar outer sh H E hr=>(yf (yq z_int))
theorem yxE:‹(0+1,t.ymk,t.yqX,["self"],1,yqP)›:=zfn T.yrd.F yxo fun cdv Ar outer sh H E hr=>(yf (yq z_int))
theorem yqD:‹(0+1,t.yhc,t.yll,["self"],1,ykS)›:=zfn T.ylp.F yqw fun cdv Ar outer sh H E hr=>(yf (yq z_int))
theorem yvG:‹(0+1,t.yjZ,t.ypf,["self"],1,you)›:=zfn T.ypy.F yuX fun cdv Ar outer sh H E hr=>(yf (yq z_int))
theorem yxF:‹(0+1,t.yml,t.yqY,["self"],1,yqQ)›:=zfn T.yre.F yxp fun cdv Ar outer sh H E hr=>(yf (yq z_int))
theorem ysY:‹(0+1,t.yiq,t.ymM,["self"],1,ymD)›:=zfn T.ymZ.F ysI fun cdv Ar outer sh H E hr=>(yf (yq z_int))
theorem yvH:‹(0+1,t.yka,t.ypg,["self"],1,yov)›:=zfn T.ypz.F yuY fun cdv Ar outer sh H E hr=>(yf (yq z_int))
theorem yxG:∀ n,yPc P w K mg base t n
 | 0=>⟨ycH,ycH,ycH,ycH,fun c=>⟨T.cl c,.inl fun _ _ _ _ h=>ykt h⟩⟩
 | n+1=>by
  have fa:=T.fa
  have I:=yxG n
  have ydU:=I.ypN
  have yLO:=I.yvA
  have yFH:=I.ylA
  have yJv:=I.yrk
  have G_long:=I.m_long
  exact ⟨zfn T.ybh.F yuZ fun cdv Ar outer sh H E hr=>(yf (yq (yeQ (ynA rfl) yEr yyN rfl T.z_sum yxS (ya (ycL (yyp [] [] rfl (yog (z_v 0 yhi)) True.intro (fun _ _ _ _ _ _=>(yBK (z_v 0 yo) G_long ‹_› rfl)) (by rfl') rfl (by rfl') (by rfl') (by rfl') rfl (fun _=>rfl))) yc rfl) rfl rfl))),
   zfn T.yvj.F yzP fun cdv Ar outer sh H E hr=>(yf (yq (ybo ybF ycR (ybo ybF ycR z_int (yO ydU ‹_› ycA rfl T.ycZ T.ybh.kp T.ybh.b (ya (yW fa.fl_parts (z_v 0 yg) rfl) yc rfl) rfl rfl)) (yO ydU ‹_› ycA rfl T.ycZ T.ybh.kp T.ybh.b (ya (yW fa.fl_others (z_v 0 yg) rfl) yc rfl) rfl rfl)))),
   zfn T.ylq.F yqx fun cdv Ar outer sh H E hr=>(yf (yq (ybo ybF ycR (ybo ybF ycR z_int (yO ydU ‹_› ycA rfl T.ycZ T.ybh.kp T.ybh.b (ya (yW fa.fl_parts (z_v 0 yg) rfl) yc rfl) rfl rfl)) (yO ydU ‹_› ycA rfl T.ycZ T.ybh.kp T.ybh.b (ya (yW fa.fl_others (z_v 0 yg) rfl) yc rfl) rfl rfl)))),
   zfn T.yrf.F yxq fun cdv Ar outer sh H E hr=>(yf (yq (ybo ybF ycR (ybo ybF ycR z_int (yO ydU ‹_› ycA rfl T.ycZ T.ybh.kp T.ybh.b (ya (yW fa.fl_parts (z_v 0 yg) rfl) yc rfl) rfl rfl)) (yO ydU ‹_› ycA rfl T.ycZ T.ybh.kp T.ybh.b (ya (yW fa.fl_others (z_v 0 yg) rfl) yc rfl) rfl rfl)))),
   fun c=>⟨T.cl c,match c with|0=>.inl fun _ _ _ _ h=>ykt h|1=>.inl fun _ _ _ _ h=>ykt h|2=>.inl fun _ _ _ _ h=>ykt h|3=>.inr ⟨_,_,_,T.me_Let_long,(yxE T).mono (by omega),T.yrd.b⟩|4=>.inr ⟨_,_,_,T.me_Reckon_long,(yqD T).mono (by omega),T.ylp.b⟩|5=>.inr ⟨_,_,_,T.me_Take_long,(yvG T).mono (by omega),T.ypy.b⟩|6=>.inr ⟨_,_,_,T.me_Put_long,(yxF T).mono (by omega),T.yre.b⟩|7=>.inr ⟨_,_,_,T.me_If_long,I.yvA.mono (by omega),T.yvj.b⟩|8=>.inr ⟨_,_,_,T.me_Either_long,I.ylA.mono (by omega),T.ylq.b⟩|9=>.inr ⟨_,_,_,T.me_Try_long,I.yrk.mono (by omega),T.yrf.b⟩|10=>.inr ⟨_,_,_,T.me_Throw_long,(ysY T).mono (by omega),T.ymZ.b⟩|11=>.inr ⟨_,_,_,T.me_Wait_long,(yvH T).mono (by omega),T.ypz.b⟩|12=>.inr ⟨_,_,_,T.me_Part_long,(yvF T).mono (by omega),T.ypx.b⟩|c+13=>.inl fun _ _ _ _ h=>ykt h⟩⟩
theorem ysZ:‹(0+1,t.yir,t.ymN,["part"],1,ymE)›:=have fa:=T.fa;zfn T.yiF.F ysJ fun cdv Ar outer sh H E hr=>(ye (yN (ybL (yeQ yz (ydm (K:=ckX _ _) fa.isa) yr rfl T.z_isinstance yp (ya (z_v 0 yo) (ya (ycK yCZ rfl T.m_Let) yc rfl) rfl) rfl rfl) (fun _=>rfl)) (yf (yq (ycL (ycp (ya (yca (ya z_str (ya (yW fa.fl_slot (z_v 0 yo) rfl) (ya (yW fa.fl_number (z_v 0 yo) rfl) yc rfl) rfl) rfl)) yc rfl))))) yy) (ye (yN (ybL (yeQ yz (ydm (K:=ckX _ _) fa.isa) yr rfl T.z_isinstance yp (ya (z_v 0 yo) (ya (ycK ypD rfl T.m_Reckon) yc rfl) rfl) rfl rfl) (fun _=>rfl)) (yf (yq (ycL (ycp (ya (yca (ya (yW fa.fl_word (z_v 0 yo) rfl) (ya (yW fa.fl_slot (z_v 0 yo) rfl) (ya (yW fa.fl_one (z_v 0 yo) rfl) (ya (yW fa.fl_other (z_v 0 yo) rfl) yc rfl) rfl) rfl) rfl)) yc rfl))))) yy) (ye (yN (ybL (yeQ yz (ydm (K:=ckX _ _) fa.isa) yr rfl T.z_isinstance yp (ya (z_v 0 yo) (ya (ycK yxy rfl T.m_Take) yc rfl) rfl) rfl rfl) (fun _=>rfl)) (yf (yq (ycL (ycp (ya (yca (ya z_str (ya (yW fa.fl_slot (z_v 0 yo) rfl) (ya (yW fa.fl_place (z_v 0 yo) rfl) yc rfl) rfl) rfl)) yc rfl))))) yy) (ye (yN (ybL (yeQ yz (ydm (K:=ckX _ _) fa.isa) yr rfl T.z_isinstance yp (ya (z_v 0 yo) (ya (ycK yDa rfl T.m_Put) yc rfl) rfl) rfl rfl) (fun _=>rfl)) (yf (yq (ycL (ycp (ya (yca (ya z_str (ya (yW fa.fl_place (z_v 0 yo) rfl) (ya (yW fa.fl_slot (z_v 0 yo) rfl) yc rfl) rfl) rfl)) yc rfl))))) yy) (ye (yN (ybL (yeQ yz (ydm (K:=ckX _ _) fa.isa) yr rfl T.z_isinstance yp (ya (z_v 0 yo) (ya (ycK ysN rfl T.m_Throw) yc rfl) rfl) rfl rfl) (fun _=>rfl)) (yf (yq (ycL (ycp (ya (yca (ya z_str (ya (yW fa.fl_name (z_v 0 yo) rfl) (ya (yW fa.fl_slot (z_v 0 yo) rfl) yc rfl) rfl) rfl)) yc rfl))))) yy) (ye (yN (ybL (yeQ yz (ydm (K:=ckX _ _) fa.isa) yr rfl T.z_isinstance yp (ya (z_v 0 yo) (ya (ycK yxA rfl T.m_Wait) yc rfl) rfl) rfl rfl) (fun _=>rfl)) (yf (yq (ycL (ycp (ya (yca (ya z_str yc rfl)) yc rfl))))) yy) (yf (yq (ycL (ycp yc))))))))))
theorem yvI:‹(0+1,t.ykc,t.ypj,["part","second"],2,yci)›:=have fa:=T.fa;zfn T.ykk.F yva fun cdv Ar outer sh H E hr=>(ye (yN (ybL (yeQ yz (ydm (K:=ckX _ _) fa.isa) yr rfl T.z_isinstance yp (ya (z_v 0 yo) (ya (ycK yCY rfl T.m_If) yc rfl) rfl) rfl rfl) (fun _=>rfl)) (yf (yq (yca (ya z_str (ya (yW fa.fl_slot (z_v 0 yo) rfl) (ya (z_v 1 yiR) yc rfl) rfl) rfl)))) yy) (ye (yN (ybL (yeQ yz (ydm (K:=ckX _ _) fa.isa) yr rfl T.z_isinstance yp (ya (z_v 0 yo) (ya (ycK yls rfl T.m_Either) yc rfl) rfl) rfl rfl) (fun _=>rfl)) (yf (yq (yca (ya z_str (ya (z_v 1 yiR) yc rfl) rfl)))) yy) (yf (yq (yca (ya z_str (ya (yW fa.fl_name (z_v 0 yo) rfl) (ya (yW fa.fl_slot (z_v 0 yo) rfl) (ya (z_v 1 yiR) yc rfl) rfl) rfl) rfl))))))
theorem ypX:‹(0+1,t.ygc,t.yjl,["part","behind"],2,ycn)›:=have fa:=T.fa;zfn T.ygd.F yoW fun cdv Ar outer sh H E hr=>(ye (yN (ybL (yeQ yz (ydm (K:=ckX _ _) fa.isa) yr rfl T.z_isinstance yp (ya (z_v 0 yo) (ya (ycK yCY rfl T.m_If) yc rfl) rfl) rfl rfl) (fun _=>rfl)) (yf (yq (ycL (ycp (ya (yca (ya z_str (ya (z_v 1 ylv) yc rfl) rfl)) yc rfl))))) yy) (yf (yq (ycL (ycp (ya (yca (ya z_str yc rfl)) (ya (yca (ya z_str (ya (z_v 1 ylv) yc rfl) rfl)) yc rfl) rfl))))))
theorem yDj:∀ n,yPd P w K mg base t n
 | 0=>⟨ycH,ycH,ycH⟩
 | n+1=>by
  have fa:=T.fa
  have I:=yDj n
  have ypY:=I.ypO
  have yxH:=I.yxC
  have yvJ:=I.yvB
  exact ⟨zfn T.yda.F yii fun cdv Ar outer sh H E hr=>(ye (ylR (i:=2) yii.nd rfl oI (ycp yc) rfl oI) (ye (yjc PassesOwn.never rfl (yog (z_v 0 yhi)) (yeR (i:=3) yii.nd rfl oI oI) (yf (yLg (yY (i:=2) rfl oI ypJ.d ypJ.c) (yO yxH ‹_› yvz rfl T.yxu T.ykm.kp T.ykm.b (ya (z_v 3 yo) (ya (ybo ybF ycR (z_v 1 ynJ) (yLh (yY (i:=2) rfl oI ypJ.d ypJ.c) yfG rfl T.z_len yfr rfl rfl)) yc rfl) rfl) rfl rfl) rfl rfl rfl rfl rfl rfl)) (fun _=>rfl)) (ylS 2 (yf (yq (z_v 2 ypJ)))))),
   zfn T.ykm.F yvb fun cdv Ar outer sh H E hr=>(ye (yN (yET (yzr (ybL (yeQ yz (ydm (K:=ckX _ _) fa.isa) yr rfl T.z_isinstance yp (ya (z_v 0 yo) (ya (ycK yCY rfl T.m_If) yc rfl) rfl) rfl rfl) (fun _=>rfl)) (yzr (ybL (yeQ yz (ydm (K:=ckX _ _) fa.isa) yr rfl T.z_isinstance yp (ya (z_v 0 yo) (ya (ycK yls rfl T.m_Either) yc rfl) rfl) rfl rfl) (fun _=>rfl)) (yub (ybL (yeQ yz (ydm (K:=ckX _ _) fa.isa) yr rfl T.z_isinstance yp (ya (z_v 0 yo) (ya (ycK yDb rfl T.m_Try) yc rfl) rfl) rfl rfl) (fun _=>rfl)))))) (yf (yq (yO yvJ ‹_› ysW rfl T.yvl T.yiG.kp T.yiG.b (ya (z_v 0 yo) (ya (z_v 1 ynJ) yc rfl) rfl) rfl rfl))) yy) (yf (yq (yO (ysZ T) ‹_› ysV rfl T.yvk T.yiF.kp T.yiF.b (ya (z_v 0 yo) yc rfl) rfl rfl)))),
   zfn T.yiG.F ydu fun cdv Ar outer sh H E hr=>(ye (yA (i:=2) ydu.nd rfl oI (ybo ybF ycR (z_v 1 ynJ) (yBK (z_v 0 yo) (yxG T 20).m_long ‹_› rfl)) rfl oI) (ye (yA (i:=3) ydu.nd rfl oI (ybo yqE yze (z_v 2 ylv) (yO (yxG T 20).ypN ‹_› ycA rfl T.ycZ T.ybh.kp T.ybh.b (ya (yW fa.fl_others (z_v 0 yo) rfl) yc rfl) rfl rfl)) rfl oI) (ye (yA (i:=4) ydu.nd rfl oI (yO ypY ‹_› yiQ rfl T.ykl T.yda.kp T.yda.b (ya (yW fa.fl_parts (z_v 0 yo) rfl) (ya (ybo ybF ycR (z_v 1 ynJ) z_int) yc rfl) rfl) rfl rfl) rfl oI) (ye (yA (i:=5) ydu.nd rfl oI (yO ypY ‹_› yiQ rfl T.ykl T.yda.kp T.yda.b (ya (yW fa.fl_others (z_v 0 yo) rfl) (ya (z_v 3 yiR) yc rfl) rfl) rfl rfl) rfl oI) (yf (yq (ycL (ytY ymy ytM (ycL (ytY ymy ytM (ycL (ytY ymy ytM (ycL (ycp (ya (yO (yvI T) ‹_› yvy rfl T.yxt T.ykk.kp T.ykk.b (ya (z_v 0 yo) (ya (z_v 3 yiR) yc rfl) rfl) rfl rfl) yc rfl))) (z_v 4 yFD))) (yO (ypX T) ‹_› ypK rfl T.yqy T.ygd.kp T.ygd.b (ya (z_v 0 yo) (ya (z_v 2 ylv) yc rfl) rfl) rfl rfl))) (z_v 5 yFE)))))))))⟩
theorem yzW:‹(42+1,t.ypm,t.yvh,["deed"],1,ykU)›:=zfn T.ypA.F yzQ fun cdv Ar outer sh H E hr=>(yf (yq (ycL (ytY ymy ytM (yO (yDj T 20).ypO ‹_› yiQ rfl T.ykl T.yda.kp T.yda.b (ya (z_v 0 yDd) (ya z_int yc rfl) rfl) rfl rfl) (ycL (ycp (ya (yca (ya z_str yc rfl)) yc rfl)))))))
theorem yeL:‹(0+1,t.yit,t.ymP,["_law_cell"],1,ycf)›:=zfn T.ybR.F ysK fun cdv Ar outer sh H E hr=>(yf (yq (ybo yZ ybS (ybo ynN ywt (z_v 0 ybD) z_int) z_int)))
theorem yiS:‹(0+1,t.ykf,t.ypn,["_law_cell"],1,ydI)›:=zfn T.ydb.F yvc fun cdv Ar outer sh H E hr=>(yf (yq (ybo yZ ybS (ybo ynN ywt (z_v 0 ybD) z_int) (ybo yxN yEo z_int z_int))))
theorem yDk:∀ n,yPe P w K mg base t n
 | 0=>⟨ycH⟩
 | n+1=>by
  have fa:=T.fa
  have I:=yDk n
  have yvK:=I.ynh
  exact ⟨zfn T.yeg.F ylh fun cdv Ar outer sh H E hr=>(ye (yN (ybL (yeQ yz (ydm (K:=ckX _ _) fa.isa) yr rfl T.z_isinstance yp (ya (z_v 1 ybY) (ya (ytX yyL rfl T.z_int yxT) yc rfl) rfl) rfl rfl) (fun _=>rfl)) (yf (yq (yER (yeQ yz (ydm (K:=ckX _ _) fa.isa) yr rfl T.z_isinstance yp (ya (z_v 0 ybq) (ya (ytX yyL rfl T.z_int yxT) yc rfl) rfl) rfl rfl) (yER (yNy (yeQ yz (ydm (K:=ckX _ _) fa.isa) yr rfl T.z_isinstance yp (ya (z_v 0 ybq) (ya (ytX yJi rfl T.z_bool yHt) yc rfl) rfl) rfl rfl)) (yIv (ywF ybz yek (z_v 0 ybq) (z_v 1 ybY) (yD _))))))) yy) (ye (yN (ybL (yeQ yz (ydm (K:=ckX _ _) fa.isa) yr rfl T.z_isinstance yp (ya (z_v 1 ybY) (ya (ytX yGR rfl T.z_str yFX) yc rfl) rfl) rfl rfl) (fun _=>rfl)) (yf (yq (yER (yeQ yz (ydm (K:=ckX _ _) fa.isa) yr rfl T.z_isinstance yp (ya (z_v 0 ybq) (ya (ytX yGR rfl T.z_str yFX) yc rfl) rfl) rfl rfl) (yIv (ywF ybz yek (z_v 0 ybq) (z_v 1 ybY) (yD _)))))) yy) (ye (yN (ybL (yeQ yz (ydm (K:=ckX _ _) fa.isa) yr rfl T.z_isinstance yp (ya (z_v 1 ybY) (ya (ytX yyO rfl T.z_tuple yxU) yc rfl) rfl) rfl rfl) (fun _=>rfl)) (yf (yN (ytZ (ybL (yeQ yz (ydm (K:=ckX _ _) fa.isa) yr rfl T.z_isinstance yp (ya (z_v 0 ybq) (ya (ytX yyO rfl T.z_tuple yxU) yc rfl) rfl) rfl rfl) (fun _=>rfl))) (yf (yq yIu)) yy)) (yf (yN (ytZ (ybL (yeQ yz (ydm (K:=ckX _ _) fa.isa) yr rfl T.z_isinstance yp (ya (z_v 0 ybq) (ya (ytX ydz rfl T.z_list ydl) yc rfl) rfl) rfl rfl) (fun _=>rfl))) (yf (yq yIu)) yy))) (ye (yN (yG yJT yOe (yeQ ybj yhl yfG rfl T.z_len yfr (ya (z_v 0 ybq) yc rfl) rfl rfl) (yeQ ybj yhl yfG rfl T.z_len yfr (ya (z_v 1 ybY) yc rfl) rfl rfl) (yD _)) (yf (yq yIu)) yy) (ye (yjc PassesOwn.never rfl (ylQ rfl T.z_range (ya (yeQ ybj yhl yfG rfl T.z_len yfr (ya (z_v 1 ybY) yc rfl) rfl rfl) yc rfl) rfl) (yeR (i:=2) ylh.nd rfl oI oI) (yf (yN (ytZ (ybL (yO yvK ‹_› ylt rfl T.yna T.yeg.kp T.yeg.b (ya (ybr yFR yKV (z_v 0 ybq) (z_v 2 yT) nofun) (ya (ybr yFR yKV (z_v 1 ybY) (z_v 2 yT) nofun) yc rfl) rfl) rfl rfl) (fun _=>rfl))) (yf (yq yIu)) yy)) (fun _=>rfl)) (yf (yq yIu)))))))⟩
theorem yta:‹(1+1,t.yiv,t.ymR,["_law_cell"],1,yfu)›:=zfn T.yiH.F ybc fun cdv Ar outer sh H E hr=>(ye (yA (i:=1) ybc.nd rfl oI z_str rfl oI) (ye (yA (i:=2) ybc.nd rfl oI (yO (yeL T) ‹_› yeK rfl T.yfE T.ybR.kp T.ybR.b (ya (z_v 0 ybD) yc rfl) rfl rfl) rfl oI) (ye (yA (i:=3) ybc.nd rfl oI (ybo ybF ycR z_int (ybo yZ ybS (z_v 2 yi) z_int)) rfl oI) (ye (yA (i:=4) ybc.nd rfl oI (ybo yZ ybS (ybo ybf ycS (z_v 2 yi) z_int) (z_v 3 ynf)) rfl oI) (ye (ylR (i:=5) ybc.nd rfl oI (ycp yc) rfl oI) (ye (yjc PassesOwn.never rfl (ylQ rfl T.z_range (ya z_int yc rfl) rfl) (yeR (i:=6) ybc.nd rfl oI oI) (ye (yA (i:=7) ybc.nd rfl oI z_str rfl oI) (ye (yjc PassesOwn.never rfl (ylQ rfl T.z_range (ya (z_v 3 ynf) yc rfl) rfl) (yeR (i:=8) ybc.nd rfl oI oI) (ye (yA (i:=9) ybc.nd rfl oI (ybo ybF ycR (ybo ybf ycS (ybo ybf ycS (z_v 2 yi) z_int) (ybo ybF ycR (ybo ynN ywt (z_v 8 yT) (z_v 8 yT)) z_int)) (z_v 8 yT)) rfl oI) (ye (yN (yG ybz yek (z_v 8 yT) (z_v 4 ybm) (yD _)) (yf (yA (i:=9) ybc.nd rfl oI (ybo ybF ycR (z_v 9 yfF) (z_v 6 yvx)) rfl oI)) yy) (yf (yA (i:=7) ybc.nd rfl oI (ybo yyR yKu (z_v 7 ynd) (ybr yky ytL (z_v 1 ybK) (ybo yZ ybS (z_v 9 yfF) z_int) nofun)) rfl oI)))) (fun _=>rfl)) (yf (ygh (yY (i:=5) rfl oI yM.d yM.c) (z_v 7 ynd) rfl rfl rfl rfl rfl rfl)))) (fun _=>rfl)) (ylS 5 (yf (yq (z_v 5 yM))))))))))
theorem ytb:‹(1+1,t.yiw,t.ymS,["_law_mixed_here","_law_cell"],2,yfv)›:=zfn T.yiI.F ybp fun cdv Ar outer sh H E hr=>(ye (yA (i:=2) ybp.nd rfl oI (yON yKe yMG z_str yEU (yel (ybr ix_list ydB (ycL (ycp (ya z_int (ya z_int (ya z_int yc rfl) rfl) rfl))) (ybo yZ ybS (z_v 0 yi) z_int) nofun))) rfl oI) (ye (yA (i:=3) ybp.nd rfl oI (yeQ ytp yKv yfG rfl T.z_len yfr (ya (z_v 2 ybK) yc rfl) rfl rfl) rfl oI) (ye (yA (i:=4) ybp.nd rfl oI (ybo ybf ycS (z_v 0 yi) z_int) rfl oI) (ye (yA (i:=5) ybp.nd rfl oI (ybr yky ytL (z_v 2 ybK) (ybo yZ ybS (z_v 4 ycy) (z_v 3 ybx)) nofun) rfl oI) (ye (yA (i:=6) ybp.nd rfl oI (ybr yky ytL (z_v 2 ybK) (ybo yZ ybS (ybo ybf ycS (z_v 4 ycy) (z_v 3 ybx)) (z_v 3 ybx)) nofun) rfl oI) (ye (yA (i:=7) ybp.nd rfl oI (ybr yky ytL (z_v 2 ybK) (ybo yZ ybS (ybo ybf ycS (ybo ybf ycS (z_v 4 ycy) (z_v 3 ybx)) (z_v 3 ybx)) (z_v 3 ybx)) nofun) rfl oI) (ye (yA (i:=8) ybp.nd rfl oI (ybo yZ ybS (ybo ybf ycS (z_v 0 yi) z_int) z_int) rfl oI) (ye (yN (yG ybz yek (z_v 8 ycz) z_int (yD _)) (yf (yq (ycL (ycp (ya (yca (ya z_str (ya (z_v 5 yQ) (ya (yO (yiS T) ‹_› yiP rfl T.ykn T.ydb.kp T.ydb.b (ya (z_v 1 ybD) yc rfl) rfl rfl) yc rfl) rfl) rfl)) yc rfl))))) yy) (ye (yN (yG yqc yDq (z_v 8 ycz) z_int (yD _)) (yf (yq (ycL (ycp (ya (yca (ya z_str (ya (z_v 5 yQ) (ya (ybo yZ ybS (ybo ybf ycS (z_v 4 ycy) z_int) z_int) yc rfl) rfl) rfl)) yc rfl))))) yy) (ye (yN (yG yqc yDq (z_v 8 ycz) z_int (yD _)) (ye (yA (i:=9) ybp.nd rfl oI (ybr ix_list ydB (ycL (ycp (ya z_str (ya z_str (ya z_str (ya z_str (ya z_str yc rfl) rfl) rfl) rfl) rfl))) (ybo yZ ybS (ybo ybf ycS (z_v 4 ycy) z_int) z_int) nofun) rfl oI) (yf (yq (ycL (ycp (ya (yca (ya z_str (ya (z_v 9 ydg) (ya (z_v 5 yQ) (ya (z_v 6 yJ) (ya (z_v 7 ylu) yc rfl) rfl) rfl) rfl) rfl)) yc rfl)))))) yy) (ye (yN (yG yqc yDq (z_v 8 ycz) z_int (yD _)) (yf (yq (ycL (ycp (ya (yca (ya z_str (ya (z_v 5 yQ) (ya (z_v 6 yJ) yc rfl) rfl) rfl)) yc rfl))))) yy) (ye (yN (yG yqc yDq (z_v 8 ycz) z_int (yD _)) (yf (yq (ycL (ycp (ya (yca (ya z_str (ya (z_v 5 yQ) (ya (z_v 6 yJ) yc rfl) rfl) rfl)) yc rfl))))) yy) (ye (yA (i:=9) ybp.nd rfl oI (ybr ix_list ydB (ycL (ycp (ya z_str (ya z_str (ya z_str yc rfl) rfl) rfl))) (ybo yZ ybS (ybo ybf ycS (z_v 4 ycy) z_int) z_int) nofun) rfl oI) (ye (yA (i:=10) ybp.nd rfl oI (ycL (ycp (ya (yca (ya z_str (ya (z_v 5 yQ) (ya (ybo yZ ybS (ybo ybf ycS (z_v 4 ycy) z_int) z_int) yc rfl) rfl) rfl)) (ya (yca (ya z_str (ya (z_v 6 yJ) (ya (z_v 5 yQ) yc rfl) rfl) rfl)) yc rfl) rfl))) rfl oI) (yf (yq (ycL (ytY ymy ytM (z_v 10 ybn) (ycL (ycp (ya (yca (ya z_str (ya (z_v 9 ydg) (ya (z_v 6 yJ) (ya (z_v 6 yJ) (ya (z_v 7 ylu) yc rfl) rfl) rfl) rfl) rfl)) (ya (yca (ya z_str (ya (z_v 5 yQ) (ya (z_v 6 yJ) yc rfl) rfl) rfl)) yc rfl) rfl)))))))))))))))))))))
theorem ytc:‹(0+1,t.yix,t.ymT,["_law_mixed_here","_law_one","_law_other","_law_names_here"],4,yfw)›:=zfn T.yiJ.F ybQ fun cdv Ar outer sh H E hr=>(ye (yA (i:=4) ybQ.nd rfl oI z_str rfl oI) (ye (yA (i:=5) ybQ.nd rfl oI (ybr yky ytL (z_v 4 ybK) (ybo yZ ybS (ybo ybf ycS (z_v 0 yi) z_int) z_int) nofun) rfl oI) (ye (yA (i:=6) ybQ.nd rfl oI (ybo yZ ybS (z_v 0 yi) z_int) rfl oI) (ye (yN (yG ybz yek (z_v 6 ycz) z_int (yD _)) (yf (yq (yca (ya z_str (ya (z_v 5 yiN) (ya (z_v 1 yQ) (ya (z_v 2 yJ) yc rfl) rfl) rfl) rfl)))) yy) (ye (yA (i:=7) ybQ.nd rfl oI (yca (ya z_str yc rfl)) rfl oI) (ye (yN (yG ybz yek (z_v 6 ycz) z_int (yD _)) (yf (yA (i:=7) ybQ.nd rfl oI (yca (ya z_str (ya (ybr ix_list ydB (z_v 3 yM) (ybo yZ ybS (ybo ybf ycS (z_v 0 yi) z_int) z_int) nofun) (ya (z_v 5 yiN) yc rfl) rfl) rfl)) rfl oI)) yy) (ye (yN (yG ybz yek (ybo yZ ybS (ybo ybf ycS (z_v 0 yi) z_int) z_int) z_int (yD _)) (yf (yA (i:=1) ybQ.nd rfl oI (ycL (ytY ymy ytM (z_v 1 yQ) (ycL (ycp (ya (z_v 7 yng) yc rfl))))) rfl oI)) yy) (ye (yN (yG ybz yek (ybo yZ ybS (ybo ybf ycS (z_v 0 yi) z_int) z_int) z_int (yD _)) (yf (yA (i:=1) ybQ.nd rfl oI (ycL (ytY ymy ytM (z_v 1 yQ) (ycL (ycp (ya (yca (ya z_str (ya (z_v 5 yiN) (ya (ycL (ycp (ya (z_v 7 yng) yc rfl))) (ya (ycL (ycp yc)) yc rfl) rfl) rfl) rfl)) yc rfl))))) rfl oI)) yy) (ye (yN (yG ybz yek (z_v 6 ycz) z_int (yD _)) (yf (yq (yca (ya z_str (ya (z_v 1 yQ) (ya (z_v 2 yJ) yc rfl) rfl) rfl)))) yy) (yf (yq (yca (ya z_str (ya (z_v 1 yQ) (ya (ybr ix_list ydB (z_v 3 yM) (ybo yZ ybS (ybo ybf ycS (z_v 0 yi) z_int) z_int) nofun) (ya (ybr yky ytL (z_v 4 ybK) (ybo yZ ybS (ybo ybf ycS (z_v 0 yi) z_int) z_int) nofun) (ya (z_v 2 yJ) yc rfl) rfl) rfl) rfl) rfl)))))))))))))
theorem yDl:∀ n,yPf P w K mg base t n
 | 0=>⟨ycH⟩
 | n+1=>by
  have fa:=T.fa
  have I:=yDl n
  have ypZ:=I.ypP
  exact ⟨zfn T.ydc.F ybl fun cdv Ar outer sh H E hr=>(ye (ylR (i:=3) ybl.nd rfl oI (ycp yc) rfl oI) (ye (yA (i:=4) ybl.nd rfl oI z_int rfl oI) (ye (yyq 1000 PassesOwn.never (yG yqc yDq (z_v 4 ybm) (yeQ ybj yhl yfG rfl T.z_len yfr (ya (z_v 0 ycj) yc rfl) rfl rfl) (yD _)) (ye (yA (i:=5) ybl.nd rfl oI (ybr ix_list ydB (z_v 0 ycj) (z_v 4 ybm) nofun) rfl oI) (ye (yA (i:=6) ybl.nd rfl oI (yO (yeL T) ‹_› yeK rfl T.yfE T.ybR.kp T.ybR.b (ya (z_v 5 ybD) yc rfl) rfl rfl) rfl oI) (ye (yA (i:=4) ybl.nd rfl oI (ybo ybF ycR (z_v 4 ybm) z_int) rfl oI) (yf (yN (yET (yzr (yG ybz yek (z_v 1 yhe) z_int (yD _)) (yub (yG yqc yDq (ybo yZ ybS (z_v 6 yi) z_int) z_int (yD _))))) (ylS 3 (yf (ylR (i:=3) ybl.nd rfl oI (ytY ymy ytM (z_v 3 ybn) (yO (ytb T) ‹_› ysQ rfl T.yvn T.yiI.kp T.yiI.b (ya (ybo ybf ycS (z_v 6 yi) z_int) (ya (z_v 5 ybD) yc rfl) rfl) rfl rfl)) rfl oI))) (yf (yN (yG ybz yek (ybo yZ ybS (z_v 6 yi) z_int) z_int (yD _)) (ye (yA (i:=7) ybl.nd rfl oI (ycL (ycp (ya (yca (ya z_str yc rfl)) (ya (yca (ya z_str (ya (ybr ix_list ydB (z_v 2 yM) (ybo yZ ybS (ybo ybf ycS (z_v 6 yi) z_int) z_int) nofun) (ya (ybr yky ytL z_str (ybo yZ ybS (ybo ybf ycS (z_v 6 yi) z_int) z_int) nofun) yc rfl) rfl) rfl)) yc rfl) rfl))) rfl oI) (yf (ygh (yY (i:=3) rfl oI ybn.d ybn.c) (ybr ix_list ydB (z_v 7 ysT) (ybo ybf ycS (ybo yZ ybS (ybo ybf ycS (z_v 6 yi) z_int) z_int) z_int) nofun) rfl rfl rfl rfl rfl rfl))) (ye (yA (i:=8) ybl.nd rfl oI (ybo yZ ybS (ybo ybf ycS (z_v 6 yi) z_int) z_int) rfl oI) (ye (yA (i:=9) ybl.nd rfl oI (ybo yZ ybS (ybo ybf ycS (z_v 6 yi) z_int) z_int) rfl oI) (ye (yA (i:=10) ybl.nd rfl oI (yO ypZ ‹_› yiO rfl T.yko T.ydc.kp T.ydc.b (ya (ycL (ywG yjt ywu (z_v 0 ycj) (yel (z_v 4 ybm)) (yel (ybo ybF ycR (z_v 4 ybm) (z_v 8 ybx))))) (ya (ybo yqE yze (z_v 1 yhe) z_int) (ya (z_v 2 yM) yc rfl) rfl) rfl) rfl rfl) rfl oI) (ye (yA (i:=11) ybl.nd rfl oI (yO ypZ ‹_› yiO rfl T.yko T.ydc.kp T.ydc.b (ya (ycL (ywG yjt ywu (z_v 0 ycj) (yel (ybo ybF ycR (z_v 4 ybm) (z_v 8 ybx))) (yel (ybo ybF ycR (ybo ybF ycR (z_v 4 ybm) (z_v 8 ybx)) (z_v 9 ync))))) (ya (ybo yqE yze (z_v 1 yhe) z_int) (ya (z_v 2 yM) yc rfl) rfl) rfl) rfl rfl) rfl oI) (ye (yA (i:=4) ybl.nd rfl oI (ybo ybF ycR (ybo ybF ycR (z_v 4 ybm) (z_v 8 ybx)) (z_v 9 ync)) rfl oI) (yf (ygh (yY (i:=3) rfl oI ybn.d ybn.c) (yO (ytc T) ‹_› ysR rfl T.yvo T.yiJ.kp T.yiJ.b (ya (ybo ybf ycS (z_v 6 yi) z_int) (ya (z_v 10 yQ) (ya (z_v 11 yJ) (ya (z_v 2 yM) yc rfl) rfl) rfl) rfl) rfl rfl) rfl rfl rfl rfl rfl rfl))))))))))))))) (ylS 3 (yf (yq (z_v 3 ybn)))))))⟩
theorem yDm:∀ n,yPg P w K mg base t n
 | 0=>⟨ycH⟩
 | n+1=>by
  have fa:=T.fa
  have I:=yDm n
  have ydV:=I.ypQ
  exact ⟨zfn T.ybi.F yij fun cdv Ar outer sh H E hr=>(ye (ylR (i:=1) yij.nd rfl oI (ycp yc) rfl oI) (ye (yjc PassesOwn.never rfl (yog (z_v 0 ybn)) (yeR (i:=2) yij.nd rfl oI oI) (yf (yN (yG ybz yek (ybr ix_tup yR (z_v 2 yv) z_int nofun) z_str (yD _)) (yf (ygh (yY (i:=1) rfl oI yu.d yu.c) (ycL (ykO T.mk_Let (ypT T) ‹_› yCZ rfl T.m_Let T.yjo.b (ya (ybr ix_tup yR (z_v 2 yv) z_int nofun) (ya (ybr ix_tup yR (z_v 2 yv) z_int nofun) yc rfl) rfl) rfl rfl)) rfl rfl rfl rfl rfl rfl)) (yf (yN (yG ybz yek (ybr ix_tup yR (z_v 2 yv) z_int nofun) z_str (yD _)) (yf (ygh (yY (i:=1) rfl oI yu.d yu.c) (ycL (ykO T.mk_Reckon (ylC T) ‹_› ypD rfl T.m_Reckon T.ygr.b (ya (ybr ix_tup yR (z_v 2 yv) z_int nofun) (ya (ybr ix_tup yR (z_v 2 yv) z_int nofun) (ya (ybr ix_tup yR (z_v 2 yv) z_int nofun) (ya (ybr ix_tup yR (z_v 2 yv) z_int nofun) yc rfl) rfl) rfl) rfl) rfl rfl)) rfl rfl rfl rfl rfl rfl)) (yf (yN (yG ybz yek (ybr ix_tup yR (z_v 2 yv) z_int nofun) z_str (yD _)) (yf (ygh (yY (i:=1) rfl oI yu.d yu.c) (ycL (ykO T.mk_Take (ynx T) ‹_› yxy rfl T.m_Take T.yiD.b (ya (ybr ix_tup yR (z_v 2 yv) z_int nofun) (ya (ybr ix_tup yR (z_v 2 yv) z_int nofun) yc rfl) rfl) rfl rfl)) rfl rfl rfl rfl rfl rfl)) (yf (yN (yG ybz yek (ybr ix_tup yR (z_v 2 yv) z_int nofun) z_str (yD _)) (yf (ygh (yY (i:=1) rfl oI yu.d yu.c) (ycL (ykO T.mk_Put (ypU T) ‹_› yDa rfl T.m_Put T.yjp.b (ya (ybr ix_tup yR (z_v 2 yv) z_int nofun) (ya (ybr ix_tup yR (z_v 2 yv) z_int nofun) yc rfl) rfl) rfl rfl)) rfl rfl rfl rfl rfl rfl)) (yf (yN (yG ybz yek (ybr ix_tup yR (z_v 2 yv) z_int nofun) z_str (yD _)) (yf (ygh (yY (i:=1) rfl oI yu.d yu.c) (ycL (ykO T.mk_If (yqB T) ‹_› yCY rfl T.m_If T.ylo.b (ya (ybr ix_tup yR (z_v 2 yv) z_int nofun) (ya (yO ydV ‹_› ycx rfl T.ydd T.ybi.kp T.ybi.b (ya (ybr ix_tup yR (z_v 2 yv) z_int nofun) yc rfl) rfl rfl) (ya (yO ydV ‹_› ycx rfl T.ydd T.ybi.kp T.ybi.b (ya (ybr ix_tup yR (z_v 2 yv) z_int nofun) yc rfl) rfl rfl) yc rfl) rfl) rfl) rfl rfl)) rfl rfl rfl rfl rfl rfl)) (yf (yN (yG ybz yek (ybr ix_tup yR (z_v 2 yv) z_int nofun) z_str (yD _)) (yf (ygh (yY (i:=1) rfl oI yu.d yu.c) (ycL (ykO T.mk_Either (ylD T) ‹_› yls rfl T.m_Either T.ygt.b (ya (yO ydV ‹_› ycx rfl T.ydd T.ybi.kp T.ybi.b (ya (ybr ix_tup yR (z_v 2 yv) z_int nofun) yc rfl) rfl rfl) (ya (yO ydV ‹_› ycx rfl T.ydd T.ybi.kp T.ybi.b (ya (ybr ix_tup yR (z_v 2 yv) z_int nofun) yc rfl) rfl rfl) yc rfl) rfl) rfl rfl)) rfl rfl rfl rfl rfl rfl)) (yf (yN (yG ybz yek (ybr ix_tup yR (z_v 2 yv) z_int nofun) z_str (yD _)) (yf (ygh (yY (i:=1) rfl oI yu.d yu.c) (ycL (ykO T.mk_Try (ypV T) ‹_› yDb rfl T.m_Try T.yjr.b (ya (yO ydV ‹_› ycx rfl T.ydd T.ybi.kp T.ybi.b (ya (ybr ix_tup yR (z_v 2 yv) z_int nofun) yc rfl) rfl rfl) (ya (ybr ix_tup yR (z_v 2 yv) z_int nofun) (ya (ybr ix_tup yR (z_v 2 yv) z_int nofun) (ya (yO ydV ‹_› ycx rfl T.ydd T.ybi.kp T.ybi.b (ya (ybr ix_tup yR (z_v 2 yv) z_int nofun) yc rfl) rfl rfl) yc rfl) rfl) rfl) rfl) rfl rfl)) rfl rfl rfl rfl rfl rfl)) (yf (yN (yG ybz yek (ybr ix_tup yR (z_v 2 yv) z_int nofun) z_str (yD _)) (yf (ygh (yY (i:=1) rfl oI yu.d yu.c) (ycL (ykO T.mk_Throw (ymv T) ‹_› ysN rfl T.m_Throw T.yhB.b (ya (ybr ix_tup yR (z_v 2 yv) z_int nofun) (ya (ybr ix_tup yR (z_v 2 yv) z_int nofun) yc rfl) rfl) rfl rfl)) rfl rfl rfl rfl rfl rfl)) (yf (ygh (yY (i:=1) rfl oI yu.d yu.c) (ycL (yIx T.mk_Wait T.io_Wait T.kp_Wait yxA rfl T.m_Wait)) rfl rfl rfl rfl rfl rfl)))))))))))))))))) (fun _=>rfl)) (ylS 1 (yf (yq (z_v 1 yu))))))⟩
theorem ytd:‹(1+1,t.yiy,t.ymU,["_law_cell"],1,yfx)›:=zfn T.yiK.F ycF fun cdv Ar outer sh H E hr=>(ye (yA (i:=1) ycF.nd rfl oI (yO (yeL T) ‹_› yeK rfl T.yfE T.ybR.kp T.ybR.b (ya (z_v 0 ybD) yc rfl) rfl rfl) rfl oI) (ye (yA (i:=2) ycF.nd rfl oI (ybr ix_list ydB (ycL (ycp (ya z_int (ya z_int (ya z_int (ya (ybo ybF ycR z_int (ybo yZ ybS (ybo ybf ycS (z_v 1 yi) z_int) z_int)) yc rfl) rfl) rfl) rfl))) (ybo yZ ybS (z_v 1 yi) z_int) nofun) rfl oI) (ye (ylR (i:=3) ycF.nd rfl oI (ycp yc) rfl oI) (ye (yjc PassesOwn.never rfl (ylQ rfl T.z_range (ya (z_v 2 ybx) yc rfl) rfl) (yeR (i:=4) ycF.nd rfl oI oI) (ye (yA (i:=5) ycF.nd rfl oI (ycL (ycp (ya (ybo yZ ybS (ybo ybf ycS (ybo ybf ycS (z_v 1 yi) z_int) (ybo ybF ycR (z_v 4 yT) z_int)) z_int) (ya (yO (yiS T) ‹_› yiP rfl T.ykn T.ydb.kp T.ydb.b (ya (ybo ybF ycR (z_v 0 ybD) (ybo ynN ywt (z_v 4 yT) (z_v 4 yT))) yc rfl) rfl rfl) yc rfl) rfl))) rfl oI) (yf (ygh (yY (i:=3) rfl oI yL.d yL.c) (ybr ix_list ydB (z_v 5 yvw) (ybo yZ ybS (ybo ybF ycR (ybo ybf ycS (z_v 1 yi) z_int) (z_v 4 yT)) z_int) nofun) rfl rfl rfl rfl rfl rfl))) (fun _=>rfl)) (ylS 3 (yf (yq (z_v 3 yL))))))))
theorem yte:‹(1+1,t.yiz,t.ymV,["_law_cell"],1,yfy)›:=zfn T.yiL.F ygY fun cdv Ar outer sh H E hr=>(ye (yA (i:=1) ygY.nd rfl (Or.inr rfl) (yO (yeL T) ‹_› yeK rfl T.yfE T.ybR.kp T.ybR.b (ya (z_v 0 ybD) yc rfl) rfl rfl) rfl oI) (ye (yFa (iy:=2) [1] ["_law_mixed_here"] rfl (ylQ rfl T.z_range (ya z_int yc rfl) rfl) ⟨rfl,rfl,rfl,True.intro⟩ (fun _ _ _ _ _ _=>(ybo yZ ybS (ybo ybf ycS (ykN (i:=1) yi rfl (Or.inr oI)) (ybo ybF ycR (ybo ynN ywt (z_v 0 yT) (z_v 0 yT)) z_int)) z_int)) (by rfl') rfl (by rfl') (by rfl') (by rfl') rfl (fun _=>rfl) ygY.nd rfl oI oI rfl) (ye (yBM (yO (yiS T) ‹_› yiP rfl T.ykn T.ydb.kp T.ydb.b (ya (z_v 0 ybD) yc rfl) rfl rfl) (z_v 2 ym) (ybo yZ ybS (ykN (i:=1) yi rfl (Or.inr oI)) z_int) (fun _=>rfl) rfl rfl rfl) (yf (yq (z_v 2 ym))))))
theorem yxI:‹(0+1,t.ymn,t.yra,["_law_word","_law_one","_law_other"],3,yiX)›:=zfn T.ymp.F yxr fun cdv Ar outer sh H E hr=>(ye (yN (yG ybz yek (z_v 0 ydg) z_str (yD _)) (yf (yq (yLd ytg yGd yyL rfl T.z_int yxT (ya (ywF yqc yDq (z_v 1 yQ) (z_v 2 yJ) (yD _)) yc rfl) rfl rfl))) yy) (ye (yN (yG ybz yek (z_v 0 ydg) z_str (yD _)) (yf (yq (yLd ytg yGd yyL rfl T.z_int yxT (ya (ywF ybz yek (z_v 1 yQ) (z_v 2 yJ) (yD _)) yc rfl) rfl rfl))) yy) (ye (yN (yG ybz yek (z_v 0 ydg) z_str (yD _)) (yf (yq (ybo yZ ybS (ybo ybF ycR (z_v 1 yQ) (z_v 2 yJ)) (ybo yxN yEo z_int z_int)))) yy) (ye (yN (yG ybz yek (z_v 0 ydg) z_str (yD _)) (yf (yq (ybo yZ ybS (ybo yqE yze (z_v 1 yQ) (z_v 2 yJ)) (ybo yxN yEo z_int z_int)))) yy) (yf (yq (ybo yZ ybS (ybo ynN ywt (z_v 1 yQ) (z_v 2 yJ)) (ybo yxN yEo z_int z_int))))))))
theorem yhk:‹(0+1,t.yiA,t.ymW,["_law_found"],1,ybP)›:=zfn T.ycw.F ysL fun cdv Ar outer sh H E hr=>(yf (yq (ycL (yyp [0] ["_law_found"] rfl (yog (ycL (yIH rfl (ykN (i:=0) ybq rfl (Or.inr oI)) ypL rfl T.z_sorted yoh rfl rfl))) ⟨rfl,rfl,rfl,True.intro⟩ (fun _ _ _ _ _ _=>(yca (ya (z_v 0 yde) (ya (yhM (yeM hr) (ykN (i:=1) ybq rfl (Or.inr oI)) (z_v 0 yde) nofun) yc rfl) rfl))) (by rfl') rfl (by rfl') (by rfl') (by rfl') rfl (fun _=>rfl)))))
theorem yvL:‹(0+1,t.yki,t.ypq,["_law_marks","_law_row"],2,ycV)›:=zfn T.ykp.F ymJ fun cdv Ar outer sh H E hr=>(ye (yjc PassesOwn.never rfl (yIM rfl T.z_range (ya (ybo yqE yze (yeQ ybj yhl yfG rfl T.z_len yfr (ya (z_v 0 ybd) yc rfl) rfl rfl) z_int) (ya (yJr yqF yzf z_int) (ya (yJr yqF yzf z_int) yc rfl) rfl) rfl) rfl rfl) (yeR (i:=2) ymJ.nd rfl oI oI) (ye (yN (yET (yua (yG ybz yek (ybr ix_tup yR (z_v 1 yk) z_int nofun) z_str (yD _)) (yrL (yG ybz yek (ybr ix_tup yR (ybr ix_list ydB (z_v 0 ybd) (z_v 2 yT) nofun) z_int nofun) z_str (yD _))))) (yf (yq (z_v 2 yT))) yy) (yf (yN (yET (yua (yG ybz yek (ybr ix_tup yR (z_v 1 yk) z_int nofun) z_str (yD _)) (yua (yG ybz yek (ybr ix_tup yR (ybr ix_list ydB (z_v 0 ybd) (z_v 2 yT) nofun) z_int nofun) z_str (yD _)) (yrL (yG ybz yek (ybr ix_tup yR (ybr ix_list ydB (z_v 0 ybd) (z_v 2 yT) nofun) z_int nofun) (ybr ix_tup yR (z_v 1 yk) z_int nofun) (yD _)))))) (yf (yq (z_v 2 yT))) yy))) (fun _=>rfl)) (yf (yq (yJr yqF yzf z_int))))
theorem yqa:‹(0+1,t.ymo,t.yrb,["_law_row","_law_slots_here"],2,ydJ)›:=zfn T.ygu.F yxs fun cdv Ar outer sh H E hr=>(ye (yN (yG ybz yek (ybr ix_tup yR (z_v 0 yk) z_int nofun) z_str (yD _)) (yf (yq (yca (ya z_str yc rfl)))) yy) (yf (yq (yca (ya z_str (ya (ybr ix_tup yR (z_v 0 yk) z_int nofun) (ya (yhM (yeM hr) (z_v 1 ym) (ybr ix_tup yR (z_v 0 yk) z_int nofun) nofun) yc rfl) rfl) rfl)))))
theorem ymx:‹(1+1,t.yeB,t.yhw,["_law_row","_law_boxes_here","_law_saw","_law_slots_here","_law_written"],5,yck)›:=zfn T.yeC.F ygn fun cdv Ar outer sh H E hr=>(ye (yN (yG ybz yek (ybr ix_tup yR (z_v 0 yk) z_int nofun) z_str (yD _)) (yf (ygy (yeM hr) (z_v 3 ym) (ybr ix_tup yR (z_v 0 yk) z_int nofun) (ybr ix_tup yR (z_v 0 yk) z_int nofun) rfl)) (yf (yN (yG ybz yek (ybr ix_tup yR (z_v 0 yk) z_int nofun) z_str (yD _)) (ye (yA (i:=5) ygn.nd rfl oI (ybo yZ ybS (yhM (yeM hr) (z_v 3 ym) (ybr ix_tup yR (z_v 0 yk) z_int nofun) nofun) (yeQ ybj yhl yfG rfl T.z_len yfr (ya (z_v 1 yL) yc rfl) rfl rfl)) rfl oI) (ye (yN (yBL (yeM hr) (z_v 5 yde) (z_v 4 ycd) (by with_unfolding_all rfl)) (yf (ygy (yeM hr) (z_v 2 yhg) (z_v 5 yde) (ybr ix_list ydB (z_v 1 yL) (z_v 5 yde) nofun) rfl)) yy) (yf (ygy (yeM hr) (z_v 3 ym) (ybr ix_tup yR (z_v 0 yk) z_int nofun) (yIz (yeM hr) (z_v 4 ycd) (z_v 5 yde) (ybr ix_list ydB (z_v 1 yL) (z_v 5 yde) nofun) ⟨rfl,rfl,rfl,rfl⟩) rfl)))) (yf (yN (yG ybz yek (ybr ix_tup yR (z_v 0 yk) z_int nofun) z_str (yD _)) (yf (ygy (yeM hr) (z_v 4 ycd) (ybo yZ ybS (yhM (yeM hr) (z_v 3 ym) (ybr ix_tup yR (z_v 0 yk) z_int nofun) nofun) (yeQ ybj yhl yfG rfl T.z_len yfr (ya (z_v 1 yL) yc rfl) rfl rfl)) (yhM (yeM hr) (z_v 3 ym) (ybr ix_tup yR (z_v 0 yk) z_int nofun) nofun) rfl)) (yf (yN (yET (yua (yG ybz yek (yeQ ybj yhl yfG rfl T.z_len yfr (ya (z_v 0 yk) yc rfl) rfl rfl) z_int (yD _)) (yrL (yG yto yKT (ybr ix_tup yR (z_v 0 yk) z_int nofun) (yca (ya z_str (ya z_str (ya z_str (ya z_str (ya z_str yc rfl) rfl) rfl) rfl) rfl)) (by with_unfolding_all rfl))))) (yf (ygy (yeM hr) (z_v 3 ym) (ybr ix_tup yR (z_v 0 yk) z_int nofun) (yO (yxI T) ‹_› yxB rfl T.yzR T.ymp.kp T.ymp.b (ya (ybr ix_tup yR (z_v 0 yk) z_int nofun) (ya (yhM (yeM hr) (z_v 3 ym) (ybr ix_tup yR (z_v 0 yk) z_int nofun) nofun) (ya (yhM (yeM hr) (z_v 3 ym) (ybr ix_tup yR (z_v 0 yk) z_int nofun) nofun) yc rfl) rfl) rfl) rfl rfl) rfl)) yy))))))) (yf (yq (yER (ywF yMl yOD (yeQ ybj yhl yfG rfl T.z_len yfr (ya (z_v 0 yk) yc rfl) rfl rfl) z_int (yD _)) (yIv (ywF yto yKT (ybr ix_tup yR (z_v 0 yk) z_int nofun) (yca (ya z_str (ya z_str (ya z_str (ya z_str (ya z_str (ya z_str (ya z_str (ya z_str yc rfl) rfl) rfl) rfl) rfl) rfl) rfl) rfl)) (by with_unfolding_all rfl)))))))
theorem yvM:‹(2+1,t.ykj,t.ypr,["_law_rows","_law_boxes_here","_law_first"],3,ygF)›:=zfn T.ykq.F yU fun cdv Ar outer sh H E hr=>(ye (yA (i:=3) yU.nd rfl (Or.inr rfl) (yeP (ydC yed ykL ypG rfl T.z_dict ynT (ya (ykN (i:=2) yeJ rfl (Or.inr oI)) yc rfl) rfl rfl)) rfl oI) (ye (yA (i:=4) yU.nd rfl oI (yeP yqO) rfl oI) (ye (yA (i:=5) yU.nd rfl oI (yeP yqO) rfl oI) (ye (yA (i:=6) yU.nd rfl oI (yeP (ycp yc)) rfl oI) (ye (yA (i:=7) yU.nd rfl oI z_int rfl oI) (ye (yyq 1000 PassesOwn.never (yES yMk yqc yOC yDq z_int (z_v 7 ybm) (yeQ ybj yhl yfG rfl T.z_len yfr (ya (z_v 0 yne) yc rfl) rfl rfl) (by with_unfolding_all rfl)) (ye (yA (i:=8) yU.nd rfl oI (ybr ix_list ydB (z_v 0 yne) (z_v 7 ybm) nofun) rfl oI) (ye (yA (i:=7) yU.nd rfl oI (ybo ybF ycR (z_v 7 ybm) z_int) rfl oI) (ye (yN (yG ybz yek (ybr ix_tup yR (z_v 8 yk) z_int nofun) z_str (yD _)) (yf (yq (yca (ya (yca (ya z_str yc rfl)) (ya (yO (yhk T) ‹_› yhf rfl T.yiM T.ycw.kp T.ycw.b (ya (z_v 5 yhg) yc rfl) rfl rfl) (ya (yO (yhk T) ‹_› yhf rfl T.yiM T.ycw.kp T.ycw.b (ya (z_v 4 ycd) yc rfl) rfl rfl) (ya (ycL (yyp [3] ["_law_slots_here"] rfl (yGv z_str) ⟨rfl,rfl,rfl,True.intro⟩ (fun _ _ _ _ _ _=>(yhM (yeM hr) (ykN (i:=1) ym rfl (Or.inr oI)) (z_v 0 yfF) nofun)) (by rfl') rfl (by rfl') (by rfl') (by rfl') rfl (fun _=>rfl))) yc rfl) rfl) rfl) rfl)))) yy) (yf (yN (yG ybz yek (ybr ix_tup yR (z_v 8 yk) z_int nofun) z_str (yD _)) (yf (yA (i:=7) yU.nd rfl oI (ybr ix_tup yR (z_v 8 yk) z_int nofun) rfl oI)) (yf (yN (yG ybz yek (ybr ix_tup yR (z_v 8 yk) z_int nofun) z_str (yD _)) (yf (yA (i:=7) yU.nd rfl oI (yIw (yG ybz yek (yhM (yeM hr) (ykN (i:=3) ym rfl (Or.inr oI)) (ybr ix_tup yR (z_v 8 yk) z_int nofun) nofun) z_int (yD _)) (ybr ix_tup yR (z_v 8 yk) z_int nofun) (z_v 7 ybm)) rfl oI)) (yf (yN (yG ybz yek (ybr ix_tup yR (z_v 8 yk) z_int nofun) z_str (yD _)) (yf (ybT (yIy plainAttrs_list slot_list_pop type_list_pop yAz yBl (z_v 6 ybd) rfl rfl) rfl)) (yf (yN (yET (yzr (yG ybz yek (ybr ix_tup yR (z_v 8 yk) z_int nofun) z_str (yD _)) (yub (yG ybz yek (ybr ix_tup yR (z_v 8 yk) z_int nofun) z_str (yD _))))) (yf (ybT (yLW plainAttrs_list PySem.F.slot_list_append PySem.F.type_list_append yhH yGo (z_v 6 ybd) (ya (yca (ya (ybr ix_tup yR (z_v 8 yk) z_int nofun) (ya (ybr ix_tup yR (z_v 8 yk) z_int nofun) (ya (z_v 8 yk) (ya (yeP (ydC yed ykL ypG rfl T.z_dict ynT (ya (ykN (i:=3) ym rfl (Or.inr oI)) yc rfl) rfl rfl)) (ya (yeP (ydC yed ykL ypG rfl T.z_dict ynT (ya (z_v 4 ycd) yc rfl) rfl rfl)) yc rfl) rfl) rfl) rfl) rfl)) yc rfl) rfl rfl rfl rfl rfl) rfl)) (yf (yN (yET (yzr (yG ybz yek (ybr ix_tup yR (z_v 8 yk) z_int nofun) z_str (yD _)) (yub (yG ybz yek (ybr ix_tup yR (z_v 8 yk) z_int nofun) z_str (yD _))))) (ye (yA (i:=9) yU.nd rfl oI (yO (yvL T) ‹_› yvv rfl T.yxv T.ykp.kp T.ykp.b (ya (z_v 6 ybd) (ya (z_v 8 yk) yc rfl) rfl) rfl rfl) rfl oI) (ye (yN (yG yqc yDq (z_v 9 yT) z_int (yD _)) (yf (yq (yca (ya (yO (yqa T) ‹_› ypE rfl T.yrg T.ygu.kp T.ygu.b (ya (z_v 8 yk) (ya (ykN (i:=3) ym rfl (Or.inr oI)) yc rfl) rfl) rfl rfl) (ya (yO (yhk T) ‹_› yhf rfl T.yiM T.ycw.kp T.ycw.b (ya (z_v 5 yhg) yc rfl) rfl rfl) (ya (ycL (ycp yc)) (ya (ycL (yyp [2] ["_law_first"] rfl (yGv z_str) ⟨rfl,rfl,rfl,True.intro⟩ (fun _ _ _ _ _ _=>(yhM (yeM hr) (ykN (i:=1) yeJ rfl (Or.inr oI)) (z_v 0 yfF) nofun)) (by rfl') rfl (by rfl') (by rfl') (by rfl') rfl (fun _=>rfl))) yc rfl) rfl) rfl) rfl)))) yy) (ye (yA (i:=10) yU.nd rfl oI (yO (yqa T) ‹_› ypE rfl T.yrg T.ygu.kp T.ygu.b (ya (z_v 8 yk) (ya (ykN (i:=3) ym rfl (Or.inr oI)) yc rfl) rfl) rfl rfl) rfl oI) (ye (yA (i:=3) yU.nd rfl (Or.inr rfl) (yeP (ydC yed ykL ypG rfl T.z_dict ynT (ya (ybr ix_tup yR (ybr ix_list ydB (z_v 6 ybd) (z_v 9 yT) nofun) z_int nofun) yc rfl) rfl rfl)) rfl oI) (ye (yA (i:=4) yU.nd rfl oI (yeP (ydC yed ykL ypG rfl T.z_dict ynT (ya (ybr ix_tup yR (ybr ix_list ydB (z_v 6 ybd) (z_v 9 yT) nofun) z_int nofun) yc rfl) rfl rfl)) rfl oI) (ye (yA (i:=7) yU.nd rfl oI (ybr ix_tup yR (ybr ix_tup yR (ybr ix_list ydB (z_v 6 ybd) (z_v 9 yT) nofun) z_int nofun) (yJr yqF yzf z_int) nofun) rfl oI) (ye (yN (yG ybz yek (ybr ix_tup yR (z_v 8 yk) z_int nofun) z_str (yD _)) (yf (ygy (yeM hr) (ykN (i:=3) ym rfl (Or.inr oI)) (ybr ix_tup yR (ybr ix_tup yR (ybr ix_list ydB (z_v 6 ybd) (z_v 9 yT) nofun) z_int nofun) z_int nofun) (ybr ix_tup yR (z_v 10 ynt) z_int nofun) rfl)) yy) (yf (yA (i:=6) yU.nd rfl oI (yeP (ywG yjt ywu (z_v 6 ybd) yEU (yel (z_v 9 yT)))) rfl oI))))))))) (yf (yN (ytZ (ybL (yO (ymx T) ‹_› ymr rfl T.ynr T.yeC.kp T.yeC.b (ya (z_v 8 yk) (ya (z_v 1 yL) (ya (z_v 5 yhg) (ya (ykN (i:=3) ym rfl (Or.inr oI)) (ya (z_v 4 ycd) yc rfl) rfl) rfl) rfl) rfl) rfl rfl) (fun _=>rfl))) (yf (yq yBI)) yy)))))))))))))))) (yf (yq yBI))))))))
theorem yLP:‹(43+1,t.a_law,t.d_law,["_law_script"],1,yFd)›:=zfn T.F_law.F sc_law fun cdv Ar outer sh H E hr=>(ye (yA (i:=1) sc_law.nd rfl oI (yO (yta T) ‹_› ysP rfl T.yvm T.yiH.kp T.yiH.b (ya (yeQ (ynA rfl) yEr yyN rfl T.z_sum yxS (ya (ycL (ywG yjt ywu (z_v 0 yge) yEU (yel z_int))) yc rfl) rfl rfl) yc rfl) rfl rfl) rfl oI) (ye (yjc PassesOwn.never rfl (yIA rfl T.z_range (ya z_int (ya (yeQ (yAp rfl) yKU yLN rfl T.z_max yLf (ya z_int (ya (yeQ ybj yhl yfG rfl T.z_len yfr (ya (z_v 0 yge) yc rfl) rfl rfl) yc rfl) rfl) rfl rfl) (ya z_int yc rfl) rfl) rfl) rfl rfl) (yeR (i:=2) sc_law.nd rfl oI oI) (ye (yA (i:=3) sc_law.nd rfl oI (ycL (ywG yjt ywu (z_v 0 yge) (yel (z_v 2 ybm)) (yel (ybo ybF ycR (z_v 2 ybm) z_int)))) rfl oI) (ye (yA (i:=4) sc_law.nd rfl oI (yO (yDm T 7).ypQ ‹_› ycx rfl T.ydd T.ybi.kp T.ybi.b (ya (yO (yDl T 5).ypP ‹_› yiO rfl T.yko T.ydc.kp T.ydc.b (ya (z_v 3 ycj) (ya z_int (ya (z_v 1 yM) yc rfl) rfl) rfl) rfl rfl) yc rfl) rfl rfl) rfl oI) (ye (yA (i:=5) sc_law.nd rfl oI (yO (ytd T) ‹_› ysO rfl T.yvp T.yiK.kp T.yiK.b (ya (ybo ybF ycR (yeQ (ynA rfl) yEr yyN rfl T.z_sum yxS (ya (ycL (ywG yjt ywu (z_v 3 ycj) (yel z_int) (yel z_int))) yc rfl) rfl rfl) (z_v 2 ybm)) yc rfl) rfl rfl) rfl oI) (ye (yA (i:=6) sc_law.nd rfl oI (yO (yte T) ‹_› ysS rfl T.yvq T.yiL.kp T.yiL.b (ya (ybo ybF ycR (yeQ (ynA rfl) yEr yyN rfl T.z_sum yxS (ya (ycL (ywG yjt ywu (z_v 3 ycj) yEU (yel z_int))) yc rfl) rfl rfl) (z_v 2 ybm)) yc rfl) rfl rfl) rfl oI) (ye (yA (i:=7) sc_law.nd rfl oI (yeP yqO) rfl oI) (ye (yjc PassesOwn.never rfl (ylQ rfl T.z_range (ya z_int yc rfl) rfl) (yeR (i:=8) sc_law.nd rfl oI oI) (yf (ygy (yeM hr) (z_v 7 yeJ) (ybr yky ytL z_str (z_v 8 yT) nofun) (ybr ix_list ydB (z_v 6 ym) (z_v 8 yT) nofun) rfl)) (fun _=>rfl)) (ye (yA (i:=9) sc_law.nd rfl oI (yO (yvM T) ‹_› yvu rfl T.yxw T.ykq.kp T.ykq.b (ya (yO (yzW T) ‹_› yzU rfl T.yCX T.ypA.kp T.ypA.b (ya (z_v 4 ynb) yc rfl) rfl rfl) (ya (z_v 5 yL) (ya (z_v 7 yeJ) yc rfl) rfl) rfl) rfl rfl) rfl oI) (yf (yN (yET (yzr (yG yFO yKt (z_v 9 ybY) yBI (yD _)) (yub (ytZ (ybL (yO (yDk T 5).ynh ‹_› ylt rfl T.yna T.yeg.kp T.yeg.b (ya (yO (yFG T) ‹_› yFC rfl T.m_alone T.F_alone.kp T.F_alone.b (ya (z_v 4 ynb) (ya (ycL (ydC ybk ycB ydz rfl T.z_list ydl (ya (z_v 5 yL) yc rfl) rfl rfl)) (ya (ycL (ydC ybk ycB ydz rfl T.z_list ydl (ya (z_v 6 ym) yc rfl) rfl rfl)) yc rfl) rfl) rfl) rfl rfl) (ya (z_v 9 ybY) yc rfl) rfl) rfl rfl) (fun _=>rfl)))))) (yf (yq yIu)) yy))))))))) (fun _=>rfl)) (yf (yq yIu))))
def yFI (K:PySem.W.Frag):Sp:=fun vs H Q _=>∃ (a:Addr) (ns:List Int),vs=[.ref a]/\SqL K H a (ns.map V.int)/\ns.length<=63/\∀ H',Q (.bl true) H'
theorem yLQ {A:Nat->Addr}:∀ vs H Q E,yFI K vs H Q E->spE ⟨K,A⟩ 1 yFd vs H Q E:=by
 rintro _ H Q E ⟨a,ns,rfl,hS,hl,q⟩
 obtain ⟨h',e⟩:=yLL (h:=[]) ns hl
 exact ⟨⟨H,H,[],[]⟩,[.scr ns],.bl true,h',rfl,⟨Same.refl _,rfl,List.nodup_nil,fun n d a e=>by simp at e⟩,⟨.ref a,[],rfl,⟨a,rfl,hS⟩,rfl⟩,rfl,e,fun v W' _ _ rv=>by rw [show v=_ from rv];exact q _⟩
end
def AllA (p:Addr->Prop):List Addr->Prop
 | []=>True
 | c::cs=>p c/\AllA p cs
theorem AllA.get {p:Addr->Prop}{d:Addr}(hd:p d):∀ {cs:List Addr},AllA p cs->∀ k:Nat,p (cs.getD k d)
 | [],_,_=>hd
 | _::_,a,0=>a.1
 | _::_,a,k+1=>AllA.get hd a.2 k
structure TyR (K:PySem.W.Frag) (C:Addr):Prop where
 ha:findIn K (.ref C) "__class__" = some (some (.builtin "object.__class__"))
 hm:mroIn K C (.type "object")=some true
 ty:typeIn K (.ref C)=some (.type "type")
structure NS2 (K:PySem.W.Frag) (c d:Addr):Prop where
 sb:subIn K (.ref c) (.ref d)=some false
 ne:(c == d)=false
noncomputable def NSx (K:PySem.W.Frag) (pre:List Addr):List Addr->Prop
 | []=>True
 | c::cs=>AllA (NS2 K c) pre/\AllA (NS2 K c) cs/\NSx K (c::pre) cs
theorem AllA.mem {p:Addr->Prop}{A:Nat->Addr}:∀ {cs:List Nat},AllA p (cs.map A)->∀ i∈cs,p (A i)
 | c::cs,a,i,hi=>by
  rcases mem_cons.mp hi with rfl|hi
  .exact a.1
  .exact AllA.mem a.2 i hi
theorem NSx.get {K:PySem.W.Frag}{A:Nat->Addr}:∀ {cs pre:List Nat},NSx K (pre.map A) (cs.map A)->∀ i∈cs,∀ j,j∈pre\/j∈cs->i≠j->NS2 K (A i) (A j)
 | c::cs,pre,a,i,hi,j,hj,ne=>by
  rcases mem_cons.mp hi with rfl|hi
  .rcases hj with hj|hj
   .exact a.1.mem j hj
   .rcases mem_cons.mp hj with rfl|hj
    .exact absurd rfl ne
    .exact a.2.1.mem j hj
  .refine NSx.get (pre:=c::pre) a.2.2 i hi j ?_ ne
   rcases hj with hj|hj
   .exact .inl (mem_cons_of_mem _ hj)
   .rcases mem_cons.mp hj with rfl|hj
    .exact .inl mem_cons_self
    .exact .inr hj
theorem yJj {K:PySem.W.Frag}{A:Nat->Addr}(CL:∀ k,Cls K (A k)) (hn:PySem.W.specialIn K (.builtin "object.__class__") "__get__" = some (some (.builtin "getset_descriptor.__get__"))) (htk:PySem.W.takesIn K (.builtin "object.__class__")=some true) (cs:List Nat) (ty:AllA (TyR K) (cs.map A)) (sb:NSx K [] (cs.map A)) :
  ∀ r∈tbO cs,∀ (H:Hp) (a dx:Addr) (fs:List (Str×V)),H a=some (.ins (A r.1) dx fs)->IsI K H (.ref a) (.ref (A r.2.1)) r.2.2:=by
 intro r hr H a dx fs e
 unfold tbO at hr
 obtain ⟨i,hi,hr⟩:=List.mem_flatMap.mp hr
 obtain ⟨j,hj,rfl⟩:=List.mem_map.mp hr
 have t:=ty.mem i hi
 have t':=ty.mem j hj
 refine ⟨_,_,.ins e (CL i) t.ha hn htk t.hm,rfl,?_⟩
 by_cases q:i=j
 .subst q
  show _=some (i == i)
  rw [beq_self_eq_true]
  exact yDQ
 .have n:=NSx.get (pre:=[]) sb i hi j (.inr hj) q
  show _=some (i == j)
  rw [beq_eq_false_iff_ne.mpr q]
  exact yDS n.ne t'.hm t'.ty n.sb
theorem all_mk {l:PySem.W.OpenLaw}{w:World}{K:PySem.W.Frag}{h:Heap}{mg:Str->Option Value}{fa C0 C1 C2 C3 C4 C5 C6 C7 C8 C9 C10 C11 C12 f1 f2 f3 f4 f5 f6 f7 f8 f9 f10 f11 f12 f13 f14 f15 f16 f17 f18 f19 f20 f21 f22 f23 f24 f25 f26 f27 f28 f29 f30 f31 f32 f33 f34 f35 f36 f37 f38 f39 f40 f41 f42 f43 f44 f45 f46 f47 f48 f49 f50 f51 f52 f53 f54 f55 f56 f57 f58 f59 f60 f61 f62 f63 f64 f65 f66 f67 f68 f69 f70 f71 f72 f73 u1 u3:Addr}{d1 d2 d3 d4 d5 d6 d7 d8 d9 d10 d11 d12 d13 d14 d15 d16 d17 d18 d19 d20 d21 d22 d23 d24 d25 d26 d27 d28 d29 d30 d31 d32 d33 d34 d35 d36 d37 d38 d39 d40 d41 d42 d43 d44 d45 d46 d47 d48 d49 d50 d51 d52 d53 d54 d55 d56 d57 d58 d59 d60 d61 d62 d63 d64 d65 d66 d67 d68 d69 d70 d71 d72 d73:FuncData}{u2 u4:Tok}(X:K.In h) (G:h.Ns mainGlobals mg) (hfa:mg "law" = some (.ref fa))
  {qd1:Option Addr}{qn1:Nat}{qs1:Array (Option Value)}{qt1_0:Tok}{qd3:Option Addr}{qn3:Nat}{qs3:Array (Option Value)}{qt3_0:Tok}
  (n0:nsIn K mainGlobals "Log" = some (some (.ref C0)))
  (n1:nsIn K mainGlobals "Doing" = some (some (.ref C1)))
  (n2:nsIn K mainGlobals "Doer" = some (some (.ref C2)))
  (n3:nsIn K mainGlobals "Let" = some (some (.ref C3)))
  (n4:nsIn K mainGlobals "Reckon" = some (some (.ref C4)))
  (n5:nsIn K mainGlobals "Take" = some (some (.ref C5)))
  (n6:nsIn K mainGlobals "Put" = some (some (.ref C6)))
  (n7:nsIn K mainGlobals "If" = some (some (.ref C7)))
  (n8:nsIn K mainGlobals "Either" = some (some (.ref C8)))
  (n9:nsIn K mainGlobals "Try" = some (some (.ref C9)))
  (n10:nsIn K mainGlobals "Throw" = some (some (.ref C10)))
  (n11:nsIn K mainGlobals "Wait" = some (some (.ref C11)))
  (n12:nsIn K mainGlobals "Part" = some (some (.ref C12)))
  (cl:AllA (Cls K) [C0,C1,C2,C3,C4,C5,C6,C7,C8,C9,C10,C11,C12])
  (mk0:Mk K C0 f1)
  (mk1:Mk K C1 f25)
  (mk2:Mk K C2 f12)
  (mk3:Mk K C3 f21)
  (mk4:Mk K C4 f22)
  (mk5:Mk K C5 f23)
  (mk6:Mk K C6 f24)
  (mk7:Mk K C7 f35)
  (mk8:Mk K C8 f36)
  (mk9:Mk K C9 f37)
  (mk10:Mk K C10 f38)
  (mk11:makesIn K C11=true)
  (io11:findIn K (.ref C11) "__init__" = some (some (.builtin "object.__init__")))
  (kp11:keepIn K (.ref C11)=true)
  (mk12:makesIn K C12=true)
  (io12:findIn K (.ref C12) "__init__" = some (some (.builtin "object.__init__")))
  (kp12:keepIn K (.ref C12)=true)
  (me1:ycq K C12 "long" f39)
  (me2:ycq K C3 "long" f40)
  (me3:ycq K C4 "long" f41)
  (me4:ycq K C5 "long" f42)
  (me5:ycq K C6 "long" f43)
  (me6:ycq K C7 "long" f47)
  (me7:ycq K C8 "long" f48)
  (me8:ycq K C9 "long" f49)
  (me9:ycq K C10 "long" f44)
  (me10:ycq K C11 "long" f45)
  (me11:ycq K C0 "write" f2)
  (me12:ycq K C0 "own" f3)
  (me13:ycq K C0 "begin" f4)
  (me14:ycq K C0 "settle" f5)
  (me15:ycq K C0 "drop" f6)
  (me16:ycq K C0 "see" f7)
  (me17:ycq K C0 "saw" f8)
  (me18:ycq K C0 "wrote" f9)
  (me19:ycq K C1 "held_in" f13)
  (me20:ycq K C1 "hold" f14)
  (me21:ycq K C1 "box_at" f15)
  (me22:ycq K C1 "do_reckon" f16)
  (me23:ycq K C1 "do_put" f17)
  (me24:ycq K C1 "sees_at" f18)
  (me25:ycq K C1 "take_own" f19)
  (me26:ycq K C1 "take_seen" f20)
  (me27:ycq K C1 "take_done" f26)
  (me28:ycq K C1 "plain_done" f27)
  (me29:ycq K C1 "list_end" f28)
  (me30:ycq K C1 "part_end" f29)
  (me31:ycq K C1 "if_end" f30)
  (me32:ycq K C1 "either_end" f31)
  (me33:ycq K C1 "try_end" f32)
  (me34:ycq K C1 "layered_end" f33)
  (me35:yFb K C2 "__init__" f12)
  (a10:nsIn K mainGlobals "reckon" = some (some (.ref f10)))
  (a11:nsIn K mainGlobals "slot_index" = some (some (.ref f11)))
  (a34:nsIn K mainGlobals "alone" = some (some (.ref f34)))
  (a46:nsIn K mainGlobals "list_long" = some (some (.ref f46)))
  (a50:nsIn K mainGlobals "plain_rows" = some (some (.ref f50)))
  (a51:nsIn K mainGlobals "first_row" = some (some (.ref f51)))
  (a52:nsIn K mainGlobals "rows_between" = some (some (.ref f52)))
  (a53:nsIn K mainGlobals "list_rows" = some (some (.ref f53)))
  (a54:nsIn K mainGlobals "part_rows" = some (some (.ref f54)))
  (a55:nsIn K mainGlobals "sided_rows" = some (some (.ref f55)))
  (a56:nsIn K mainGlobals "rows_of" = some (some (.ref f56)))
  (a57:nsIn K mainGlobals "_law_mixed" = some (some (.ref f57)))
  (a58:nsIn K mainGlobals "_law_wide" = some (some (.ref f58)))
  (a59:nsIn K mainGlobals "_law_alike" = some (some (.ref f59)))
  (a60:nsIn K mainGlobals "_law_names" = some (some (.ref f60)))
  (a61:nsIn K mainGlobals "_law_plain" = some (some (.ref f61)))
  (a62:nsIn K mainGlobals "_law_sided" = some (some (.ref f62)))
  (a63:nsIn K mainGlobals "_law_tree" = some (some (.ref f63)))
  (a64:nsIn K mainGlobals "_law_made" = some (some (.ref f64)))
  (a65:nsIn K mainGlobals "_law_boxes" = some (some (.ref f65)))
  (a66:nsIn K mainGlobals "_law_slots" = some (some (.ref f66)))
  (a67:nsIn K mainGlobals "_law_sum" = some (some (.ref f67)))
  (a68:nsIn K mainGlobals "_law_pairs" = some (some (.ref f68)))
  (a69:nsIn K mainGlobals "_law_mark" = some (some (.ref f69)))
  (a70:nsIn K mainGlobals "_law_end" = some (some (.ref f70)))
  (a71:nsIn K mainGlobals "_law_plain_row" = some (some (.ref f71)))
  (a72:nsIn K mainGlobals "_law_gone" = some (some (.ref f72)))
  (a73:nsIn K mainGlobals "law" = some (some (.ref f73)))
  (F1:FB K "__init__" "Log.__init__" yfN f1 d1 ["self"])
  (F2:FB K "write" "Log.write" yjD f2 d2 ["self","box","number"])
  (F3:FB K "own" "Log.own" yoK f3 d3 ["self","box"])
  (F4:FB K "begin" "Log.begin" yjE f4 d4 ["self"])
  (F5:FB K "settle" "Log.settle" yhV f5 d5 ["self"])
  (F6:FB K "drop" "Log.drop" ylZ f6 d6 ["self"])
  (F7:FB K "see" "Log.see" yoL f7 d7 ["self","box","number"])
  (F8:FB K "saw" "Log.saw" yoM f8 d8 ["self"])
  (F9:FB K "wrote" "Log.wrote" yjF f9 d9 ["self"])
  (F10:FB K "reckon" "reckon" ysG f10 d10 ["word","one","other"])
  (F11:FB K "slot_index" "slot_index" yhW f11 d11 ["slot"])
  (F12:FB K "__init__" "Doer.__init__" yeY f12 d12 ["self","slots","width"])
  (F13:FB K "held_in" "Doer.held_in" yfO f13 d13 ["self","slot"])
  (F14:FB K "hold" "Doer.hold" yjG f14 d14 ["self","slot","number"])
  (F15:FB K "box_at" "Doer.box_at" ygS f15 d15 ["self","place"])
  (F16:FB K "do_reckon" "Doer.do_reckon" yeo f16 d16 ["self","word","slot","one","other"])
  (F17:FB K "do_put" "Doer.do_put" ygT f17 d17 ["self","place","slot"])
  (F18:FB K "sees_at" "Doer.sees_at" yfP f18 d18 ["self","place"])
  (F19:FB K "take_own" "Doer.take_own" yeZ f19 d19 ["self","slot","place"])
  (F20:FB K "take_seen" "Doer.take_seen" yep f20 d20 ["self","slot","place","numbers"])
  (F21:FB K "__init__" "Let.__init__" yfQ f21 d21 ["self","slot","number"])
  (F22:FB K "__init__" "Reckon.__init__" ydM f22 d22 ["self","word","slot","one","other"])
  (F23:FB K "__init__" "Take.__init__" yfa f23 d23 ["self","slot","place"])
  (F24:FB K "__init__" "Put.__init__" yfR f24 d24 ["self","place","slot"])
  (F25:FB K "__init__" "Doing.__init__" yeq f25 d25 ["self","boxes","slots"])
  (F26:FB K "take_done" "Doing.take_done" ydN f26 d26 ["self","part"])
  (F27:FB K "plain_done" "Doing.plain_done" yds f27 d27 ["self","part"])
  (F28:FB K "list_end" "Doing.list_end" yer f28 d28 ["self","parts"])
  (F29:FB K "part_end" "Doing.part_end" yes f29 d29 ["self","part"])
  (F30:FB K "if_end" "Doing.if_end" yfS f30 d30 ["self","part"])
  (F31:FB K "either_end" "Doing.either_end" ydt f31 d31 ["self","part"])
  (F32:FB K "try_end" "Doing.try_end" yfb f32 d32 ["self","part"])
  (F33:FB K "layered_end" "Doing.layered_end" ycW f33 d33 ["self","parts"])
  (F34:FB K "alone" "alone" yxm f34 d34 ["deed","boxes","slots"])
  (F35:FB K "__init__" "If.__init__" ygU f35 d35 ["self","slot","parts","others"])
  (F36:FB K "__init__" "Either.__init__" ydO f36 d36 ["self","parts","others"])
  (F37:FB K "__init__" "Try.__init__" yfT f37 d37 ["self","parts","name","slot","others"])
  (F38:FB K "__init__" "Throw.__init__" yet f38 d38 ["self","name","slot"])
  (F39:FB K "long" "Part.long" yjH f39 d39 ["self"])
  (F40:FB K "long" "Let.long" yma f40 d40 ["self"])
  (F41:FB K "long" "Reckon.long" ygV f41 d41 ["self"])
  (F42:FB K "long" "Take.long" yjI f42 d42 ["self"])
  (F43:FB K "long" "Put.long" ymb f43 d43 ["self"])
  (F44:FB K "long" "Throw.long" yhX f44 d44 ["self"])
  (F45:FB K "long" "Wait.long" yjJ f45 d45 ["self"])
  (F46:FB K "list_long" "list_long" yjK f46 d46 ["parts"])
  (F47:FB K "long" "If.long" yoN f47 d47 ["self"])
  (F48:FB K "long" "Either.long" ygW f48 d48 ["self"])
  (F49:FB K "long" "Try.long" ymc f49 d49 ["self"])
  (F50:FB K "plain_rows" "plain_rows" yhY f50 d50 ["part"])
  (F51:FB K "first_row" "first_row" yjL f51 d51 ["part","second"])
  (F52:FB K "rows_between" "rows_between" yfU f52 d52 ["part","behind"])
  (F53:FB K "list_rows" "list_rows" yjM f53 d53 ["parts","first"])
  (F54:FB K "part_rows" "part_rows" yjN f54 d54 ["part","first"])
  (F55:FB K "sided_rows" "sided_rows" yhZ f55 d55 ["part","first"])
  (F56:FB K "rows_of" "rows_of" yoO f56 d56 ["deed"])
  (F57:FB K "_law_mixed" "_law_mixed" yia f57 d57 ["_law_cell"])
  (F58:FB K "_law_wide" "_law_wide" yjO f58 d58 ["_law_cell"])
  (F59:FB K "_law_alike" "_law_alike" yib f59 d59 ["_law_found","_law_due"])
  (F60:FB K "_law_names" "_law_names" yic f60 d60 ["_law_cell"])
  (F61:FB K "_law_plain" "_law_plain" yid f61 d61 ["_law_mixed_here","_law_cell"])
  (F62:FB K "_law_sided" "_law_sided" yie f62 d62 ["_law_mixed_here","_law_one","_law_other","_law_names_here"])
  (F63:FB K "_law_tree" "_law_tree" yjP f63 d63 ["_law_cells","_law_depth","_law_names_here"])
  (F64:FB K "_law_made" "_law_made" yjQ f64 d64 ["_law_tree_here"])
  (F65:FB K "_law_boxes" "_law_boxes" yif f65 d65 ["_law_cell"])
  (F66:FB K "_law_slots" "_law_slots" yig f66 d66 ["_law_cell"])
  (F67:FB K "_law_sum" "_law_sum" ymd f67 d67 ["_law_word","_law_one","_law_other"])
  (F68:FB K "_law_pairs" "_law_pairs" yih f68 d68 ["_law_found"])
  (F69:FB K "_law_mark" "_law_mark" yjR f69 d69 ["_law_marks","_law_row"])
  (F70:FB K "_law_end" "_law_end" yme f70 d70 ["_law_row","_law_slots_here"])
  (F71:FB K "_law_plain_row" "_law_plain_row" yeu f71 d71 ["_law_row","_law_boxes_here","_law_saw","_law_slots_here","_law_written"])
  (F72:FB K "_law_gone" "_law_gone" yjS f72 d72 ["_law_rows","_law_boxes_here","_law_first"])
  (F73:FB K "law" "law" yJg f73 d73 ["_law_script"])
  (na0_stack:NoAttr K C0 "stack")
  (na0_last_seen:NoAttr K C0 "last_seen")
  (na1_held:NoAttr K C1 "held")
  (na1_width:NoAttr K C1 "width")
  (na1_log:NoAttr K C1 "log")
  (na1_found:NoAttr K C1 "found")
  (na3_slot:NoAttr K C3 "slot")
  (na4_slot:NoAttr K C4 "slot")
  (na5_slot:NoAttr K C5 "slot")
  (na6_slot:NoAttr K C6 "slot")
  (na7_slot:NoAttr K C7 "slot")
  (na9_slot:NoAttr K C9 "slot")
  (na10_slot:NoAttr K C10 "slot")
  (na3_number:NoAttr K C3 "number")
  (na4_word:NoAttr K C4 "word")
  (na4_one:NoAttr K C4 "one")
  (na4_other:NoAttr K C4 "other")
  (na5_place:NoAttr K C5 "place")
  (na6_place:NoAttr K C6 "place")
  (na7_parts:NoAttr K C7 "parts")
  (na8_parts:NoAttr K C8 "parts")
  (na9_parts:NoAttr K C9 "parts")
  (na7_others:NoAttr K C7 "others")
  (na8_others:NoAttr K C8 "others")
  (na9_others:NoAttr K C9 "others")
  (na9_name:NoAttr K C9 "name")
  (na10_name:NoAttr K C10 "name")
  (ty:AllA (TyR K) [C3,C4,C5,C6,C7,C8,C9,C10,C11])
  (sb:NSx K [] [C3,C4,C5,C6,C7,C8,C9,C10,C11])
  (hn:PySem.W.specialIn K (.builtin "object.__class__") "__get__" = some (some (.builtin "getset_descriptor.__get__")))
  (htk:PySem.W.takesIn K (.builtin "object.__class__")=some true)
  (z1:nsIn K mainGlobals "bool" = some none)
  (z2:nsIn K mainGlobals "dict" = some none)
  (z3:nsIn K mainGlobals "int" = some none)
  (z4:nsIn K mainGlobals "isinstance" = some none)
  (z5:nsIn K mainGlobals "len" = some none)
  (z6:nsIn K mainGlobals "list" = some none)
  (z7:nsIn K mainGlobals "max" = some none)
  (z8:nsIn K mainGlobals "range" = some none)
  (z9:nsIn K mainGlobals "reversed" = some none)
  (z10:nsIn K mainGlobals "sorted" = some none)
  (z11:nsIn K mainGlobals "str" = some none)
  (z12:nsIn K mainGlobals "sum" = some none)
  (z13:nsIn K mainGlobals "tuple" = some none)
  (q1:nsIn K mainGlobals "DONE" = some (some (.ref u1)))
  (qk1:K.lookup u1=some ⟨.type "tuple",qd1,.seq #[.str "done" qt1_0] qn1,qs1⟩)
  (q2:nsIn K mainGlobals "SLOTS" = some (some (.str "abcdefgh" u2)))
  (q3:nsIn K mainGlobals "WAITS" = some (some (.ref u3)))
  (qk3:K.lookup u3=some ⟨.type "tuple",qd3,.seq #[.str "waits" qt3_0] qn3,qs3⟩)
  (q4:nsIn K mainGlobals "WIDE" = some (some (.int 18446744073709551616 u4))) :
  ∃ fd:FuncData,(∀ (s:Shared) (v:Value),BindsTo s fd ⟨[v],[]⟩ [("_law_script",v)])/\∀ base:Heap,K.In base->base.Ns mainGlobals mg->FnOk l.prog w K mg base CX0 44 fa fd ["_law_script"] (yFI K):=by
 have e:=hfa.symm.trans (mg_of X G a73)
 cases e
 have CL:∀ k,Cls K ([C0,C1,C2,C3,C4,C5,C6,C7,C8,C9,C10,C11,C12].getD k C0):=fun k=>AllA.get cl.1 cl k
 have T:Txt K mg ⟨fun k=>[C0,C1,C2,C3,C4,C5,C6,C7,C8,C9,C10,C11,C12].getD k C0,f1,d1,f2,d2,f3,d3,f4,d4,f5,d5,f6,d6,f7,d7,f8,d8,f9,d9,f10,d10,f11,d11,f12,d12,f13,d13,f14,d14,f15,d15,f16,d16,f17,d17,f18,d18,f19,d19,f20,d20,f21,d21,f22,d22,f23,d23,f24,d24,f25,d25,f26,d26,f27,d27,f28,d28,f29,d29,f30,d30,f31,d31,f32,d32,f33,d33,f34,d34,f35,d35,f36,d36,f37,d37,f38,d38,f39,d39,f40,d40,f41,d41,f42,d42,f43,d43,f44,d44,f45,d45,f46,d46,f47,d47,f48,d48,f49,d49,f50,d50,f51,d51,f52,d52,f53,d53,f54,d54,f55,d55,f56,d56,f57,d57,f58,d58,f59,d59,f60,d60,f61,d61,f62,d62,f63,d63,f64,d64,f65,d65,f66,d66,f67,d67,f68,d68,f69,d69,f70,d70,f71,d71,f72,d72,fa,d73,u1,u2,u3,u4⟩:=⟨F1,F2,F3,F4,F5,F6,F7,F8,F9,F10,mg_of X G a10,F11,mg_of X G a11,F12,F13,F14,F15,F16,F17,F18,F19,F20,F21,F22,F23,F24,F25,F26,F27,F28,F29,F30,F31,F32,F33,F34,mg_of X G a34,F35,F36,F37,F38,F39,F40,F41,F42,F43,F44,F45,F46,mg_of X G a46,F47,F48,F49,F50,mg_of X G a50,F51,mg_of X G a51,F52,mg_of X G a52,F53,mg_of X G a53,F54,mg_of X G a54,F55,mg_of X G a55,F56,mg_of X G a56,F57,mg_of X G a57,F58,mg_of X G a58,F59,mg_of X G a59,F60,mg_of X G a60,F61,mg_of X G a61,F62,mg_of X G a62,F63,mg_of X G a63,F64,mg_of X G a64,F65,mg_of X G a65,F66,mg_of X G a66,F67,mg_of X G a67,F68,mg_of X G a68,F69,mg_of X G a69,F70,mg_of X G a70,F71,mg_of X G a71,F72,mg_of X G a72,F73,mg_of X G a73,mg_of X G n0,mk0,mg_of X G n1,mk1,mg_of X G n2,mk2,mg_of X G n3,mk3,mg_of X G n4,mk4,mg_of X G n5,mk5,mg_of X G n6,mk6,mg_of X G n7,mk7,mg_of X G n8,mk8,mg_of X G n9,mk9,mg_of X G n10,mk10,mg_of X G n11,mk11,io11,kp11,mg_of X G n12,mk12,io12,kp12,me1,me2,me3,me4,me5,me6,me7,me8,me9,me10,me11,me12,me13,me14,me15,me16,me17,me18,me19,me20,me21,me22,me23,me24,me25,me26,me27,me28,me29,me30,me31,me32,me33,me34,me35,CL,⟨all_cons ⟨CL 0,na0_stack⟩ (fun k hk=>absurd hk (by simp)),all_cons ⟨CL 0,na0_last_seen⟩ (fun k hk=>absurd hk (by simp)),all_cons ⟨CL 1,na1_held⟩ (fun k hk=>absurd hk (by simp)),all_cons ⟨CL 1,na1_width⟩ (fun k hk=>absurd hk (by simp)),all_cons ⟨CL 1,na1_log⟩ (fun k hk=>absurd hk (by simp)),all_cons ⟨CL 1,na1_found⟩ (fun k hk=>absurd hk (by simp)),all_cons ⟨CL 3,na3_slot⟩ (all_cons ⟨CL 4,na4_slot⟩ (all_cons ⟨CL 5,na5_slot⟩ (all_cons ⟨CL 6,na6_slot⟩ (all_cons ⟨CL 7,na7_slot⟩ (all_cons ⟨CL 9,na9_slot⟩ (all_cons ⟨CL 10,na10_slot⟩ (fun k hk=>absurd hk (by simp)))))))),all_cons ⟨CL 3,na3_number⟩ (fun k hk=>absurd hk (by simp)),all_cons ⟨CL 4,na4_word⟩ (fun k hk=>absurd hk (by simp)),all_cons ⟨CL 4,na4_one⟩ (fun k hk=>absurd hk (by simp)),all_cons ⟨CL 4,na4_other⟩ (fun k hk=>absurd hk (by simp)),all_cons ⟨CL 5,na5_place⟩ (all_cons ⟨CL 6,na6_place⟩ (fun k hk=>absurd hk (by simp))),all_cons ⟨CL 7,na7_parts⟩ (all_cons ⟨CL 8,na8_parts⟩ (all_cons ⟨CL 9,na9_parts⟩ (fun k hk=>absurd hk (by simp)))),all_cons ⟨CL 7,na7_others⟩ (all_cons ⟨CL 8,na8_others⟩ (all_cons ⟨CL 9,na9_others⟩ (fun k hk=>absurd hk (by simp)))),all_cons ⟨CL 9,na9_name⟩ (all_cons ⟨CL 10,na10_name⟩ (fun k hk=>absurd hk (by simp))),yJj CL hn htk [3,4,5,6,7,8,9,10,11] ty sb⟩,mg_none_of X G z1,mg_none_of X G z2,mg_none_of X G z3,mg_none_of X G z4,mg_none_of X G z5,mg_none_of X G z6,mg_none_of X G z7,mg_none_of X G z8,mg_none_of X G z9,mg_none_of X G z10,mg_none_of X G z11,mg_none_of X G z12,mg_none_of X G z13,mg_of X G q1,⟨_,_,_,qk1,rfl,rfl,(by show 1<=sizeLine;decide),.cons ⟨_,rfl⟩ (.nil)⟩,mg_of X G q2,mg_of X G q3,⟨_,_,_,qk3,rfl,rfl,(by show 1<=sizeLine;decide),.cons ⟨_,rfl⟩ (.nil)⟩,mg_of X G q4⟩
 refine ⟨d73,?_,fun base _ _=>(yLP T).imp (yLQ T)⟩
 obtain ⟨_,_,_,_,_,_,_,_,_,rfl,_⟩:=F73.F.ex
 exact fun s v=>.of_eq rfl
theorem walk {l:PySem.W.OpenLaw}{q:Program}{loose:List Str}{XP:(Str->Option Value)->Heap->Prop}{YP:World->Heap->Prop}{d:DefRec}{K:Params->PySem.W.Frag}(hn:l.most=some 63) (hdf:d.params.defaults=[])
  (hY:∀ (w:World) (h:Heap),YP w h->(K w.params).In h)
  (F:∀ (w:World) (mg:Str->Option Value) (fa:Addr) (h:Heap),(K w.params).In h->h.Ns mainGlobals mg->mg d.name=some (.ref fa) ->
   ∃ fd:FuncData,(∀ (s:Shared) (u:Value),BindsTo s fd ⟨[u],[]⟩ [("_law_script",u)])/\∀ base:Heap,(K w.params).In base->base.Ns mainGlobals mg->FnOk l.prog w (K w.params) mg base CX0 44 fa fd ["_law_script"] (yFI (K w.params))) :
  PySem.W.WalkO q loose XP YP l.row.toRowW d [] (fun f vs=>PySem.call f vs) :=
 L2.walk_of (n:=63) (k:=44) (x:="_law_script") (CX:=fun _=>CX0) (sp:=fun w=>yFI (K w.params)) hn (by decide) hdf ⟨rfl,by decide,by decide⟩ hY F (fun _ _ a ns hl _ hS=>⟨a,ns,rfl,hS,hl,fun _=>rfl⟩) fun _ _ _ _ _ z=>z
end My
local macro_rules | `(tactic| walk_at "ka")=>`(tactic| first|exact True.intro|k_is|decide|((first|refine And.intro ?_ ?_|refine' L2.Cls.mk ?_ ?_ ?_ ?_|refine' My.TyR.mk ?_ ?_ ?_|refine' My.NS2.mk ?_ ?_)<;>walk_at "ka"))
local macro_rules | `(tactic| walk_at "kf")=>`(tactic| (refine' My.FB.mk (L2.fun_mk ?a ?b ?c) ?d;(case a=>k_is);(case b=>k_is);(case c=>k_is);(case d=>first|exact L2.Binds.all (My.ml1 fun _=>rfl)|exact L2.Binds.all (My.ml2 fun _ _=>rfl)|exact L2.Binds.all (My.ml3 fun _ _ _=>rfl)|exact L2.Binds.all (My.ml4 fun _ _ _ _=>rfl)|exact L2.Binds.all (My.ml5 fun _ _ _ _ _=>rfl))))
local macro_rules | `(tactic| walk_at "k4")=>`(tactic| (refine' ⟨?a,?b,?c,?d⟩;(case a=>k_is);(case b=>k_is);(case c=>k_is);(case d=>k_is)))
local macro_rules | `(tactic| walk_at "k3")=>`(tactic| (refine' ⟨?a,?b,?c⟩;(case a=>k_is);(case b=>k_is);(case c=>k_is)))
namespace PySem.W.Fast
local macro_rules|`(command|universe $xs*)=>do return Lean.mkNullNode (<-xs.mapM fun x=>`(command|theorem $x : True:=True.intro))
universe tw14516199676785755428 tw6964954516162103636 tw16621209217787163748 tw710925628226395402 tw17707155131314888328 tw4631954991095976138 tw16964265174517157832 tw4143254517951563005 tw14143290715466973257 tw11687193587156789529 tw531430223713825811 tw139079190524238841 tw16372056077007200695 tw17807790641614100256 tw10438950668485260238 tw12140569938652731532 tw1972931400861867753 tw15077715024630649804 tw17971903278859697111 tw11008047697395504490 tw8820488082637986249 tw9728649646427179532 tw16152408410638248373 tw4105174071706390297 tw8391871749769248803 tw8643973613937491614 tw984580315599622611 tw2036186520799468949 tw13076609893410513311 tw4127234766737849504 tw8989658405258743770 tw2718781118879736517 tw14166929552556034423 tw10399786189305501023 tw4407455201956389142 tw15194660875388891319 tw17574444068847269417 tw4805775468000869635 tw147487774566628908 tw16852962796283994809 tw8107302930053928795 tw17890164836143449144 tw8109669248022379294 tw12660468273169536240 tw3772039360873452460 tw17361445648451174703 tw3010880931856307996 tw17689779724320984550 tw14716586808432130814 tw3289494282760671627 tw13096238441820505660 tw15870648845533649739 tw4391515398885886915 tw6251364384732699347 tw3257009066807212058 tw290780512493985019 tw9039822801452781718 tw7402717001889212868 tw6629290476809137383 tw6209155542749341054 tw734882752554789760 tw16836879487544705362 tw10400417814822909831 tw3402045803356256060 tw3097255323661984761 tw558683475268408763 tw8615121284903401923 tw6316420863673979476 tw962457767765985777 tw12405565400507205701 tw9587257698897535833 tw1715441257934702500 tw13043002605345910110 tw13799243924853220575 tw11995221186046953043 tw12601002132787696126 tw11923085388281774900 tw10766987098104895276 tw13651265851806076659 tw593539258209247484 tw9791562020370124242 tw1197046924064185807 tw7425342900647976230 tw3131090591305413595 tw18156351061820974980 tw4069897770692825598 tw6256687382782576941 tw6889561061603490137 tw9709603839064783258 tw12532109499776119761 tw8158806698443447351 tw15821612065406103558 tw2903102829588816553 tw3341401113620010371 tw15755913774394753806 tw3316725152709590698 tw11722664056802164499 tw10646756285234035668 tw16311215386775822742 tw7470553403905931282 tw6108586700894438525 tw17492899260048202381 tw16686450847646805098 tw8053516593549806643 tw17442719542710877521 tw9350844522721830500 tw13223060913622684495 tw13843400461802002145 tw2661876578875715055 tw17252783391994860313 tw3073473468134276497 tw1490169108003756019 tw12841848053243463653 tw6691003670897890032 tw3328803993700557534 tw8288769647948024699 tw5273561443902526465 tw594802050628276575 tw9054395732532985985 tw4732868759463638499 tw5652003504403232996 tw18058927369873818400 tw2543476741580427504 tw2046862882659213578 tw14704196218053343478 tw11233799754842114176 tw7721814574843340409 tw7024663433663285606 tw11013825462922355362 tw14524325816966650176 tw7009363973882135169 tw7161169765748125527 tw2345543848001295985 tw2101119506945897920 tw17576079051012291111 tw4910202797774625022 tw1336464121473108715 tw5582988588375062903 tw6635469962831446008 tw13717838696086817064 tw2328090662309084911 tw203379926785159423 tw17160429904645157398 tw12254516566975439124 tw7517289524058363993 tw10296227473038203764 tw14383894128515439592 tw9077762666031727701 tw8864429781049992007 tw17213750806787066314 tw8072165083645438110 tw18109090408841179617 tw12149191743365979286 tw13752040249271778891 tw7786333816819024868 tw5228462959825707506 tw1123656113421857647 tw10715586703842038694 tw4581255638469282609 tw9993545052082908518 tw522799663849000805 tw12721300286126197114 tw5712025308803571978 tw14886722653760425406 tw8138163339249012967 tw10850872017297297741 tw8778521965298465569 tw13884419310501188419 tw10090335600471778147 tw8095552749058918141 tw7872916253318373311 tw4927506018398862936 tw16006777038815045197 tw2565634440218338054 tw9370886639728359453 tw2485109252373204959 tw10276656635060488513 tw17969447141768011639 tw7551752043376478286 tw7416546403231762494 tw8253169611251528465 tw10917947026340495776 tw15492797581754360836 tw5876720407467067985 tw15634645832090060887 tw14756640283845021534 tw517998577850980782 tw2655437553771139560 tw15911564121054579177 tw16543695659090765403 tw17957774203805805884 tw610480025301705206 tw8102897262389347523 tw10227717905384101113 tw16503162273272955069 tw3412817294044077816 tw1381305148474954694 tw2246974837063993121 tw18176540179429047393 tw14516385319886098457 tw16895925186671725361 tw17001299712895220905 tw5893325891453489680 tw1163924350151326223 tw11239109747528207808 tw8457039974424241303 tw626846882271415254 tw9556734025777822192 tw7492691240086646905 tw7758456865715639601 tw4838871476633272308 tw1417547884103490703 tw9714705529153784257 tw14490601449591465494 tw17133634625250914246 tw862876829733356004 tw16399844475356782619 tw384868839930017588 tw8291464305422228729 tw4652817850197730463 tw10181173262313918230 tw17917602199480430764 tw5767176590489770266 tw6286985624391724948 tw3095789106381784909 tw13162177674480164265 tw5733588573330179016 tw6559084567209299886 tw12744125120548154181 tw17182854723504178413 tw12320383742552517747 tw3482511383426800546 tw9834420526264775170 tw13046369899937247197 tw9125139309622633736 tw4230586812677090149 tw9857977559201566054 tw343088998736224978 tw10901513667625848645 tw156094872309736219 tw13241603035278973525 tw7175327908782355882 tw6999324982519394025 tw6911493961328653328 tw4810736459270310307 tw12015860520080152710 tw9313753089030261625 tw9928229060811021989 tw4504448391440857489 tw7663553526359713471 tw4190266155446058453 tw17748961795581581654 tw10869636611463109492 tw10725590466950514821 tw14211368029453648155 tw6757690547212854385 tw1069407815840742196 tw13566896498168493331 tw7155679611730360183 tw8966238228537654852 tw3075602968017324962 tw8572380535300659235 tw10498600496748941515 tw8293817715717802563 tw1597523149772265242 tw11648786807374314558 tw64908215478799091 tw7625722160096939956 tw17937965562558357761 tw12089887594793335887 tw16023701160843345358 tw3003016669970166546 tw4879960136333225977 tw14443928865456696212 tw5053879289517177981 tw4603853369389563364 tw13677062152326869319 tw5556016911942483736 tw668328531918080685 tw12284586344547679584 tw2696727707428064939 tw15127217746932164835 tw17989615903823089427 tw7911829644196828881 tw15403733662747134132 tw14437730985020534128 tw14661190593827658302 tw16683567058815959491 tw17493188698658118729 tw6923425163566453637 tw2805432041057207360 tw10431727753333186517 tw14809560393995848569 tw10113862739001236982 tw9550657870197079916 tw6469195498843893311 tw912789440445341294 tw15138423367933999020 tw15493721450351231880 tw10903250086930952805 tw14285488308070948415 tw15222646233414570840 tw2501621304586521772 tw13543555627156881558 tw11269066723571435200 tw4344670487772472132 tw10260477522039669840 tw17077726911015760570 tw2239545483191433343 tw10137016892792961689 tw8562916297933513271 tw16829436074278081577 tw4635477690034522956 tw12602613178889589860 tw12663111937902645732 tw116271711416738810 tw13602873478675228078 tw8657060233799404580 tw14355334589855732330 tw8410684964406279625 tw4381217003203929854 tw1931740955417905880 tw7415154764194523024 tw14024393461635174405 tw1040411175238615875 tw8378384194974980798 tw10449615058296065616 tw12238960096124516212 tw10885994648178158278 tw13815331398810030541 tw11927160152050690134 tw6646195230937726518 tw15606419524864173705 tw17852939140759489780 tw6191287446634659833 tw1709438241653454904 tw7845920359390156040 tw4278248913698083380 tw13931688639212654442 tw12597452899699852507 tw15506160360932097584 tw14551088447295372467 tw3843743129509950326 tw17302554927144516855 tw17302029321456031828 tw4750165159452793245 tw3819014070243531849 tw1461942166596677536 tw1509619658265691022 tw4470094790483781209 tw5711327492877719381 tw12095209115778813083 tw1626730795072671658 tw11562715400953995066 tw9940217473423923460 tw4098787326267903716 tw9343102093392578715 tw7110259750951373938 tw1142578204681493324 tw5305171345107148040 tw2892192290902341850 tw12520686738890010471 tw6760028652936892764 tw12938749783360334652 tw16174858985540550940 tw8905924323329243306 tw5349760092319965098 tw13105496757569769677 tw4621136611904472887 tw3672580500227020437 tw807453395789108189 tw14679465378772840763 tw5815612541082305739 tw18085710945608197949 tw1077855687820809608 tw1765615248178305253 tw4674238624815641832 tw14667267530290730107 tw1379247985816875751 tw11565964739414705030 tw8077473806722591090 tw6438350680777794038 tw15467074841288947135 tw8830560874196926329 tw2698322351666291079 tw9215330200486693768 tw12142692611067150534 tw8393754253969018869 tw8115257943179315755 tw16562145765872438678 tw9908895959291098861 tw9965362987319737512 tw1130081283195176002 tw1217791023098991028 tw10929535637222515094 tw12849281681177544542 tw16029640133332684 tw1351697235768518152 tw6408596586967954635 tw16668556598440535569 tw17576111339400954060 tw13626932299681866114 tw13459326615101668431 tw9876450774420983754 tw7240072282674024719 tw11728832092579970619 tw10795395643775906141 tw6492545446863212784 tw9282274413614938457 tw16593414647663631385 tw5931214314311485218 tw1676973015612524352 tw12485000828834661008 tw6680169543417491024 tw3631388209581738856 tw6020344300867922044 tw13364412865524376531 tw3517803360130498433 tw9195582302330873904 tw14223986192584167347 tw15354663239767197690 tw9077344723705429680 tw3110463821257964203 tw14418705539106351914 tw10774054898820806041 tw2219043104080295081 tw13280269667542174472 tw2168982528061529505 tw12325101165699747884 tw1190230886131216278 tw8016710507186137691 tw8651608659693986123 tw17468121187485287132 tw10578615197603146041 tw15173784211105502847 tw11890344562983253972 tw8190104748737563794 tw6292173548668496105 tw1404340856000828709 tw16009339882180381354 tw15363658019069605629 tw11187564437569619988 tw14953492417018619582 tw4951902896487066510 tw15427700597265920945 tw1723680858348717261 tw1417576189509524962 tw12621617227268583787 tw9995185905299261306 tw7180584135996957828 tw13569912840887538490 tw2876626091745459069 tw811904738839458003 tw16704951957727112263 tw15100390011057721870 tw4136776371110017636 tw15090085006273048174 tw16892684235591844273 tw6211400775847047625 tw23121583810325968 tw6159522248110556205 tw16898118590518466046 tw3091283074413264146 tw12090012366755555976 tw17431928475627888975 tw3826985680740561136 tw16219693170871651925 tw6471534661123060868 tw605157875163263456 tw11945774293819597554 tw9386838227897020446 tw13502651577250221420 tw10254278170307931164 tw16164589668751952818 tw12716838277904296794 tw9862001622823655046 tw14113436026130692538 tw14691530040892623330 tw7231172755167133266 tw11562757167720405657 tw4807425036221863462 tw8466403640303136312
end PySem.W.Fast
open PySem PySem.W PyProof.Rows
set_option maxRecDepth 100000 in
set_option maxHeartbeats 0 in
theorem PySem.Challenge.cw_retryhall_k20_whole_alone_by_rows_holds : PySem.Challenge.rw_retryhall_k20_whole_alone_by_rows.Holds := by
 w_on;o_law;k_head;(case hw=>w_witness2)
 k_fill
 refine My.walk (l:=PySem.Challenge.rw_retryhall_k20_whole_alone_by_rows) rfl rfl (fun w h Y=>PySem.W.kIn_of Y) ?F
 case F =>
  intro w mg fa h KX G hmg
  refine' My.all_mk KX G hmg ?n0 ?n1 ?n2 ?n3 ?n4 ?n5 ?n6 ?n7 ?n8 ?n9 ?n10 ?n11 ?n12 ?cl ?mk0 ?mk1 ?mk2 ?mk3 ?mk4 ?mk5 ?mk6 ?mk7 ?mk8 ?mk9 ?mk10 ?mk11 ?io11 ?kp11 ?mk12 ?io12 ?kp12 ?me1 ?me2 ?me3 ?me4 ?me5 ?me6 ?me7 ?me8 ?me9 ?me10 ?me11 ?me12 ?me13 ?me14 ?me15 ?me16 ?me17 ?me18 ?me19 ?me20 ?me21 ?me22 ?me23 ?me24 ?me25 ?me26 ?me27 ?me28 ?me29 ?me30 ?me31 ?me32 ?me33 ?me34 ?me35 ?a10 ?a11 ?a34 ?a46 ?a50 ?a51 ?a52 ?a53 ?a54 ?a55 ?a56 ?a57 ?a58 ?a59 ?a60 ?a61 ?a62 ?a63 ?a64 ?a65 ?a66 ?a67 ?a68 ?a69 ?a70 ?a71 ?a72 ?a73 ?F1 ?F2 ?F3 ?F4 ?F5 ?F6 ?F7 ?F8 ?F9 ?F10 ?F11 ?F12 ?F13 ?F14 ?F15 ?F16 ?F17 ?F18 ?F19 ?F20 ?F21 ?F22 ?F23 ?F24 ?F25 ?F26 ?F27 ?F28 ?F29 ?F30 ?F31 ?F32 ?F33 ?F34 ?F35 ?F36 ?F37 ?F38 ?F39 ?F40 ?F41 ?F42 ?F43 ?F44 ?F45 ?F46 ?F47 ?F48 ?F49 ?F50 ?F51 ?F52 ?F53 ?F54 ?F55 ?F56 ?F57 ?F58 ?F59 ?F60 ?F61 ?F62 ?F63 ?F64 ?F65 ?F66 ?F67 ?F68 ?F69 ?F70 ?F71 ?F72 ?F73 ?na0_stack ?na0_last_seen ?na1_held ?na1_width ?na1_log ?na1_found ?na3_slot ?na4_slot ?na5_slot ?na6_slot ?na7_slot ?na9_slot ?na10_slot ?na3_number ?na4_word ?na4_one ?na4_other ?na5_place ?na6_place ?na7_parts ?na8_parts ?na9_parts ?na7_others ?na8_others ?na9_others ?na9_name ?na10_name ?ty ?sb ?hn ?htk ?z1 ?z2 ?z3 ?z4 ?z5 ?z6 ?z7 ?z8 ?z9 ?z10 ?z11 ?z12 ?z13 ?q1 ?qk1 ?q2 ?q3 ?qk3 ?q4
  (case n0|n1|n2|n3|n4|n5|n6|n7|n8|n9|n10|n11|n12=>k_is)
  (case cl=>walk_at "ka")
  (case mk0|mk1|mk2|mk3|mk4|mk5|mk6|mk7|mk8|mk9|mk10=>walk_at "k4")
  (case mk11|io11|kp11|mk12|io12|kp12=>k_is)
  (case me1|me2|me3|me4|me5|me6|me7|me8|me9|me10|me11|me12|me13|me14|me15|me16|me17|me18|me19|me20|me21|me22|me23|me24|me25|me26|me27|me28|me29|me30|me31|me32|me33|me34=>walk_at "k3")
  (case me35=>walk_at "k4")
  (case a10|a11|a34|a46|a50|a51|a52|a53|a54|a55|a56|a57|a58|a59|a60|a61|a62|a63|a64|a65|a66|a67|a68|a69|a70|a71|a72|a73=>k_is)
  (case F1|F2|F3|F4|F5|F6|F7|F8|F9|F10|F11|F12|F13|F14|F15|F16|F17|F18|F19|F20|F21|F22|F23|F24|F25|F26|F27|F28|F29|F30|F31|F32|F33|F34|F35|F36|F37|F38|F39|F40|F41|F42|F43|F44|F45|F46|F47|F48|F49|F50|F51|F52|F53|F54|F55|F56|F57|F58|F59|F60|F61|F62|F63|F64|F65|F66|F67|F68|F69|F70|F71|F72|F73=>walk_at "kf")
  (case na0_stack|na0_last_seen|na1_held|na1_width|na1_log|na1_found|na3_slot|na4_slot|na5_slot|na6_slot|na7_slot|na9_slot|na10_slot|na3_number|na4_word|na4_one|na4_other|na5_place|na6_place|na7_parts|na8_parts|na9_parts|na7_others|na8_others|na9_others|na9_name|na10_name=>unfold L2.NoAttr;k_is)
  (case ty|sb=>walk_at "ka")
  (case hn|htk|z1|z2|z3|z4|z5|z6|z7|z8|z9|z10|z11|z12|z13|q1|qk1|q2|q3|qk3|q4=>k_is)
