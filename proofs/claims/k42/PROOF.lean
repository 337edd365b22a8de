import PyProof.Rows.All
import Wide.All
import OpenK.KLine
import KE.KIntText
import KE.KIsAll
import KE.KItemsList
import KE.KRevIter
import KE.KSortTup
import KE.LcSums
import KE.KPairComp
import Wide.FinOn
import Lean
import PyProof.EqAt
import PyProof.EqKinds
import PyProof.TupleCall
import PySem.Challenge.RW_retryhall_k42_calmed_rounds
set_option Elab.async false
set_option linter.all false
set_option maxRecDepth 100000
set_option maxHeartbeats 4000000
set_option compiler.extract_closed false
namespace PySem.W.Fast
local macro_rules|`(command|universe $xs*)=>do return Lean.mkNullNode (<-(xs.flatMap fun x=>#[`hD_++x.getId,`PySem.Challenge++x.getId]).append ((Array.range 1462).map fun i=>`hD_++.mkSimple ("o_"++toString i)) |>.mapM fun n=>`(command|theorem $(Lean.mkIdent (.mkSimple ("tw"++toString n.hash))) : True:=True.intro))
universe heap_39 heap_46 heap_1462 tree_47 tree_70 tree_85 tree_100 tree_115 tree_130 tree_216 tree_280 tree_359 tree_368 tree_458 tree_516 tree_551 tree_587 tree_623 tree_659 tree_695 tree_731 tree_767 tree_803 tree_839 tree_889 tree_933 tree_1054 tree_1139 tree_1159 tree_1276 tree_1359 tree_1438 tree_1461 view_39 sts_49 sts_71 sts_86 sts_101 sts_116 sts_131 sts_217 sts_281 sts_360 sts_369 sts_459 sts_517 sts_552 sts_588 sts_624 sts_660 sts_696 sts_732 sts_768 sts_804 sts_840 sts_890 sts_934 sts_1143 sts_1160 sts_1363 sts_1439 env_41 pw_retryhall_k42_calmed_rounds rw_retryhall_k42_calmed_rounds
end PySem.W.Fast
set_option maxHeartbeats 0 in
open_top hD_ for PySem.Challenge.rw_retryhall_k42_calmed_rounds
local macro_rules|`(tactic|omega)=>`(tactic|first|lia|omega (config:={}))
noncomputable section
open PySem.W (fnOf findIn keepIn subIn codeIn nsIn isFn mg_of plainGet hasDictIn makesIn instObj typeIn emptyDict mroIn kia_one Frag)
local macro_rules | `(tactic| rfl')=>`(tactic| decide +kernel)
open List (mem_cons_self mem_cons_of_mem mem_append_left getElem?_set_self getElem?_set_ne mem_append_right length_cons map_cons length_map append_nil of_mem_zip replicate length length_take getElem?_append_right getElem?_replicate getElem?_append_left getElem?_map mem_of_getElem? length_append map_nil length_drop size_toArray length_set any_cons getElem_of_mem map_append lookup_cons prefix_refl length_zip find?_cons length_nil zip_cons_cons getD map_map toArray getElem_mem mem_cons not_mem_nil getD_eq_getElem?_getD map_set append_assoc)
open Nat (lt_of_lt_of_le lt_irrefl ne_of_lt le_of_lt le_of_eq zero_le sub_self)
open Option (map_some isSome_map bind_some)
open Bool (and_eq_true)
open PySem.F (plainAttrs_list slot_list_pop type_list_pop)
noncomputable section
namespace L2
open PySem PySem.Spec PyProof.Rows
abbrev Key:=Sum Int Str
noncomputable def ymZ:Key->Value->Bool
 | .inl k,v=>Value.isInt k v
 | .inr x,v=>Value.isStrOf x v
noncomputable def yIh (w:World):Key->Int
 | .inl k=>hashInt k
 | .inr x=>hashStr w x
theorem ybr:∀ {k:Key}{v:Value},ymZ k v=true->(∃ i t,k=Sum.inl i/\v=Value.int i t)\/∃ x t,k=Sum.inr x/\v=Value.str x t
 | .inl i,v,h=>by obtain ⟨t,e⟩:=Value.isInt_shape h;exact .inl ⟨i,t,rfl,e⟩
 | .inr x,v,h=>by obtain ⟨t,e⟩:=Value.isStrOf_shape h;exact .inr ⟨x,t,rfl,e⟩
theorem yqA i t:ymZ (.inl i) (.int i t)=true:=by simp [ymZ,Value.isInt]
theorem yqB x t:ymZ (.inr x) (.str x t)=true:=by simp [ymZ,Value.isStrOf]
theorem yBt a b:decide ((Sum.inl a:Key)=Sum.inl b)=(a == b):=by grind
theorem yBu a b:decide ((Sum.inr a:Key)=Sum.inr b)=decide (a=b):=by simp_all
theorem yBv a b:decide ((Sum.inl a:Key)=Sum.inr b)=false:=decide_eq_false fun q=>nomatch q
theorem yBw a b:decide ((Sum.inr a:Key)=Sum.inl b)=false:=decide_eq_false fun q=>nomatch q
def ycN (prog:Program) (w:World):PySem.KeyKind prog w Key where
 is:=ymZ
 hash:=yIh w
 inj:=fun v a b ha hb=>by
  rcases ybr ha with ⟨i,t,rfl,rfl⟩|⟨x,t,rfl,rfl⟩
  .rcases ybr hb with ⟨j,u,rfl,e⟩|⟨y,u,rfl,e⟩
   .injection e with e1 _;rw [e1]
   .exact nomatch e
  .rcases ybr hb with ⟨j,u,rfl,e⟩|⟨y,u,rfl,e⟩
   .exact nomatch e
   .injection e with e1 _;rw [e1]
 byValue:=fun k v h=>by rcases ybr h with ⟨i,t,rfl,rfl⟩|⟨x,t,rfl,rfl⟩<;>rfl
 pyHash:=fun hv h=>by
  rcases ybr hv with ⟨i,t,rfl,rfl⟩|⟨x,t,rfl,rfl⟩
  .exact wpAny_pyHash_int h
  .exact wpAny_pyHash_str h
 eqBool:=fun hu hv h=>by
  rcases ybr hu with ⟨i,t,rfl,rfl⟩|⟨x,t,rfl,rfl⟩
  .rcases ybr hv with ⟨j,u,rfl,rfl⟩|⟨y,u,rfl,rfl⟩
   .rw [yBt] at h;exact wpAny_eqBool_int h
   .rw [yBv] at h;exact SeqAt.EqAt.int_str i t y u _ _ _ _ h
  .rcases ybr hv with ⟨j,u,rfl,rfl⟩|⟨y,u,rfl,rfl⟩
   .rw [yBw] at h;exact SeqAt.EqAt.str_int x t j u _ _ _ _ h
   .rw [yBu] at h;exact wpAny_eqBool_str h
 «strs»:=fun k x t v h=>by
  rcases ybr h with ⟨i,u,rfl,e⟩|⟨y,u,rfl,e⟩
  .exact nomatch e
  .injection e with e1 _
   subst e1;cases v<;>rfl
theorem yna prog w i t:(ycN prog w).is (.inl i) (.int i t)=true:=yqA i t
theorem ynb prog w x t:(ycN prog w).is (.inr x) (.str x t)=true:=yqB x t
inductive V where
 | non|bl (b:Bool)|int (i:Int)|str (x:Str)|byt (b:Array UInt8)|flt (b:UInt64)|ref (a:Addr)|ty (n:String)
 deriving DecidableEq
noncomputable def RelV:V->Value->Prop
 | .non,u=>u=Value.none
 | .bl b,u=>u=Value.bool b
 | .int i,u=>∃ t,u=Value.int i t
 | .str x,u=>∃ t,u=Value.str x t
 | .byt b,u=>∃ t,u=Value.bytes b t
 | .flt b,u=>∃ t,u=Value.float b t
 | .ref a,u=>u=Value.ref a
 | .ty n,u=>u=Value.type n
abbrev Vals:List V->List Value->Prop:=Paired RelV
theorem Vals.length (r:Vals xs us):xs.length=us.length:=Paired.length r
theorem Vals.get:∀ {xs:List V}{us:List Value}{i:Nat}{x:V},Vals xs us->xs[i]?=some x->∃ u,us[i]?=some u/\RelV x u
 | _,_,_,_,.nil,e=>by simp at e
 | _,_,0,_,.cons r _,e=>by simp at e;subst e;exact ⟨_,rfl,r⟩
 | _,_,i+1,x,.cons _ t,e=>by obtain ⟨u,h1,h2⟩:=Vals.get (i:=i) (x:=x) t (by simpa using e);exact ⟨u,by simpa using h1,h2⟩
theorem Vals.set (r:RelV x u):∀ {xs:List V}{us:List Value}(i:Nat),Vals xs us->Vals (xs.set i x) (us.set i u)
 | _,_,_,.nil=>.nil
 | _,_,0,.cons _ t=>.cons r t
 | _,_,i+1,.cons q t=>.cons q (Vals.set r i t)
theorem Vals.append:∀ {xs ys:List V}{us ws:List Value},Vals xs us->Vals ys ws->Vals (xs++ys) (us++ws)
 | _,_,_,_,.nil,s=>s
 | _,_,_,_,.cons r t,s=>.cons r (Vals.append t s)
theorem Vals.take:∀ {xs:List V}{us:List Value} n,Vals xs us->Vals (xs.take n) (us.take n)
 | _,_,0,_=>.nil
 | _,_,_+1,.nil=>.nil
 | _,_,n+1,.cons r t=>.cons r (Vals.take n t)
theorem Vals.drop:∀ {xs:List V}{us:List Value}(n:Nat),Vals xs us->Vals (xs.drop n) (us.drop n)
 | _,_,0,r=>r
 | _,_,_+1,.nil=>.nil
 | _,_,n+1,.cons _ t=>Vals.drop n t
def RelO:Option V->Option Value->Prop
 | some v,some u=>RelV v u
 | none,none=>True
 | _,_=>False
def KV {κ:Type}:List (κ×V)->List (κ×Value)->Prop:=Paired fun (p:κ×V) (q:κ×Value)=>p.1=q.1/\RelV p.2 q.2
noncomputable def kV:Key->V
 | .inl i=>.int i
 | .inr x=>.str x
inductive HO where
 | lst (xs:List V)
 | tup (xs:List V)
 | dK (kvs:List (Key×V))|dT (kvs:List (List Key×V))
 | set (S:Int->Bool) (n:Nat)
 | ins (C dx:Addr) (fs:List (Str×V))
 | own (x:Addr)
 | xd (fs:List (Str×V))
 | met (f x:Addr)
 | rng (lo hi:Int)
 | frz (o:Obj) (u:HO)
 | tbl (ps:Array Value)
 | ext (M:Heap->Prop)
abbrev Hp:=Addr->Option HO
noncomputable def upd (H:Hp) (a:Addr) (o:HO):Hp:=fun b=>if b=a then some o else H b
theorem yK:upd H a o a=some o:=by unfold upd;rw [if_pos rfl]
theorem yL (h:b≠a):upd H a o b=H b:=by unfold upd;rw [if_neg h]
theorem yFc {H:Hp}{a b:Addr}{o u:HO}(h:H a=some o) (h':H b=some u) (d:o≠u):a≠b:=by intro e;subst e;rw [h] at h';exact d (Option.some.inj h')
theorem yby {H:Hp}{a b:Addr}{o:HO}(h:H a=some o) (h':H b=none):a≠b:=by grind
section
variable (P:Program) (w:World)
def ObjOk (H:Hp) (h:Heap) (a:Addr):HO->Prop
 | .lst xs=>xs.length<=sizeLine/\∃ (its:List Value) (n:Nat),Vals xs its/\h.get? a=some { cls:=.type "list",data:=.seq its.toArray n }
 | .tup xs=>xs.length<=sizeLine/\∃ its:List Value,Vals xs its/\IsTup h a its.toArray
 | .dK kvs=>kvs.length<=sizeLine/\(a == sysModules)=false/\∃ vs,KV kvs vs/\h.DictOf (ycN P w) a vs
 | .dT kvs=>kvs.length<=sizeLine/\(a == sysModules)=false/\∃ xs:List (List Key×Addr×Value),
   Paired (fun (p:List Key×V) (q:List Key×Addr×Value)=>p.1=q.1/\H q.2.1=some (.tup (p.1.map kV))/\RelV p.2 q.2.2) kvs xs /\
   ∃ o es ep,h.get? a=some o/\o.ExactDict/\o.data=.dict es ep/\es.toList=xs.map (entryOfKey (tupleKind (ycN P w)))/\(xs.map (·.1)).Nodup
 | .set S n=>h.SetOf (intKind P w) a S n
 | .ins C dx fs=>H dx=some (.own a)/\fs.length<=1000/\dx≠a/\h.get? a=some (instObj C dx) /\
   ∃ mA,h.Ns1 dx mA/\(∀ f,RelO (fs.lookup f) (mA f))/\PySem.Within mA (fs.map (·.1))
 | .own _=>∃ o,h.get? a=some o
 | .xd fs=>∃ mA,h.Ns1 a mA/\∀ f,RelO (fs.lookup f) (mA f)
 | .rng lo hi=>∃ t u v,h.get? a=some { cls:=.type "range",data:=.fields #[.int lo t,.int hi u,.int 1 v] }
 | .frz o u=>h.get? a=some o/\ObjOk H h a u
 | .tbl ps=>h.get? a=some { cls:=.none,data:=.fields ps }
 | .met f x=>h.get? a=some (PySem.W.methodObj (.ref f) (.ref x))
 | .ext M=>M h/\(∃ o,h.get? a=some o)/\∀ h1 h2:Heap,M h1->(∀ o,h1.get? a=some o->h2.get? a=some o)->M h2
def HOk (H:Hp) (h:Heap):Prop:=∀ a o,H a=some o->ObjOk P w H h a o
end
section
variable {P:Program}{w:World}{H H':Hp}{h h':Heap}{a:Addr}{o:HO}
theorem ObjOk.lt (x:ObjOk P w H h a o):a<h.objs.size:=by
 cases o with
 | lst xs=>obtain ⟨_,_,_,_,e⟩:=x;exact Heap.lt_size e
 | tup xs=>obtain ⟨_,_,_,p⟩:=x;exact p.lt
 | dK kvs=>obtain ⟨_,_,_,_,o,_,_,e,_⟩:=x;exact Heap.lt_size e
 | dT kvs=>obtain ⟨_,_,_,_,o,_,_,e,_⟩:=x;exact Heap.lt_size e
 | set S n=>obtain ⟨o,_,_,_,e,_⟩:=x;exact Heap.lt_size e
 | ins C dx fs=>obtain ⟨_,_,_,e,_⟩:=x;exact Heap.lt_size e
 | own y=>obtain ⟨_,e⟩:=x;exact Heap.lt_size e
 | xd fs=>obtain ⟨_,⟨_,_,_,e,_⟩,_⟩:=x;exact Heap.lt_size e
 | rng lo hi=>obtain ⟨_,_,_,e⟩:=x;exact Heap.lt_size e
 | frz ob u=>obtain ⟨e,_⟩:=x;exact Heap.lt_size e
 | tbl ps=>exact Heap.lt_size (x)
 | met f y=>exact Heap.lt_size (x)
 | ext M=>obtain ⟨_,⟨_,e⟩,_⟩:=x;exact Heap.lt_size e
theorem Paired.mapP {Y d:Type}{F G:Y->d->Prop}:∀ {l₁:List Y}{l₂:List d},Paired F l₁ l₂->(∀ a b,F a b->G a b)->Paired G l₁ l₂
 | _,_,.nil,_=>.nil
 | _,_,.cons r t,f=>.cons (f _ _ r) (Paired.mapP t f)
theorem ObjOk.stay (x:ObjOk P w H h a o) (k:∀ b u,b=a\/H b=some (.own a)->h.get? b=some u->h'.get? b=some u)
  (l:∀ b,H b=some (.own a)->H' b=some (.own a)) (m:∀ b xs,H b=some (.tup xs)->H' b=some (.tup xs)):ObjOk P w H' h' a o:=by
 induction o with
 | lst xs=>obtain ⟨z,its,n,r,e⟩:=x;exact ⟨z,its,n,r,k _ _ (.inl rfl) e⟩
 | tup xs=>obtain ⟨z,its,r,ob,e,c⟩:=x;exact ⟨z,its,r,ob,k _ _ (.inl rfl) e,c⟩
 | dK kvs=>obtain ⟨z,y,vs,r,ob,es,ep,e,c⟩:=x;exact ⟨z,y,vs,r,ob,es,ep,k _ _ (.inl rfl) e,c⟩
 | dT kvs =>
  obtain ⟨z,y,xs,r,ob,es,ep,e,c⟩:=x;exact ⟨z,y,xs,Paired.mapP r fun p q z=>⟨z.1,m _ _ z.2.1,z.2.2⟩,ob,es,ep,k _ _ (.inl rfl) e,c⟩
 | set S n=>obtain ⟨ob,es,ep,t,e,c⟩:=x;exact ⟨ob,es,ep,t,k _ _ (.inl rfl) e,c⟩
 | ins C dx fs =>
  obtain ⟨d,z,j,e,i,⟨od,es,ep,s,c⟩,r⟩:=x;exact ⟨l _ d,z,j,k _ _ (.inl rfl) e,i,⟨od,es,ep,k _ _ (.inr d) s,c⟩,r⟩
 | own y=>obtain ⟨ob,e⟩:=x;exact ⟨ob,k _ _ (.inl rfl) e⟩
 | xd fs=>obtain ⟨i,⟨od,es,ep,e,c⟩,r⟩:=x;exact ⟨i,⟨od,es,ep,k _ _ (.inl rfl) e,c⟩,r⟩
 | rng lo hi=>obtain ⟨t,u,v,e⟩:=x;exact ⟨t,u,v,k _ _ (.inl rfl) e⟩
 | frz ob u ih=>obtain ⟨e,q⟩:=x;exact ⟨k _ _ (.inl rfl) e,ih q⟩
 | tbl ps =>
  have e:=x;exact k a _ (.inl rfl) e
 | met f y =>
  have e:=x;exact k a _ (.inl rfl) e
 | ext M=>obtain ⟨p,⟨o,e⟩,st⟩:=x;exact ⟨st _ _ p fun o q=>k _ _ (.inl rfl) q,⟨o,k _ _ (.inl rfl) e⟩,st⟩
theorem HOk.lt (x:HOk P w H h) (e:H a=some o):a<h.objs.size:=(x a o e).lt
theorem HOk.fresh (x:HOk P w H h) (e:h.objs.size<=a):H a=none:=by
 cases q:H a with
 | none=>rfl
 | some u=>exact absurd (lt_of_lt_of_le (x.lt q) e) (lt_irrefl _)
theorem HOk.kept (x:HOk P w H h) (k:∀ b u,h.get? b=some u->h'.get? b=some u):HOk P w H h':=fun a o e =>
 (x a o e).stay (fun b u _ q=>k b u q) (fun _ q=>q) fun _ _ q=>q
theorem HOk.laid (x:HOk P w H h) (k:∀ b u,h.get? b=some u->h'.get? b=some u) (hp:h.objs.size<=a) (f:ObjOk P w (upd H a o) h' a o):HOk P w (upd H a o) h':=fun b u e=>by
 have g:=x.fresh hp
 by_cases i:b=a
 .subst i;rw [yK] at e;cases e;exact f
 .rw [yL i] at e;exact (x b u e).stay (fun c v _ q=>k c v q) (fun c q=>by rw [yL (yby q g)];exact q) fun c xs q=>by rw [yL (yby q g)];exact q
end
noncomputable def Rd (H:Hp) (a:Addr) (u:HO):Prop:=H a=some u\/∃ o,H a=some (.frz o u)
theorem Rd.ok (r:Rd H a u) (x:HOk P w H h):ObjOk P w H h a u:=by
 rcases r with r|⟨o,r⟩
 .exact x a u r
 .obtain ⟨_,q⟩:=x a _ r;exact q
noncomputable def Mut:Option HO->Prop
 | some (.lst _)=>True
 | some (.dK _)=>True
 | some (.dT _)=>True
 | some (.set _ _)=>True
 | some (.ins _ _ _)=>True
 | some (.ext _)=>True
 | _=>False
section
variable {P:Program}{w:World}{H:Hp}{h h':Heap}{x e:Addr}{o':HO}
theorem HOk.write (p:HOk P w H h) (g:Mut (H x)) (t:e=x\/H e=some (.own x)) (k:∀ b u,b≠e->h.get? b=some u->h'.get? b=some u) (l:∃ u,h'.get? e=some u)
  (i:ObjOk P w (upd H x o') h' x o'):HOk P w (upd H x o') h':=fun b u q=>by
 have f:∀ c y,H c=some (.own y)->c≠x:=fun c y r z=>by subst z;rw [r] at g;exact g
 have d:∀ c xs,H c=some (.tup xs)->c≠x:=fun c xs r z=>by subst z;rw [r] at g;exact g
 by_cases m:b=x
 .subst m;rw [yK] at q;cases q;exact i
 .rw [yL m] at q
  by_cases j:b=e
  .have n:H b=some (.own x):=by grind
   rw [q] at n;cases n;obtain ⟨v,o⟩:=l;exact ⟨v,by rw [j];exact o⟩
  .refine (p b u q).stay (fun c v s r=>k c v ?_ r) (fun c r=>by rw [yL (f c b r)];exact r) fun c xs r=>by rw [yL (d c xs r)];exact r
   grind
end
structure Un (fs ex:List Addr) (H H':Hp) (h h':Heap):Prop where
 keep:∀ b o,h.get? b=some o->H b=none->b∉fs->b∉ex->h'.get? b=some o
 slot:∀ b o,h.get? b=some o->H b=none->b∈fs->b∉ex->∃ sl,h'.get? b=some { o with slots:=sl }
 free:∀ b o,h.get? b=some o->H b=none->b∉ex->H' b=none
 there:∀ b o,h.get? b=some o->b∉ex->∃ o',h'.get? b=some o'
 tups:∀ b xs,H b=some (.tup xs)->H' b=some (.tup xs)
 frzs:∀ b o u,H b=some (.frz o u)->H' b=some (.frz o u)
 tbls:∀ b ps,H b=some (.tbl ps)->∃ more,H' b=some (.tbl (ps++more))
section
variable {fs fs' ex ex':List Addr}{H H1 H2:Hp}{h h1 h2 h':Heap}{a x e:Addr}{o:HO}
theorem Un.any (u:Un fs ex H H1 h h1) {ob:Obj}(q:h.get? b=some ob) (n:H b=none) (hx:b∉ex):∃ sl,h1.get? b=some { ob with slots:=sl }:=by
 by_cases hb:b∈fs
 .exact u.slot b ob q n hb hx
 .exact ⟨ob.slots,u.keep b ob q n hb hx⟩
theorem Un.kept (k:∀ b u,h.get? b=some u->h'.get? b=some u):Un fs ex H H h h' :=
 ⟨fun b c q _ _ _=>k b c q,fun b c q _ _ _=>⟨c.slots,k b c q⟩,fun _ _ _ n _=>n,fun b c q _=>⟨c,k b c q⟩,fun _ _ q=>q,fun _ _ _ q=>q,fun _ ps q=>⟨#[],by rw [q];simp⟩⟩
theorem Un.refl:Un fs ex H H h h:=Un.kept fun _ _ q=>q
theorem Un.laid (k:∀ b u,h.get? b=some u->h'.get? b=some u) (hp:h.objs.size<=a) (d:H a=none):Un fs ex H (upd H a o) h h' where
 keep:=fun b u q _ _ _=>k b u q
 slot:=fun b u q _ _ _=>⟨u.slots,k b u q⟩
 free:=fun b u q n _=>by rw [yL (ne_of_lt (lt_of_lt_of_le (Heap.lt_size q) hp))];exact n
 there:=fun b u q _=>⟨u,k b u q⟩
 tups:=fun b xs q=>by rw [yL (yby q d)];exact q
 frzs:=fun b u xs q=>by rw [yL (yby q d)];exact q
 tbls:=fun b ps q=>⟨#[],by rw [yL (yby q d),q];simp⟩
theorem Un.write (f:Mut (H x)) (l:e=x\/H e=some (.own x)) (k:∀ b u,b≠e->h.get? b=some u->h'.get? b=some u) (i:∃ u,h'.get? e=some u):Un fs ex H (upd H x o) h h':=by
 have j:∀ b,H b=none->b≠x:=fun b n z=>by subst z;rw [n] at f;exact f
 have g:∀ b,H b=none->b≠e:=fun b n z=>by grind
 have d:∀ b u,H b=some u->¬ Mut (some u)->b≠x:=fun b u q nm z=>by simp_all
 refine ⟨fun b u q n _ _=>k b u (g b n) q,fun b u q n _ _=>⟨u.slots,k b u (g b n) q⟩,fun b u q n _=>by rw [yL (j b n)];exact n,fun b u q _=>?_,
  fun b xs q=>by rw [yL (d b _ q fun z=>z)];exact q,fun b u xs q=>by rw [yL (d b _ q fun z=>z)];exact q,fun b ps q=>⟨#[],by rw [yL (d b _ q fun z=>z),q];simp⟩⟩
 grind
end
noncomputable def trk (h:Heap) (H:Hp):List Addr:=(List.range h.objs.size).filter fun a=>(H a).isSome
def yub (h:Heap) (H:Hp):Heap:=PySem.W.hideAll h (trk h H)
theorem yqC h H:(yub h H).objs.size=h.objs.size:=PySem.W.hideAll_size _ _
theorem yuc {h:Heap}(e:h.get? b=some o) (n:H b=none):(yub h H).get? b=some o :=
 PySem.W.hideAll_get _ e fun c=>by have q:=(List.mem_filter.mp c).2;grind
theorem yyd (e:(yub h H).get? b=some o):h.get? b=some o/\H b=none:=by
 have c:=PySem.W.of_hideAll _ e;refine ⟨c,?_⟩;cases q:H b with
 | none=>rfl
 | some x =>
  have d:b∈trk h H:=List.mem_filter.mpr ⟨List.mem_range.mpr (Heap.lt_size c),by simp [q]⟩;have z:(yub h H).get? b=none:=PySem.W.hideAll_none _ d;rw [z] at e;cases e
noncomputable def yye (g h:Heap) (L:Addr):List (Addr×Obj):=(List.range h.objs.size).filterMap fun a=>if a=L\/(g.get? a).isSome=true then none else (h.get? a).map fun o=>(a,o)
def rest (g h:Heap) (L d:Addr):List (Addr×Obj):=(yye g h L).filter fun p=>decide (p.1≠d)
structure Mod (K:Frag) (mg:Str->Option Value) (base:Heap):Prop where
 kin:K.In base
 glob:base.Ns mainGlobals mg
 blt:∃ mb,base.Ns builtinsNs mb/\∀ x:Str,x≠"__name__"->mb x=bootBuiltins x
 nolimit:base.NoLimit
structure Cx where
 prog:Program
 w:World
 K:Frag
 mg:Str->Option Value
 base:Heap
 A:Around
 N:List Str
 s₀:Shared
 H₀:Hp
 env:Env
 outer:List Env
 stack:List Env
 ex:List Addr
 fn:Str->Bool
 calm:Bool
 pn:List (Addr×Obj)
 xe:Value->Shared->Prop
noncomputable def frs (l:List Env):List Addr:=l.filterMap (·.frame)
abbrev Cx.fs (X:Cx):List Addr:=frs X.outer
noncomputable def Vis (sc:Scope) (x:Str):Prop:=sc.names.lookup x=some .local \/ sc.names.lookup x=some .cell\/sc.names.lookup x=some .free
noncomputable def Loc (sc:Scope) (x:Str):Prop:=sc.names.lookup x=some .local \/ sc.names.lookup x=some .cell
noncomputable def Look (env:Env) (h:Heap) (m:Str->Option Value) (x:Str) (u:Value):Prop :=
 (env.kindOf x=some .local/\m x=some u)\/((env.kindOf x=some .cell\/env.kindOf x=some .free)/\∃ c,env.cells.lookup x=some c/\h.IsCell c (some u))
structure Cx.Ok (X:Cx):Prop where
 mod:Mod X.K X.mg X.base
 kind:X.env.scope.kind=.function
 glob:X.env.globals=mainGlobals
 blt:X.env.builtins=builtinsNs
 above:X.s₀.heap.objs.size<=X.env.locals
 inj:∀ x y c,X.env.cells.lookup x=some c->X.env.cells.lookup y=some c->x=y
 has:∀ x,(X.env.kindOf x=some .cell\/X.env.kindOf x=some .free)->∃ c,X.env.cells.lookup x=some c
 cab:∀ x c,X.fn x=true->X.env.cells.lookup x=some c->X.s₀.heap.objs.size<=c
 hd:X.calm=true->X.A.handled=none
 frames:X.A.frames=some X.stack
 stk:X.stack=X.outer\/(X.stack=X.env::X.outer/\X.env.frame=some X.env.locals)
 exf:∀ b∈X.ex,b≠X.env.locals/\∀ x c,X.env.cells.lookup x=some c->c≠b
 bs:∀ b o,X.base.get? b=some o->X.s₀.heap.get? b=some o/\X.H₀ b=none
 bsz:X.base.objs.size<=X.s₀.heap.objs.size
 noex:∀ b o,X.base.get? b=some o->b∉X.ex
 exfs:∀ b∈X.ex,b∉X.fs
 funs:X.s₀.heap.FunFrames X.base X.outer
 frf:∀ b∈X.fs,X.H₀ b=none
structure Inv (X:Cx) (pins:List (Addr×Obj)) (Z:List (Option V)) (H:Hp) (s:Shared):Prop where
 ok:X.Ok
 os:s.os=X.s₀.os
 bare:AllBare s.gens
 base:Un X.fs X.ex X.H₀ H X.s₀.heap s.heap
 loc:∃ m,s.heap.Ns X.env.locals m/\∀ (i:Nat) (x:Str) (v:V),X.N[i]?=some x->Z[i]?=some (some v)->Vis X.env.scope x->∃ u,RelV v u/\Look X.env s.heap m x u
 cell:∀ x c,X.env.cells.lookup x=some c->∃ v,s.heap.IsCell c v
 free:H X.env.locals=none
 freeC:∀ x c,X.env.cells.lookup x=some c->H c=none
 pin:∀ p∈X.pn++pins,s.heap.get? p.1=some p.2/\H p.1=none/\p.1≠X.env.locals/\p.1∉X.fs/\∀ v,p.2.data≠.cell v
 hok:HOk X.prog X.w H s.heap
 len:Z.length=X.N.length
section
variable {X:Cx}{pins:List (Addr×Obj)}{K:List (Option V)}{H H':Hp}{s:Shared}{h':Heap}
theorem Cx.Ok.nofr (c:X.Ok) (e:X.base.get? b=some o):b∉X.fs:=fun a=>by have:=(c.funs.mem a).1;simp_all
theorem Inv.bs (I:Inv X pins K H s):∀ b o,X.base.get? b=some o->s.heap.get? b=some o/\H b=none:=fun b o e =>
 ⟨I.base.keep b o (I.ok.bs b o e).1 (I.ok.bs b o e).2 (I.ok.nofr e) (I.ok.noex b o e),I.base.free b o (I.ok.bs b o e).1 (I.ok.bs b o e).2 (I.ok.noex b o e)⟩
theorem Inv.bk (I:Inv X pins K H s):∀ b o,X.base.get? b=some o->s.heap.get? b=some o:=fun b o e=>(I.bs b o e).1
theorem Inv.mod (I:Inv X pins K H s):Mod X.K X.mg X.base:=I.ok.mod
theorem Inv.kIn (I:Inv X pins K H s):X.K.In s.heap:=I.ok.mod.kin.keeps I.bk
theorem Inv.lt (I:Inv X pins K H s):X.env.locals<s.heap.objs.size:=let ⟨_,a,_⟩:=I.loc;a.lt
theorem Inv.sz (I:Inv X pins K H s):X.s₀.heap.objs.size<=s.heap.objs.size:=Nat.le_trans I.ok.above (le_of_lt I.lt)
theorem Inv.nofs (I:Inv X pins K H s) {a:Addr}(h:s.heap.objs.size<=a):a∉X.fs:=fun b=>by obtain ⟨_,o,c,_⟩:=I.ok.funs.mem b;exact absurd (lt_of_lt_of_le (Heap.lt_size c) (Nat.le_trans I.sz h)) (lt_irrefl _)
theorem Inv.cne (I:Inv X pins K H s):∀ x c,X.env.cells.lookup x=some c->c≠X.env.locals:=fun x c e z=>by obtain ⟨v,o,d,g⟩:=I.cell x c e;obtain ⟨m,⟨f,es,ep,a,b,_⟩,_⟩:=I.loc;grind
theorem Inv.funs (I:Inv X pins K H s):s.heap.FunFrames X.base X.outer:=by
 have a:∀ l,(∀ b∈frs l,b∈X.fs)->X.s₀.heap.FunFrames X.base l->s.heap.FunFrames X.base l:=by
  intro l
  induction l with
  | nil=>intro _ _;trivial
  | cons env r ih =>
   intro hs hl;obtain ⟨i,⟨L,o,f,j,h,g⟩,k⟩:=hl;have c:=hs L (by unfold frs;grind);obtain ⟨sl,e⟩:=I.base.slot L o h (I.ok.frf L c) c fun z=>I.ok.exfs L z c
   exact ⟨i,⟨L,_,f,j,e,g⟩,ih (fun b d=>hs b (by unfold frs;rw [List.filterMap_cons,f];exact mem_cons_of_mem _ d)) k⟩
 exact a X.outer (fun _ d=>d) I.ok.funs
theorem Inv.stack (I:Inv X pins K H s):s.heap.FunFrames X.base X.stack:=by
 rcases I.ok.stk with e|⟨e,b⟩
 .rw [e];exact I.funs
 .rw [e];obtain ⟨m,a,_⟩:=I.loc;exact .cons (by rw [I.ok.kind];decide) b a (Heap.get?_none_of_le (Nat.le_trans I.ok.bsz I.ok.above)) I.funs
theorem Inv.stkSub (I:Inv X pins K H s):∀ b∈frs X.stack,b∈X.env.locals::X.fs:=fun b a=>by
 rcases I.ok.stk with e|⟨e,c⟩
 .simp_all
 .rw [e] at a;unfold frs at a;rw [List.filterMap_cons,c] at a;exact a
theorem Inv.stkFree (I:Inv X pins K H s):∀ b∈frs X.stack,H b=none:=fun b a=>by
 rcases mem_cons.mp (I.stkSub b a) with e|a
 .rw [e];exact I.free
 .obtain ⟨_,o,c,_⟩:=I.ok.funs.mem a;exact I.base.free b o c (I.ok.frf b a) fun z=>I.ok.exfs b z a
theorem Inv.step {g':Array GenState}{t':Nat}{d':Drawn}{ch:List Addr}(I:Inv X pins K H s)
  (j:∀ b∈ch,(b∈X.ex\/X.s₀.heap.objs.size<=b)/\b≠X.env.locals/\(∀ x c,X.env.cells.lookup x=some c->c≠b)/\∀ p∈X.pn++pins,p.1≠b)
  (t:∀ b o,b≠X.env.locals->b∉X.fs->b∉ch->s.heap.get? b=some o->H b=none->h'.get? b=some o)
  (y:∀ b o,b≠X.env.locals->b∈X.fs->b∉ch->s.heap.get? b=some o->H b=none->∃ sl,h'.get? b=some { o with slots:=sl }) (f:∀ b o,b∉ch->s.heap.get? b=some o->H b=none->H' b=none)
  (B:∀ b o,b∉ch->s.heap.get? b=some o->∃ J,h'.get? b=some J)
  (D:∀ b xs,H b=some (.tup xs)->H' b=some (.tup xs)) (E:∀ b o u,H b=some (.frz o u)->H' b=some (.frz o u)) (Q:∀ b ps,H b=some (.tbl ps)->∃ L,H' b=some (.tbl (ps++L)))
  (ns:∀ m,s.heap.Ns X.env.locals m->h'.Ns X.env.locals m) (M:HOk X.prog X.w H' h') (S:AllBare g') :
  Inv X pins K H' { s with heap:=h',gens:=g',drawn:=d',toks:=t' }:=by
 have G:∀ b o,X.s₀.heap.get? b=some o->b≠X.env.locals:=fun b o e=>ne_of_lt (lt_of_lt_of_le (Heap.lt_size e) I.ok.above)
 have h:∀ b o,X.s₀.heap.get? b=some o->b∉X.ex->b∉ch:=fun b o e a A=>by
  rcases (j b A).1 with z|z
  .exact a z
  .exact absurd (lt_of_lt_of_le (Heap.lt_size e) z) (lt_irrefl _)
 have g:∀ x c,X.env.cells.lookup x=some c->∀ v,s.heap.IsCell c v->h'.IsCell c v:=fun x c e v ⟨o,C,P⟩=>by
  have F:c∉ch:=fun z=>(j c z).2.2.1 x c e rfl
  by_cases R:c∈X.fs
  .obtain ⟨sl,q⟩:=y c o (I.cne x c e) R F C (I.freeC x c e);exact ⟨_,q,P⟩
  .exact ⟨o,t c o (I.cne x c e) R F C (I.freeC x c e),P⟩
 refine ⟨I.ok,I.os,S,⟨fun b o e n A a=>?_,fun b o e n A a=>?_,fun b o e n a=>?_,fun b o e a=>?_,fun b xs e=>D b xs (I.base.tups b xs e),fun b o xs e=>E b o xs (I.base.frzs b o xs e),fun b ps e=>?_⟩,?_,fun x c e=>?_,?_,fun x c e=>?_,fun p hp=>?_,M,I.len⟩
 .exact t b o (G b o e) A (h b o e a) (I.base.keep b o e n A a) (I.base.free b o e n a)
 .obtain ⟨sl,w⟩:=I.base.slot b o e n A a;obtain ⟨O,N⟩:=y b _ (G b o e) A (h b o e a) w (I.base.free b o e n a);exact ⟨O,N⟩
 .obtain ⟨J,w⟩:=I.base.there b o e a;exact f b J (h b o e a) w (I.base.free b o e n a)
 .obtain ⟨J,w⟩:=I.base.there b o e a;exact B b J (h b o e a) w
 .obtain ⟨Y,w⟩:=I.base.tbls b ps e;grind
 .obtain ⟨m,U,hl⟩:=I.loc;refine ⟨m,ns m U,fun i x v w N T=>?_⟩;obtain ⟨u,r,l⟩:=hl i x v w N T;refine ⟨u,r,?_⟩;rcases l with l|⟨k,c,e,z⟩
  .exact .inl l
  .exact .inr ⟨k,c,e,g x c e _ z⟩
 .obtain ⟨v,z⟩:=I.cell x c e;exact ⟨v,g x c e v z⟩
 .obtain ⟨m,⟨o,_,_,C,_⟩,_⟩:=I.loc;exact f _ o (fun z=>(j _ z).2.1 rfl) C I.free
 .obtain ⟨v,o,C,P⟩:=I.cell x c e;exact f c o (fun z=>(j c z).2.2.1 x c e rfl) C (I.freeC x c e)
 .obtain ⟨e,n,W,Z,d⟩:=I.pin p hp;grind
theorem Inv.un (I:Inv X pins K H s) (u:Un X.fs [] H H' s.heap h') (f:HOk X.prog X.w H' h'):Inv X pins K H' { s with heap:=h',toks:=t' }:=by obtain ⟨m,⟨o,es,ep,h,r⟩,_⟩:=id I.loc;obtain ⟨sl,k⟩:=u.any h I.free (by simp);exact I.step (ch:=[]) (fun _ z=>nomatch z) (fun b o _ g _ e n=>u.keep b o e n g (by simp)) (fun b o _ g _ e n=>u.slot b o e n g (by simp)) (fun b o _ e n=>u.free b o e n (by simp)) (fun b o _ e=>u.there b o e (by simp)) u.tups u.frzs u.tbls (fun m' j=>by obtain ⟨l,c,d,a,i⟩:=j;rw [h] at a;cases a;exact ⟨_,c,d,k,i⟩) f I.bare
theorem Inv.call (I:Inv X pins K H s) (u:Un (frs X.stack) ch H H' s.heap h') (i:HOk X.prog X.w H' h') (v:AllBare g')
  (f:∀ b∈ch,(b∈X.ex\/X.s₀.heap.objs.size<=b)/\b≠X.env.locals/\(∀ x c,X.env.cells.lookup x=some c->c≠b)/\∀ p∈X.pn++pins,p.1≠b) :
  Inv X pins K H' { s with heap:=h',gens:=g',drawn:=d',toks:=t' }:=by
 obtain ⟨m,⟨o,es,ep,k,r⟩,_⟩:=id I.loc;obtain ⟨sl,j⟩:=u.any k I.free fun z=>(f _ z).2.1 rfl
 exact I.step f (fun b o j l a e n=>u.keep b o e n (fun z=>(mem_cons.mp (I.stkSub b z)).elim j l) a) (fun b o _ _ a e n=>u.any e n a) (fun b o a e n=>u.free b o e n a) (fun b o a e=>u.there b o e a) u.tups u.frzs u.tbls (fun m' q=>by obtain ⟨w,g,h,d,t⟩:=q;rw [k] at d;cases d;exact ⟨_,g,h,j,t⟩) i v
theorem Inv.turned (I:Inv X pins K H s) (k:∀ b o,b≠a->s.heap.get? b=some o->h'.get? b=some o) (j:H a=none) (f:a≠X.env.locals)
  (h1:a∈X.ex\/X.s₀.heap.objs.size<=a) (h2:∀ x c,X.env.cells.lookup x=some c->c≠a) (l:∀ p∈X.pn++pins,p.1≠a):Inv X pins K H { s with heap:=h',toks:=t' }:=by
 have i:∀ b u,H b=some u->b≠a:=fun b u e z=>by grind
 refine I.step (ch:=[a]) (fun b t=>?_) (fun b o _ _ d e _=>k b o (fun z=>d (by simp [z])) e) (fun b o _ _ d e _=>⟨o.slots,k b o (fun z=>d (by simp [z])) e⟩) (fun _ _ _ _ n=>n)
  (fun b o d e=>⟨o,k b o (fun z=>d (by simp [z])) e⟩) (fun _ _ e=>e) (fun _ _ _ e=>e) (fun b ps e=>⟨#[],by rw [e];simp⟩) (fun m h=>?_) (fun b u e=>?_) I.bare
 .grind
 .obtain ⟨o,es,ep,g,r⟩:=h;exact ⟨o,es,ep,k _ o (Ne.symm f) g,r⟩
 .refine (I.hok b u e).stay (fun c v d q=>k c v ?_ q) (fun _ q=>q) fun _ _ q=>q
  grind
theorem Inv.tok (I:Inv X pins K H s) t:Inv X pins K H { s with toks:=t }:=I.un Un.refl I.hok
theorem Inv.kept (I:Inv X pins K H s) (k:∀ b u,s.heap.get? b=some u->h'.get? b=some u):Inv X pins K H { s with heap:=h',toks:=t' }:=I.un (Un.kept k) (I.hok.kept k)
theorem Inv.laid {a:Addr}{o:HO}{t':Nat}(I:Inv X pins K H s) (k:∀ b u,s.heap.get? b=some u->h'.get? b=some u) (hp:s.heap.objs.size<=a) (c:ObjOk X.prog X.w (upd H a o) h' a o) :
  Inv X pins K (upd H a o) { s with heap:=h',toks:=t' }:=I.un (Un.laid k hp (I.hok.fresh hp)) (I.hok.laid k hp c)
theorem Inv.write (I:Inv X pins K H s) (d:Mut (H x)) (f:e=x\/H e=some (.own x)) (k:∀ b u,b≠e->s.heap.get? b=some u->h'.get? b=some u) (a:∃ u,h'.get? e=some u)
  (c:ObjOk X.prog X.w (upd H x o) h' x o):Inv X pins K (upd H x o) { s with heap:=h',toks:=t' }:=I.un (Un.write d f k a) (I.hok.write d f k a c)
theorem Inv.pins_of (I:Inv X pins K H s) (h:∀ p∈a,s.heap.get? p.1=some p.2/\H p.1=none/\p.1≠X.env.locals/\p.1∉X.fs/\∀ v,p.2.data≠.cell v):Inv X a K H s :=
 ⟨I.ok,I.os,I.bare,I.base,I.loc,I.cell,I.free,I.freeC,fun p hp=>(List.mem_append.mp hp).elim (fun z=>I.pin p (mem_append_left _ z)) (h p),I.hok,I.len⟩
theorem yox {N:List Str}(d:N.Nodup) {i j:Nat}{x:Str}(a:N[i]?=some x) (b:N[j]?=some x):i=j:=by obtain ⟨h1,e⟩:=List.getElem?_eq_some_iff.mp a;obtain ⟨h2,c⟩:=List.getElem?_eq_some_iff.mp b;exact (List.getElem_inj d).mp (e.trans c.symm)
theorem yqD {Q:Unit->Shared->Prop}(I:Inv X pins K H s) (hN:X.N.Nodup) (S:X.N[i]?=some x) (t:Loc X.env.scope x) (r:RelV v u)
  (h:∀ s',Inv X pins (K.set i (some v)) H s'->(∃ a,Heap.SameBut a s.heap s'.heap/\(a=X.env.locals\/X.env.cells.lookup x=some a))->Q () s') (hf:X.fn x=true\/X.env.scope.names.lookup x=some .local:=by first|exact .inl rfl|exact .inr rfl|assumption):wpAny M A (storeName X.env x u) Q E s:=by
 obtain ⟨m,hn,hl⟩:=id I.loc;have P:(X.env.scope.kind == .class || (X.env.scope.kind == .module && X.env.locals != X.env.globals))=false:=by rw [I.ok.kind];rfl
 have D:i<K.length:=by rw [I.len];exact (List.getElem?_eq_some_iff.mp S).1
 have L:=I.cne;have g:∀ {a:Addr}{h':Heap},(∃ o,s.heap.get? a=some o/\H a=none)->Heap.SameBut a s.heap h'->HOk X.prog X.w H h':=fun {a h'} ha hs b ob e=>by
  obtain ⟨_,_,w⟩:=ha;refine (I.hok b ob e).stay (fun c W l q=>(hs.2 c ?_).trans q) (fun _ q=>q) fun _ _ q=>q
  rintro rfl;rcases l with rfl|l
  .rw [w] at e;cases e
  .rw [w] at l;cases l
 rcases t with C|C
 .refine wpAny_storeName_local C hn (fun h' hn' hs=>?_) P;obtain ⟨oL,_,_,Z,_⟩:=id hn;refine h _ ⟨I.ok,I.os,I.bare,⟨fun b o e n G t=>?_,fun b o e n G t=>?_,I.base.free,fun b o e t=>?_,I.base.tups,I.base.frzs,I.base.tbls⟩,⟨_,hn',fun j y v' f B e3=>?_⟩,fun y c e=>?_,I.free,I.freeC,fun p hp=>?_,g ⟨oL,Z,I.free⟩ hs,by simpa using I.len⟩ ⟨_,hs,.inl rfl⟩
  .exact (hs.2 b (ne_of_lt (lt_of_lt_of_le (Heap.lt_size e) I.ok.above))).trans (I.base.keep b o e n G t)
  .obtain ⟨sl,f⟩:=I.base.slot b o e n G t;exact ⟨sl,(hs.2 b (ne_of_lt (lt_of_lt_of_le (Heap.lt_size e) I.ok.above))).trans f⟩
  .obtain ⟨o',f⟩:=I.base.there b o e t;exact ⟨o',(hs.2 b (ne_of_lt (lt_of_lt_of_le (Heap.lt_size e) I.ok.above))).trans f⟩
  .by_cases F:j=i
   .subst F;rw [S] at f;cases f;rw [getElem?_set_self D] at B;cases B;exact ⟨u,r,.inl ⟨C,by simp⟩⟩
   .rw [getElem?_set_ne (Ne.symm F)] at B;obtain ⟨Y,r',q⟩:=hl j y v' f B e3;refine ⟨Y,r',?_⟩;rcases q with ⟨k,e⟩|⟨k,c,e,z⟩
    .refine .inl ⟨k,?_⟩;have:y≠x:=fun e=>F (yox hN f (e ▸ S))
     simp [this,e]
    .exact .inr ⟨k,c,e,z.sameBut hs (L y c e)⟩
  .obtain ⟨W,z⟩:=I.cell y c e;exact ⟨W,z.sameBut hs (L y c e)⟩
  .obtain ⟨e,n,U,nf,d⟩:=I.pin p hp;exact ⟨(hs.2 p.1 U).trans e,n,U,nf,d⟩
 .have J:X.fn x=true:=by
   rcases hf with z|z
   .exact z
   .rw [z] at C;cases C
  obtain ⟨c,l⟩:=I.ok.has x (.inl C);obtain ⟨W,z⟩:=I.cell x c l;refine wpAny_storeName_cell I.ok.kind C l z (fun h' N hs=>?_);obtain ⟨oc,R,O⟩:=id z;refine h { s with heap:=h' } ⟨I.ok,I.os,I.bare,⟨fun b o e n G t=>?_,fun b o e n G t=>?_,I.base.free,fun b o e t=>?_,I.base.tups,I.base.frzs,I.base.tbls⟩,⟨m,hn.sameBut hs (Ne.symm (L x c l)),fun j y v' f B e3=>?_⟩,fun y c' e=>?_,I.free,I.freeC,fun p hp=>?_,g ⟨oc,R,I.freeC x c l⟩ hs,by simpa using I.len⟩ ⟨c,hs,.inr l⟩
  .exact (hs.2 b (ne_of_lt (lt_of_lt_of_le (Heap.lt_size e) (I.ok.cab x c J l)))).trans (I.base.keep b o e n G t)
  .obtain ⟨sl,f⟩:=I.base.slot b o e n G t;exact ⟨sl,(hs.2 b (ne_of_lt (lt_of_lt_of_le (Heap.lt_size e) (I.ok.cab x c J l)))).trans f⟩
  .obtain ⟨o',f⟩:=I.base.there b o e t;exact ⟨o',(hs.2 b (ne_of_lt (lt_of_lt_of_le (Heap.lt_size e) (I.ok.cab x c J l)))).trans f⟩
  .by_cases F:j=i
   .subst F;rw [S] at f;cases f;rw [getElem?_set_self D] at B;cases B;exact ⟨u,r,.inr ⟨.inl C,c,l,N⟩⟩
   .rw [getElem?_set_ne (Ne.symm F)] at B;obtain ⟨Y,r',q⟩:=hl j y v' f B e3;refine ⟨Y,r',?_⟩;rcases q with q|⟨k,c',e,z'⟩
    .exact .inl q
    .refine .inr ⟨k,c',e,z'.sameBut hs ?_⟩;rintro rfl;exact F (yox hN f (I.ok.inj _ _ _ e l ▸ S))
  .by_cases T:c'=c
   .subst T;exact ⟨_,N⟩
   .obtain ⟨w2,z2⟩:=I.cell y c' e;exact ⟨w2,z2.sameBut hs T⟩
  .obtain ⟨e,n,U,nf,d⟩:=I.pin p hp;refine ⟨(hs.2 p.1 ?_).trans e,n,U,nf,d⟩;intro q;rw [q,R] at e;have q':oc=p.2:=Option.some.inj e;exact d W (by rw [<- q'];exact O)
theorem yoy {Q:Unit->Shared->Prop}(I:Inv X pins K H s) (b:X.N.Nodup) (a:X.N[i]?=some x) (d:Loc X.env.scope x) (r:RelV v u)
  (h:∀ s',Inv X pins (K.set i (some v)) H s'->Q () s') (e:X.fn x=true\/X.env.scope.names.lookup x=some .local:=by first|exact .inl rfl|exact .inr rfl|assumption):wpAny M A (storeName X.env x u) Q E s :=
 yqD I b a d r (fun s' c _=>h s' c) e
theorem Inv.call' {s':Shared}(I:Inv X pins K H s) (g:s'.os=s.os) (u:Un (frs X.stack) ch H H' s.heap s'.heap) (a:HOk X.prog X.w H' s'.heap) (f:AllBare s'.gens)
  (d:∀ b∈ch,(b∈X.ex\/X.s₀.heap.objs.size<=b)/\b≠X.env.locals/\(∀ x c,X.env.cells.lookup x=some c->c≠b)/\∀ p∈X.pn++pins,p.1≠b):Inv X pins K H' s':=by
 obtain ⟨h',g',d',t',h⟩:=s';have e:=g;subst e;exact I.call u a f d
end
noncomputable abbrev XK:=Value->Option Addr->Hp->Prop
abbrev St:=List (Option V)
abbrev VK:=V->Hp->Prop
abbrev TE:=St->Hp->VK->Prop
noncomputable abbrev TT:=St->Hp->(Bool->Hp->Prop)->Prop
noncomputable abbrev TA:=St->Hp->(List V->Hp->Prop)->Prop
structure Ends where
 nx:St->Hp->Prop
 rt:VK
 bk:St->Hp->Prop:=fun _ _=>False
 ct:St->Hp->Prop:=fun _ _=>False
abbrev TS:=Ends->St->Hp->Prop
def EP (X:Cx) (pins:List (Addr×Obj)) (Z:St) (Q:VK) (u:Value) (s':Shared):Prop:=∃ v H',Inv X pins Z H' s'/\RelV v u/\Q v H'
noncomputable def TP (X:Cx) (pins:List (Addr×Obj)) (Z:St) (Q:Bool->Hp->Prop) (b:Bool) (s':Shared):Prop:=∃ H',Inv X pins Z H' s'/\Q b H'
def AP (X:Cx) (pins:List (Addr×Obj)) (Z:St) (Q:List V->Hp->Prop) (us:List Value) (s':Shared):Prop:=∃ vs H',Inv X pins Z H' s'/\Vals vs us/\Q vs H'
def SP (X:Cx) (pins:List (Addr×Obj)) (D:Ends) (f:Flow) (s':Shared):Prop :=
 match f with
 | .next=>∃ Z' H',Inv X pins Z' H' s'/\D.nx Z' H'
 | .brk=>∃ Z' H',Inv X pins Z' H' s'/\D.bk Z' H'
 | .cont=>∃ Z' H',Inv X pins Z' H' s'/\D.ct Z' H'
 | .ret u=>∃ v Z' H',Inv X pins Z' H' s'/\RelV v u/\D.rt v H'
def PE (X:Cx) (e:Expr) (t:TE):Prop :=
 ∀ (pins:List (Addr×Obj)) (s:Shared) (Z:St) (H:Hp) (Q:VK),Inv X pins Z H s->t Z H Q->wpAny (model X.prog X.w) X.A (eval e X.env) (EP X pins Z Q) X.xe s
def PT (X:Cx) (e:Expr) (t:TT):Prop :=
 ∀ (pins:List (Addr×Obj)) (s:Shared) (Z:St) (H:Hp) (Q:Bool->Hp->Prop),Inv X pins Z H s->t Z H Q->wpAny (model X.prog X.w) X.A (isTrue e X.env (eval e X.env)) (TP X pins Z Q) X.xe s
def PW (X:Cx) (e:Expr) (t:TT):Prop :=
 ∀ (whole:Sem Value) (pins:List (Addr×Obj)) (s:Shared) (Z:St) (H:Hp) (Q:Bool->Hp->Prop),Inv X pins Z H s->t Z H Q->wpAny (model X.prog X.w) X.A (isTrue e X.env whole) (TP X pins Z Q) X.xe s
theorem PW.pt (h:PW X e t):PT X e t:=h _
def PA (X:Cx) (es:List Expr) (t:TA):Prop :=
 ∀ (pos:Pos) (pins:List (Addr×Obj)) (s:Shared) (Z:St) (H:Hp) (Q:List V->Hp->Prop),Inv X pins Z H s->t Z H Q->wpAny (model X.prog X.w) X.A (spliced (backTo pos (starEach es X.env))) (AP X pins Z Q) X.xe s
def PS (X:Cx) (st:Stmt) (t:TS):Prop :=
 ∀ (pins:List (Addr×Obj)) (s:Shared) (Z:St) (H:Hp) (D:Ends),Inv X pins Z H s->t D Z H->wpAny (model X.prog X.w) X.A (exec st X.env) (SP X pins D) X.xe s
def PSs (X:Cx) (st:List Stmt) (t:TS):Prop :=
 ∀ (pins:List (Addr×Obj)) (s:Shared) (Z:St) (H:Hp) (D:Ends),Inv X pins Z H s->t D Z H->wpAny (model X.prog X.w) X.A (execs st X.env) (SP X pins D) X.xe s
theorem thn {Y:Type}{t:Sem Y}{Q b:Y->Shared->Prop}{M:Model}{A:Around}{E:Value->Shared->Prop}{s:Shared}(h:wpAny M A t Q E s) (c:∀ a s,Q a s->b a s):wpAny M A t b E s:=wpAny_mono h c fun _ _ x=>x
section
variable {X:Cx}
noncomputable def yqw (i:Nat):TE:=fun Z H Q=>∃ v,Z[i]?=some (some v)/\Q v H
noncomputable def tC (v:V):TE:=fun _ H Q=>Q v H
theorem yjm {i:Nat}{x:Str}{pos:Pos}(t:X.N[i]?=some x) (q:Vis X.env.scope x) (k:(x == "__debug__")=false:=by decide) (j:(x == "__classdict__")=false:=by decide):PE X (.Name x pos) (yqw i):=by
 intro g s Z H Q I h;obtain ⟨v,e,h⟩:=h;obtain ⟨m,p,hl⟩:=I.loc;obtain ⟨u,r,l⟩:=hl i x v t e q;have f:EP X g Z Q u s:=⟨v,H,I,r,h⟩
 rcases l with ⟨d,o⟩|⟨d,c,n,b⟩
 .exact wpAny_Name (wpAny_loadName_local I.ok.kind d p o f) k
 .rcases d with d|d
  .exact wpAny_Name (wpAny_loadName_cell I.ok.kind d n b f) k
  .exact wpAny_Name (wpAny_loadName_free I.ok.kind d n b f j) k
theorem yBx {i j pos}:PE X (.Constant (.int i) j pos) (tC (.int i)):=fun _ _ _ H _ I h=>wpAny_Constant_int ⟨.int i,H,I.tok _,⟨_,rfl⟩,h⟩
theorem yFd {b j pos}:PE X (.Constant (.bool b) j pos) (tC (.bl b)):=fun _ _ _ H _ I h=>Constant_bool ⟨.bl b,H,I,rfl,h⟩
theorem yBy {j pos}:PE X (.Constant .none j pos) (tC .non):=fun _ _ _ H _ I h=>Constant_none ⟨.non,H,I,rfl,h⟩
theorem yBz {x j pos}:PE X (.Constant (.str x) j pos) (tC (.str x)):=fun _ _ _ H _ I h=>Calls.Constant_str ⟨.str x,H,I.tok _,⟨_,rfl⟩,h⟩
noncomputable def Gl (X:Cx) (x:Str):Prop:=X.env.kindOf x=some .globalImplicit
theorem yhQ {E:Value->Shared->Prop}{b:List _}{s:Shared}{Z:St}{H:Hp}{x:Str}{u:Value}{pos:Pos}{Q:Value->Shared->Prop}(I:Inv X b Z H s) (d:Gl X x) (c:X.mg x=some u) (h:Q u s)
  (e:(x == "__debug__")=false:=by decide):wpAny (model X.prog X.w) X.A (eval (.Name x pos) X.env) Q E s :=
 Calls.Name_function_global I.ok.kind d (Calls.loadGlobal_global (by rw [I.ok.glob];exact I.mod.glob.keeps I.bk) c h) e
theorem yjn {E:Value->Shared->Prop}{b:List _}{s:Shared}{Z:St}{H:Hp}{x:Str}{u:Value}{pos:Pos}{Q:Value->Shared->Prop}(I:Inv X b Z H s) (e:Gl X x) (f:X.mg x=none) (d:bootBuiltins x=some u) (h:Q u s)
  (c:x≠"__name__":=by decide) (g:(x == "__debug__")=false:=by decide):wpAny (model X.prog X.w) X.A (eval (.Name x pos) X.env) Q E s:=by
 obtain ⟨i,h1,h2⟩:=I.mod.blt;exact Calls.Name_function_global I.ok.kind e (Calls.loadGlobal_builtin (by rw [I.ok.glob];exact I.mod.glob.keeps I.bk) f (by rw [I.ok.blt];exact h1.keeps I.bk) ((h2 x c).trans d) h) g
theorem ync (b:Gl X x) (d:X.mg x=some u) (r:RelV v u) (c:(x == "__debug__")=false:=by decide):PE X (.Name x pos) (tC v) :=
 fun _ _ _ H _ I h=>yhQ I b d ⟨v,H,I,r,h⟩ c
theorem yyf {x:Str}{v:V}{u:Value}{pos:Pos}(b:Gl X x) (e:X.mg x=none) (c:bootBuiltins x=some u) (r:RelV v u) (d:x≠"__name__":=by decide) (f:(x == "__debug__")=false:=by decide):PE X (.Name x pos) (tC v) :=
 fun _ _ _ H _ I h=>yjn I b e c ⟨v,H,I,r,h⟩ d f
variable {a b:Expr}{ta tb:TE}{pos:Pos}
def PC (X:Cx) (op:CmpOp) (a b:Expr) (t:TE):Prop :=
 ∀ (pins:List (Addr×Obj)) (s:Shared) (Z:St) (H:Hp) (Q:VK),Inv X pins Z H s->t Z H Q ->
  wpAny (model X.prog X.w) X.A (eval a X.env) (fun v s₁=>wpAny (model X.prog X.w) X.A (eval b X.env) (fun u s₂=>wpAny (model X.prog X.w) X.A (compareOp op v u) (EP X pins Z Q) X.xe s₂) X.xe s₁) X.xe s
theorem yud (b:Expr) (h:op≠.In) (h2:op≠.NotIn):behindInMarks op b=false:=by
 have e1:(op == CmpOp.In)=false:=by cases op<;>first|rfl|exact absurd rfl h
 have e2:(op == CmpOp.NotIn)=false:=by cases op<;>first|rfl|exact absurd rfl h2
 cases b<;>simp [behindInMarks,e1,e2]
def tB (t:TE):TT:=fun Z H Q=>t Z H fun x H1=>∃ c,x=.bl c/\Q c H1
theorem yBA (h:PC X op a b t) (h1:behindInMarks op b=false:=by first|exact yud _ (by decide) (by decide)|rfl):PT X (.Compare a [op] [b] pos) (tB t):=by intro e s Z H Q I j;refine wpAny_isTrue_Compare1 (thn (h e s Z H _ I j) fun v s1 h1=>thn h1 fun u s2 h2=>thn h2 fun c s3 z=>?_) h1;obtain ⟨x,i,k,f,g⟩:=z;obtain ⟨d,rfl,q⟩:=g;cases f;exact wpAny_truthy_bool ⟨i,k,q⟩
theorem yBB (h:PE X e t) (n:∀ f,isTrue e X.env f=(do let v <- f;standAt e.pos;holding [v] (truthy v)):=by intro _;rfl):PT X e (tB t):=by intro g s Z H Q I l;refine isTrue_plain (thn (h g s Z H _ I l) fun v s1 z=>?_) (n _);obtain ⟨x,k,m,i,j⟩:=z;obtain ⟨d,rfl,q⟩:=j;cases i;exact wpAny_truthy_bool ⟨k,m,q⟩
variable {tA tB':TT}{rest:List Expr}
noncomputable def yHc (t u:TT):TT:=fun Z H Q=>t Z H fun c H1=>if c=true then u Z H1 Q else Q false H1
noncomputable def tOr (t u:TT):TT:=fun Z H Q=>t Z H fun c H1=>if c=true then Q true H1 else u Z H1 Q
def yFe (t:TT):TT:=fun Z H Q=>t Z H fun c H1=>Q (!c) H1
theorem yyg (g:PT X a tA):PW X (.BoolOp .And [a] pos) tA:=by
 intro wh f s Z H Q I h;refine isTrue_and (thn (g f s Z H Q I h) fun c s1 e=>?_);cases c with
 | true=>exact isTrue_and_nil e
 | false=>exact e
theorem yBC (g:PT X a tA):PW X (.BoolOp .Or [a] pos) tA:=by
 intro wh f s Z H Q I h;refine isTrue_or (thn (g f s Z H Q I h) fun c s1 e=>?_);cases c with
 | false=>exact isTrue_or_nil e
 | true=>exact e
theorem yBD (j:PT X a tA) (k:PW X (.BoolOp .And (b::rest) pos) tB'):PW X (.BoolOp .And (a::b::rest) pos) (yHc tA tB'):=by
 intro wh e s Z H Q I h;refine isTrue_and (thn (j e s Z H _ I h) fun c s1 z=>?_);obtain ⟨f,g,i⟩:=z;cases c with
 | true=>exact k wh e s1 Z f Q g i
 | false=>exact ⟨f,g,i⟩
theorem yFf (j:PT X a tA) (k:PW X (.BoolOp .Or (b::rest) pos) tB'):PW X (.BoolOp .Or (a::b::rest) pos) (tOr tA tB'):=by
 intro wh e s Z H Q I h;refine isTrue_or (thn (j e s Z H _ I h) fun c s1 z=>?_);obtain ⟨f,g,i⟩:=z;cases c with
 | true=>exact ⟨f,g,i⟩
 | false=>exact k wh e s1 Z f Q g i
theorem yBE (e:PT X a tA):PT X (.UnaryOp .Not a pos) (yFe tA):=by intro d s Z H Q I h;exact isTrue_not (e d s Z H _ I h)
noncomputable def yBF (ta tb:TE):TE:=fun Z H Q=>ta Z H fun x H1=>∃ c,x=.bl c/\if c=true then tb Z H1 Q else Q (.bl false) H1
noncomputable def yBG (ta:TE):TE:=fun Z H Q=>ta Z H fun x H1=>∃ c,x=.bl c/\Q (.bl (!c)) H1
theorem yBH {op} (h:PE X a t):PE X (.BoolOp op [a] pos) t:=fun d s Z H Q I e=>BoolOp_one (h d s Z H Q I e)
theorem yBI (l:PE X a ta) (k:PE X (.BoolOp .And (b::rest) pos) tb):PE X (.BoolOp .And (a::b::rest) pos) (yBF ta tb):=by
 intro e s Z H Q I h;refine BoolOp_and (thn (l e s Z H _ I h) fun v s1 z=>?_);obtain ⟨x,g,i,j,f⟩:=z;obtain ⟨c,rfl,f⟩:=f;cases j;refine wpAny_truthy_bool ?_;cases c with
 | true=>exact k e s1 Z g Q i f
 | false=>exact ⟨.bl false,g,i,rfl,f⟩
theorem yBJ (i:PE X a ta):PE X (.UnaryOp .Not a pos) (yBG ta):=by intro e s Z H Q I h;refine UnaryOp_ (thn (i e s Z H _ I h) fun v s1 z=>?_);obtain ⟨x,k,j,g,f⟩:=z;obtain ⟨c,rfl,f⟩:=f;cases g;exact not_of (wpAny_truthy_bool ⟨.bl _,k,j,rfl,f⟩)
noncomputable def tIf (t:TT) (ta tb:TE):TE:=fun Z H Q=>t Z H fun c H1=>if c=true then ta Z H1 Q else tb Z H1 Q
theorem yue (m:PT X c tA) (k:PE X a ta) (l:PE X b tb):PE X (.IfExp c a b pos) (tIf tA ta tb):=by
 intro f s Z H Q I h;refine wpAny_IfExp (thn (m f s Z H _ I h) fun d s1 z=>?_);obtain ⟨g,i,j⟩:=z;cases d with
 | true=>exact k f s1 Z g Q i j
 | false=>exact l f s1 Z g Q i j
end
def SqL (K:Frag) (H:Hp) (a:Addr) (xs:List V):Prop :=
 Rd H a (.lst xs) \/
  ∃ (o:Obj) (its:Array Value) (n:Nat),K.lookup a=some o/\o.cls=.type "list"/\o.dict=none/\o.data=.seq its n/\its.size<=sizeLine/\Vals xs its.toList
def SqT (K:Frag) (H:Hp) (a:Addr) (xs:List V):Prop :=
 Rd H a (.tup xs) \/
  ∃ (o:Obj) (its:Array Value) (n:Nat),K.lookup a=some o/\o.cls=.type "tuple"/\o.data=.seq its n/\its.size<=sizeLine/\Vals xs its.toList
noncomputable def yIi:Value->Option V
 | .none=>some .non
 | .bool b=>some (.bl b)
 | .int i _=>some (.int i)
 | .str x _=>some (.str x)
 | .bytes b _=>some (.byt b)
 | .float b _=>some (.flt b)
 | .ref a=>some (.ref a)
 | .type n=>some (.ty n)
 | _=>none
theorem RelV.abs (r:RelV x u):yIi u=some x:=by
 cases x with
 | non=>cases r;rfl
 | bl _=>cases r;rfl
 | int _=>obtain ⟨t,rfl⟩:=r;rfl
 | str _=>obtain ⟨t,rfl⟩:=r;rfl
 | byt _=>obtain ⟨t,rfl⟩:=r;rfl
 | flt _=>obtain ⟨t,rfl⟩:=r;rfl
 | ref _=>cases r;rfl
 | ty _=>cases r;rfl
theorem RelV.inj (r:RelV x u) (q:RelV y u):x=y:=Option.some.inj (r.abs.symm.trans q.abs)
theorem Vals.inj:∀ {xs ys:List V}{us:List Value},Vals xs us->Vals ys us->xs=ys
 | _,_,_,.nil,.nil=>rfl
 | _,_,_,.cons r t,.cons r' t'=>by rw [r.inj r',Vals.inj t t']
section
variable {X:Cx}{pins:List (Addr×Obj)}{Z:St}{H:Hp}{s:Shared}{a:Addr}{xs ys:List V}
theorem SqL.of {K:Frag}(h:H a=some (.lst xs)):SqL K H a xs:=.inl (.inl h)
theorem SqT.of {K:Frag}(h:H a=some (.tup xs)):SqT K H a xs:=.inl (.inl h)
theorem Inv.list (I:Inv X pins Z H s) (h:SqL X.K H a xs):∃ its:List Value,Vals xs its/\PlainL s.heap a its.toArray/\xs.length<=sizeLine:=by
 rcases h with h|⟨o,its,n,c,d,b,hs,hz,r⟩
 .obtain ⟨z,its,n,r,e⟩:=h.ok I.hok;exact ⟨its,r,⟨_,n,e,rfl,rfl,rfl⟩,z⟩
 .refine ⟨its.toList,r,⟨o,n,I.kIn a o c,d,b,by simpa using hs⟩,?_⟩;have e:=r.length;simp_all
theorem Inv.tuple (I:Inv X pins Z H s) (h:SqT X.K H a xs):∃ its:List Value,Vals xs its/\IsTup s.heap a its.toArray/\xs.length<=sizeLine:=by
 rcases h with h|⟨o,its,n,c,b,hs,hz,r⟩
 .obtain ⟨z,its,r,p⟩:=h.ok I.hok;grind
 .refine ⟨its.toList,r,⟨o,I.kIn a o c,b,n,by simpa using hs⟩,?_⟩;have e:=r.length;simp_all
theorem Inv.list_inj (I:Inv X pins Z H s) (h:SqL X.K H a xs) (h':SqL X.K H a ys):xs=ys:=by
 obtain ⟨its,r,⟨o,n,e,_,_,d⟩,_⟩:=I.list h;obtain ⟨its',b,⟨g,f,c,_,_,d'⟩,_⟩:=I.list h';rw [e] at c;have:its=its':=by simp_all
 subst this;exact r.inj b
end
noncomputable abbrev Cx.wish (X:Cx) (E:Value->Shared->Prop):Cx:={ X with xe:=E }
abbrev Cx.nox (X:Cx):Cx:=X.wish fun _ _=>False
theorem Cx.Ok.wish {X:Cx}(a:X.Ok) E:(X.wish E).Ok :=
 ⟨a.mod,a.kind,a.glob,a.blt,a.above,a.inj,a.has,a.cab,a.hd,a.frames,a.stk,a.exf,a.bs,a.bsz,a.noex,a.exfs,a.funs,a.frf⟩
theorem Cx.Ok.unwish {X:Cx}(a:(X.wish E).Ok):X.Ok :=
 ⟨a.mod,a.kind,a.glob,a.blt,a.above,a.inj,a.has,a.cab,a.hd,a.frames,a.stk,a.exf,a.bs,a.bsz,a.noex,a.exfs,a.funs,a.frf⟩
section
variable {X:Cx}{pins:List (Addr×Obj)}{Z:St}{H:Hp}{s:Shared}{E:Value->Shared->Prop}
theorem Inv.wish (I:Inv X pins Z H s) E:Inv (X.wish E) pins Z H s:=⟨I.ok.wish E,I.os,I.bare,I.base,I.loc,I.cell,I.free,I.freeC,I.pin,I.hok,I.len⟩
theorem Inv.unwish (I:Inv (X.wish E) pins Z H s):Inv X pins Z H s:=⟨I.ok.unwish,I.os,I.bare,I.base,I.loc,I.cell,I.free,I.freeC,I.pin,I.hok,I.len⟩
theorem SP.unwish (h:SP (X.wish E) pins D f s'):SP X pins D f s':=by
 cases f with
 | next=>obtain ⟨a,b,I,q⟩:=h;exact ⟨a,b,I.unwish,q⟩
 | brk=>obtain ⟨a,b,I,q⟩:=h;exact ⟨a,b,I.unwish,q⟩
 | cont=>obtain ⟨a,b,I,q⟩:=h;exact ⟨a,b,I.unwish,q⟩
 | ret u=>obtain ⟨v,a,b,I,r,q⟩:=h;exact ⟨v,a,b,I.unwish,r,q⟩
theorem PSs.nox {st:List Stmt}{t:TS}(h:PSs X.nox st t):PSs X st t:=fun pins s Z H D I a =>
 wpAny_mono (h pins s Z H D (I.wish _) a) (fun _ _ q=>q.unwish) fun _ _ z=>False.elim z
end
section
variable {X:Cx}{st:Stmt}{rest:List Stmt}{t u:TS}{e:Expr}{te:TE}{pos:Pos}
noncomputable def yBK:TS:=fun D Z H=>D.nx Z H
noncomputable def yFg (t u:TS):TS:=fun D Z H=>t { D with nx:=u D } Z H
theorem yyh:PSs X [] yBK:=fun _ _ Z H _ I h=>wpAny_execs_nil ⟨Z,H,I,h⟩
theorem yoz (h1:PS X st t) (h2:PSs X rest u):PSs X (st::rest) (yFg t u):=by
 intro b s Z H D I h;refine wpAny_execs_cons (thn (h1 b s Z H _ I h) fun f s1 q=>?_);cases f with
 | next =>
  obtain ⟨c,d,g,q⟩:=q;exact h2 b s1 c d D g q
 | ret v=>exact q
 | brk=>exact q
 | cont=>exact q
theorem yqE (h1:PS X st t):PSs X [st] t:=by
 intro b s Z H D I h;refine wpAny_execs_cons (thn (h1 b s Z H D I h) fun f s1 q=>?_);cases f with
 | next=>exact wpAny_execs_nil q
 | ret v=>exact q
 | brk=>exact q
 | cont=>exact q
theorem Inv.quiet {a:List _}{Z:St}{H:Hp}{s:Shared}(I:Inv X a Z H s):interactive X.env=false:=by simp [interactive,I.ok.kind]
noncomputable def yqF (te:TE):TS:=fun D Z H=>te Z H fun _ H1=>D.nx Z H1
theorem yjR (c:PE X e te) (hs:swapsWith e none pos.line X.env=pure false:=by rfl):PS X (.Expr e pos) (yqF te):=by intro b s Z H D I h;refine wpAny_Expr_any (thn (c b s Z H _ I h) fun v s1 z=>?_) I.quiet hs;obtain ⟨x,d,f,i,g⟩:=z;exact ⟨Z,d,f,g⟩
noncomputable def yHd (te:TE):TS:=fun D Z H=>te Z H D.rt
theorem yBL (f:PE X e te):PS X (.Return (some e) pos) (yHd te):=by intro b s Z H D I h;refine wpAny_Return_some (thn (f b s Z H _ I h) fun v s1 z=>?_);obtain ⟨x,d,g,c,i⟩:=z;exact ⟨x,Z,d,g,c,i⟩
noncomputable def yHe (c:TT) (t u:TS):TS:=fun D Z H=>c Z H fun b H1=>if b=true then t D Z H1 else u D Z H1
theorem yFh (n:PT X c tc) (l:PSs X a t) (m:PSs X b u):PS X (.If c a b pos) (yHe tc t u):=by
 intro g s Z H D I h;refine wpAny_If (thn (n g s Z H _ I h) fun d s1 z=>?_);obtain ⟨i,j,k⟩:=z;cases d with
 | true=>exact l g s1 Z i D j k
 | false=>exact m g s1 Z i D j k
def ywK:TS:=fun _ _ _=>False
theorem yuf:PS X st ywK:=fun _ _ _ _ _ _ h=>h.elim
end
noncomputable abbrev TG:=V->St->Hp->(St->Hp->Prop)->Prop
noncomputable abbrev TGs:=List V->St->Hp->(St->Hp->Prop)->Prop
def PG (X:Cx) (target:Expr) (t:TG):Prop :=
 ∀ (pins:List (Addr×Obj)) (s:Shared) (Z:St) (H:Hp) (v:V) (u:Value) (Q:St->Hp->Prop),Inv X pins Z H s->RelV v u->t v Z H Q ->
  wpAny (model X.prog X.w) X.A (assign target X.env u) (fun _ s'=>∃ Z' H',Inv X pins Z' H' s'/\Q Z' H') X.xe s
def PGs (X:Cx) (ts:List Expr) (t:TGs):Prop :=
 ∀ (pins:List (Addr×Obj)) (s:Shared) (Z:St) (H:Hp) (vs:List V) (us:List Value) (Q:St->Hp->Prop),Inv X pins Z H s->Vals vs us->t vs Z H Q ->
  wpAny (model X.prog X.w) X.A (assignInOrder ((assignEach ts X.env).map (·.2)) us) (fun _ s'=>∃ Z' H',Inv X pins Z' H' s'/\Q Z' H') X.xe s
noncomputable abbrev yFi:=V->V->V->Hp->(Hp->Prop)->Prop
def yHf (X:Cx) (t:yFi):Prop :=
 ∀ (pins:List (Addr×Obj)) (s:Shared) (Z:St) (H:Hp) (o i v:V) (ov iv u:Value) (Q:Hp->Prop),Inv X pins Z H s->RelV o ov->RelV i iv->RelV v u->t o i v H Q ->
  wpAny (model X.prog X.w) X.A (setItem ov iv u) (fun _ s'=>∃ H',Inv X pins Z H' s'/\Q H') X.xe s
section
variable {X:Cx}{pos:Pos}
def ynd (i:Nat):TG:=fun v Z H Q=>Q (Z.set i (some v)) H
theorem yjS (c:X.N.Nodup) (g:X.N[i]?=some x) (d:Loc X.env.scope x) (e:X.fn x=true\/X.env.scope.names.lookup x=some .local:=by first|exact .inl rfl|exact .inr rfl|assumption):PG X (.Name x pos) (ynd i):=by intro b s Z H v u Q I r h;exact wpAny_assign_Name (yoy I c g d r (fun s' f=>⟨_,H,f,h⟩) e)
def yFj:TGs:=fun vs Z H Q=>vs=[]/\Q Z H
noncomputable def yug (t:TG) (u:TGs):TGs:=fun vs Z H Q=>∃ v r,vs=v::r/\t v Z H fun Z' H'=>u r Z' H' Q
theorem yqG:PGs X [] yFj:=by intro a s Z H vs us Q I r h;obtain ⟨e,h⟩:=h;exact assignInOrder_nil ⟨Z,H,I,h⟩
theorem yjT (h1:PG X e t) (h2:PGs X es u)
  (hs:(assignEach (e::es) X.env).map (·.2)=assign e X.env::(assignEach es X.env).map (·.2):=by rfl):PGs X (e::es) (yug t u):=by
 intro b s Z H vs us Q I r h;obtain ⟨v,j,d,h⟩:=h;subst d;cases r with
 | cons r rr =>
  rw [hs];refine assignInOrder_cons (thn (h1 b s Z H _ _ _ I r h) fun _ s1 z=>?_);obtain ⟨c,f,i,g⟩:=z;exact h2 b s1 c f _ _ Q i rr g
def yEJ (K:Frag) (n:Nat) (t:TGs):TG:=fun v Z H Q=>∃ a xs,v=.ref a/\SqT K H a xs/\xs.length=n/\t xs Z H Q
theorem ywL {es:List Expr}{k:Nat}{t:TGs}{n:Nat}(hc:X.calm=true) (h:PGs X es t)
  (hn:(assignEach es X.env).length=n:=by rfl) (hst:(assignEach es X.env).findIdx? (·.1)=none:=by rfl):PG X (.Tuple es k pos) (yEJ X.K n t):=by
 intro pins s Z H v u Q I r hw;obtain ⟨a,xs,e1,hq,hl,hw⟩:=hw;subst e1;cases r;obtain ⟨its,rv,ht,hz⟩:=I.tuple hq;refine assign_Tuple_tuple (I.ok.hd hc) ht (by simp [hn,<- hl,rv.length]) hst fun h' hx=>?_
 have I1:Inv X pins Z H { s with heap:=h' }:=I.kept (t':=s.toks) fun b o e=>hx b o (ne_of_lt (Heap.lt_size e)) e
 exact h pins _ Z H xs _ Q I1 (by simpa using rv) hw
noncomputable def yHg (to ti:TE) (t:yFi):TG:=fun v Z H Q=>to Z H fun o H1=>ti Z H1 fun i H2=>t o i v H2 fun H3=>Q Z H3
theorem yBM (A:PE X o f) (C:PE X i e) (hs:yHf X t)
  (n:∀ v,assign (.Subscript o i pos) X.env v=(do
   let c <- holding [v] (eval o X.env)
   let d <- holding [v,c] (eval i X.env)
   standAt pos
   holding [v,c,d] (setItem c d v)
   release [v,c,d] []):=by intro _;rfl):PG X (.Subscript o i pos) (yHg f e t):=by
 intro b s Z H v u Q I r h;rw [n];refine wpAny_bind (wpAny_holding (thn (A b s Z H _ I h) fun c s1 z'=>?_));obtain ⟨x,w,j,l,q⟩:=z';refine wpAny_bind (wpAny_holding (thn (C b s1 Z w _ j q) fun d s2 y'=>?_));obtain ⟨y,B,p,r2,k⟩:=y';refine wpAny_bind (wpAny_standAt (wpAny_bind (wpAny_holding (thn (hs b s2 Z B x y v c d u _ p l r2 r k) fun _ s3 w'=>?_))));obtain ⟨g,m,z⟩:=w';exact wpAny_release ⟨Z,g,m,z⟩
def yBN (te:TE) (g:TG):TS:=fun D Z H=>te Z H fun x H1=>g x Z H1 D.nx
theorem ywM (f:PE X e te) (m:PG X c g) (hs:swapsWithSole [c] e pos.line X.env=pure false:=by rfl) (k:swappedStores [c] e X.env=pure none:=by rfl)
  (h1:(assignEach [c] X.env).map (·.2)=[assign c X.env]:=by rfl):PS X (.Assign [c] e pos) (yBN te g):=by
 intro b s Z H D I h;refine wpAny_Assign_stores (thn (f b s Z H _ I h) fun v s1 z=>?_) hs k;obtain ⟨x,j,l,d,i⟩:=z;rw [h1];exact thn (m b s1 Z j x v _ l d i) fun _ s2 q=>q
theorem ywN (f:X.N.Nodup) (n:X.N[i]?=some x) (j:Loc X.env.scope x) (m:PE X e te) (hs:swapsWith e (some (.Name x b)) pos.line X.env=pure false:=by rfl) (l:X.fn x=true\/X.env.scope.names.lookup x=some .local:=by first|exact .inl rfl|exact .inr rfl|assumption) :
  PS X (.Assign [.Name x b] e pos) (yBN te (ynd i)):=by
 intro c s Z H D I h;refine wpAny_Assign_Name (thn (m c s Z H _ I h) fun v s1 z=>?_) hs;obtain ⟨y,k,o,d,g⟩:=z;exact yoy o f n j d (fun s2 p=>⟨_,k,p,g⟩) l
end
section
variable {X:Cx}{pos:Pos}
noncomputable def ywO (c:TT) (tb:TS):TS:=fun D Z H=>∃ W:Nat->St->Hp->Prop,(∃ m,W m Z H)/\∀ m Z H,W m Z H ->
 c Z H fun b H1=>if b=true then ∃ N:St->Hp->Prop,(∀ Z' H',N Z' H'->∃ m',m'<m/\W m' Z' H')/\tb { D with nx:=N,ct:=N,bk:=D.nx } Z H1 else D.nx Z H1
theorem yuh (hp:PassesOwn (model X.prog X.w) X.A X.env X.xe) (A:PT X c tc) (B:PSs X body tb):PS X (.While c body [] pos) (ywO tc tb):=by
 intro e s Z H D I h;obtain ⟨W,⟨y,w0⟩,turn⟩:=h;refine wpAny_While (codeAny_whileLoop (fun n s'=>∃ j r,Inv X e j r s'/\W n j r) ?_ y ⟨Z,H,I,w0⟩);rintro n s1 ⟨g,u,C,z⟩;refine wpAny_passesOwn hp (thn (A e s1 g u _ C (turn n g u z)) fun b s2 z'=>?_);obtain ⟨x,t,k⟩:=z';cases b with
 | true =>
  obtain ⟨N,w,k⟩:=k;refine wpAny_passesOwn hp (thn (B e s2 g x _ t k) fun f s3 l=>?_);cases f with
  | next =>
   obtain ⟨d,i,m,p⟩:=l;obtain ⟨m',q,o⟩:=w d i p;exact ⟨m',q,d,i,m,o⟩
  | cont =>
   obtain ⟨d,i,m,p⟩:=l;obtain ⟨m',q,o⟩:=w d i p;exact ⟨m',q,d,i,m,o⟩
  | brk=>exact l
  | ret v=>exact l
 | false =>
  exact wpAny_execs_nil ⟨g,x,t,k⟩
end
structure It where
 go:Nat->Hp->Prop
 yld:Nat->Hp->V->Hp->Prop
 stop:Nat->Hp->Prop
def yui (X:Cx) (pins:List (Addr×Obj)) (H:Hp) (b:Addr):Prop :=
 H b=none/\b≠X.env.locals/\b∉X.fs/\(b∈X.ex\/X.s₀.heap.objs.size<=b)/\(∀ x c,X.env.cells.lookup x=some c->c≠b)/\∀ p∈X.pn++pins,p.1≠b
theorem Inv.fpOk {X:Cx}{d:List _}{Z:St}{H g:Hp}{s:Shared}{b:Addr}(I:Inv X d Z H s) (f:s.heap.objs.size<=b) (h:g b=none):yui X d g b:=by
 refine ⟨h,Nat.ne_of_gt (lt_of_lt_of_le I.lt f),I.nofs f,.inr (Nat.le_trans I.sz f),fun x c e z=>?_,fun p hp z=>?_⟩
 .obtain ⟨v,q⟩:=I.cell x c e;exact absurd (lt_of_lt_of_le q.lt (by rw [z];exact f)) (lt_irrefl _)
 .exact absurd (lt_of_lt_of_le (Heap.lt_size (I.pin p hp).1) (by rw [z];exact f)) (lt_irrefl _)
structure Turn (P:Program) (w:World) (K:Frag) (tg:Expr) (J:It) (fp:List Addr) (it:Addr) (tn:Nat->Heap->Prop):Prop where
 mem:it∈fp
 obj:∀ i h,tn i h->∀ b∈fp,∃ o,h.get? b=some o/\∀ v,o.data≠.cell v
 keep:∀ i h h',tn i h->(∀ b∈fp,∀ o,h.get? b=some o->h'.get? b=some o)->tn i h'
 item:∀ (X:Cx),X.prog=P->X.w=w->X.K=K->X.calm=true->∀ (i:Nat) (pins:List (Addr×Obj)) (s:Shared) (Z:St) (H:Hp) (E:Value->Shared->Prop),Inv X pins Z H s->(∀ b∈fp,yui X pins H b)->tn i s.heap->J.go i H ->
  wpAny (model P w) X.A (pyNext (.ref it)) (fun r s1=>∃ u,r=some u /\
   wpAny (model P w) X.A (letOwnedTupleGo tg (.ref it) u) (fun _ s2=>∃ x H',Inv X pins Z H' s2/\RelV x u/\J.yld i H x H'/\tn (i+1) s2.heap/\∀ b∈fp,H' b=none) E s1) E s
 done:∀ (X:Cx),X.prog=P->X.w=w->X.K=K->X.calm=true->∀ (i:Nat) (pins:List (Addr×Obj)) (s:Shared) (Z:St) (H:Hp) (E:Value->Shared->Prop),Inv X pins Z H s->(∀ b∈fp,yui X pins H b)->tn i s.heap->J.stop i H ->
  wpAny (model P w) X.A (pyNext (.ref it)) (fun r s1=>r=none/\Inv X pins Z H s1) E s
 self:∀ (A:Around) (i:Nat) (s:Shared) (Q:Value->Shared->Prop) (E:Value->Shared->Prop),tn i s.heap->Q (.ref it) s->wpAny (model P w) A (pyIter (.ref it)) Q E s
noncomputable abbrev TI:=St->Hp->(It->Hp->Prop)->Prop
def PIE (X:Cx) (pins:List (Addr×Obj)) (Z:St) (tg:Expr) (R:It->Hp->Prop) (itv:Value) (s2:Shared):Prop :=
 ∃ (it:Addr) (fp:List Addr) (tn:Nat->Heap->Prop) (J:It) (H':Hp),itv=.ref it/\Inv X pins Z H' s2/\Turn X.prog X.w X.K tg J fp it tn/\tn 0 s2.heap/\(∀ b∈fp,yui X pins H' b)/\R J H'
def PI (X:Cx) (tg iter:Expr) (wi:TI):Prop :=
 ∀ (pins:List (Addr×Obj)) (s:Shared) (Z:St) (H:Hp) (R:It->Hp->Prop),Inv X pins Z H s->wi Z H R ->
  wpAny (model X.prog X.w) X.A (eval iter X.env) (fun v s1=>wpAny (model X.prog X.w) X.A (pyIter v) (PIE X pins Z tg R) X.xe s1) X.xe s
theorem ypJ {s:Shared}{Q:Unit->Shared->Prop}(f:s.heap.get? d=some o) (e:o.cls=.type n) (g:o.data=.fields vs)
    (h:["enumerate","zip","dict_itemiterator","dict_reverseitemiterator","odict_iterator","itertools.zip_longest","itertools.pairwise"].contains n=false) (b:Q () s):wpAny M A (letOwnedTupleGo c (.ref d) u) Q E s:=by
  cases c<;>first
    | exact wpAny_pure b
    | (cases u<;>first
        | exact wpAny_pure b
        | (refine wpAny_bind (wpAny_load f ?_)
           rw [e,g];show wpAny M A (if (["enumerate","zip","dict_itemiterator","dict_reverseitemiterator","odict_iterator","itertools.zip_longest","itertools.pairwise"].contains n && vs[0]? == some _)=true then _ else _) Q E s;rw [if_neg (by grind)];exact wpAny_pure b))
def Itl (K:Frag) (a:Addr):It :=
 ⟨fun i H=>∃ xs x,SqL K H a xs/\xs[i]?=some x,fun i H x H'=>H'=H/\∀ xs,SqL K H a xs->xs[i]?=some x,fun i H=>∃ xs,SqL K H a xs/\xs.length<=i⟩
noncomputable def Itr (lo:Int) (n:Nat):It:=⟨fun i _=>i<n,fun i H x H'=>H'=H/\x=.int (lo+i),fun i _=>n<=i⟩
theorem yqH {P:Program}{w:World}{K:Frag}{J:Expr} a j:Turn P w K J (Itl K a) [j] j fun i h=>h.IsListIter j a i where
 mem:=by simp
 obj:=fun i h st b g=>by
  have e:=by simpa using g
  obtain ⟨o,e,c,d⟩:=st;simp_all
 keep:=fun i h h' st k=>st.at fun o e=>k j (by simp) o e
 item:=by
  intro X D A z G i m s Z H E I n st r;subst D A z;obtain ⟨xs,x,q,t⟩:=r;obtain ⟨its,C,p,hz⟩:=I.list q;obtain ⟨u,L,S⟩:=C.get t;obtain ⟨f0,B,N,F,y,v⟩:=n j (by simp);refine wpAny_pyNext_list_item st p.isList (by simpa using L) fun h' l M=>?_
  have Q:=I.turned (t':=s.toks) (fun b o g e=>(M.2 b g).trans e) f0 B F y v;obtain ⟨o,e,c,d⟩:=id l;exact ⟨u,rfl,ypJ e c d (by decide) ⟨x,H,Q,S,⟨rfl,fun ys R=>by rw [I.list_inj R q];exact t⟩,l,fun b g=>(n b g).1⟩⟩
 done:=by intro X D A z G i m s Z H E I n st r;subst D A z;obtain ⟨xs,q,t⟩:=r;obtain ⟨its,C,p,hz⟩:=I.list q;obtain ⟨f0,B,N,F,y,v⟩:=n j (by simp);have hl:=C.length;exact wpAny_pyNext_list_end (I.ok.hd G) st p.isList (by simp;omega) fun h' O=>⟨rfl,I.turned (fun b o g e=>O b o g e) f0 B F y v⟩
 self:=fun _ _ _ _ _ st h=>wpAny_pyIter_listiter st h
theorem ypK {P:Program}{w:World}{K:Frag}{D:Expr} d lo n:Turn P w K D (Itr lo n) [d] d (fun i h=>IsRangeIter h d (lo+i*1) (n-i) 1) where
 mem:=by simp
 obj:=fun i h st b f=>by simp_all
 keep:=fun i h h' st k=>k d (by simp) _ st
 item:=by
  intro X z x y p i c s Z H E I j st r;subst z x y;obtain ⟨f0,q,F,u,l,m⟩:=j d (by simp);have W:=Walks.range (prog:=X.prog) (w:=X.w) (I.ok.hd p) d lo 1 n;refine W.item i s _ _ r st fun v h' J C g A=>?_
  obtain ⟨t,rfl⟩:=C;have G:Inv X c Z H { s with heap:=h',toks:=J }:=I.turned (fun b o f e=>A b o (by simpa using f) e) f0 q u l m;refine ⟨_,rfl,ypJ g rfl rfl (by decide) ⟨.int _,H,G,⟨t,?_⟩,⟨rfl,rfl⟩,g,fun b f=>(j b f).1⟩⟩;rw [Int.mul_one]
 done:=by intro X z x y p i c s Z H E I j st r;obtain ⟨f0,q,F,u,l,m⟩:=j d (by simp);exact wpAny_pyNext_range_end (I.ok.hd p) st (by have:n<=i:=r;omega) fun h' B=>⟨rfl,I.turned (fun b o f e=>B b o f e) f0 q u l m⟩
 self:=fun _ _ _ _ _ st h=>wpAny_pyIter_rangeiter st h
section
variable {X:Cx}{tg:Expr}
def yuj (K:Frag) (tl:TE):TI:=fun Z H R=>tl Z H fun x H1=>∃ a,x=.ref a/\(∃ xs,SqL K H1 a xs)/\R (Itl K a) H1
theorem yne (hl:PE X l tl):PI X tg l (yuj X.K tl):=by
 intro d s Z H R I h;refine thn (hl d s Z H _ I h) fun v s1 z=>?_
 obtain ⟨x,j,f,g,i⟩:=z;obtain ⟨a,e,⟨xs,k⟩,q⟩:=i;subst e;cases g;obtain ⟨its,n,p,hz⟩:=f.list k;refine wpAny_pyIter_list p.isList ?_;refine ⟨s1.heap.objs.size,_,_,_,j,rfl,f.kept fun b o e=>Heap.get?_push_of_some _ e,yqH a _,⟨_,Heap.get?_push_size _ rfl,rfl,rfl⟩,fun b m=>?_,q⟩;have e:=by simpa using m
 subst e;exact f.fpOk (Nat.le_refl _) (f.hok.fresh (Nat.le_refl _))
theorem yuk {c:List _}{Z:St}{H:Hp}{s:Shared}{R:It->Hp->Prop}{E:Value->Shared->Prop}{lo d:Int}{t u v:Tok}{g:Nat}(I:Inv X c Z H s) (h1:-2 ^ 62<=lo) (h2:lo<2 ^ 62) (j:-2 ^ 62<=d) (k:d<2 ^ 62)
  (q:R (Itr lo (d-lo).toNat) H):wpAny (model X.prog X.w) X.A (pyIter (.ref s.heap.objs.size)) (PIE X c Z tg R) E { s with heap:=s.heap.push { cls:=.type "range",data:=.fields #[.int lo t,.int d u,.int 1 v] },toks:=g }:=by
 refine wpAny_pyIter_range (IsRange.new ..) (small_one h1 h2 j k) ?_;have f:Inv X c Z H { s with heap:=s.heap.push { cls:=.type "range",data:=.fields #[.int lo t,.int d u,.int 1 v] },toks:=g }:=I.kept fun b o e=>Heap.get?_push_of_some _ e
 refine ⟨_,_,_,_,H,rfl,
  f.kept fun b o e=>Heap.get?_push_of_some _ e,ypK _ lo _,?_,fun b h=>?_,q⟩
 .have l:lo+(0:Nat)*1=lo:=by simp
  have i:((d-lo).toNat:Int)-(0:Nat)=Builtin.Range.rangeSize lo d 1:=by rw [rangeSize_one];split<;>omega
  rw [l,i];exact Heap.get?_push_size _ rfl
 .have e:b=(s.heap.push { cls:=.type "range",data:=.fields #[.int lo t,.int d u,.int 1 v] }).objs.size:=by simpa using h
  subst e;exact f.fpOk (Nat.le_refl _) (f.hok.fresh (Nat.le_refl _))
def yBO (ta:TA):TI:=fun Z H R=>ta Z H fun vs H1=>∃ j:Int,vs=[.int j]/\-(2 ^ 62)<=j/\j<2 ^ 62/\R (Itr 0 j.toNat) H1
theorem yqI (l:Gl X "range") (n:X.mg "range" = none) (m:PA X [a] f) (hs:starEach [a] X.env=[(false,eval a X.env)]:=by rfl):PI X tg (.Call (.Name "range" p) [a] [] pos) (yBO f):=by
 intro c s Z H R I h;refine Call_ (yjn I l n boot_range (PyProof.Rows.callWith_type1 (thn (m pos c s Z H _ I h) fun us s1 z=>?_) hs rfl));obtain ⟨vs,o,g,k,d⟩:=z;obtain ⟨j,e,d,i,q⟩:=d;subst e;cases k with
 | cons r rr =>
  cases rr;obtain ⟨t,rfl⟩:=r;exact call_range_1 (yuk g (by omega) (by omega) d i (by simpa using q))
noncomputable def yBP (wi:TI) (g:TG) (tb:TS):TS:=fun D Z H=>wi Z H fun J H1=>∃ W:Nat->Nat->St->Hp->Prop,(∃ m,W 0 m Z H1)/\∀ i m Z H,W i m Z H ->
 (J.stop i H/\D.nx Z H)\/(J.go i H/\∃ N:St->Hp->Prop,(∀ Z' H',N Z' H'->∃ m',m'<m/\W (i+1) m' Z' H')/\∀ x H',J.yld i H x H'->g x Z H' fun Z2 H2=>tb { D with nx:=N,ct:=N,bk:=D.nx } Z2 H2)
noncomputable def yoA (fp:List Addr) (h:Heap):List (Addr×Obj):=fp.filterMap fun b=>(h.get? b).map fun o=>(b,o)
theorem ydF {h:Heap}(c:b∈fp) (e:h.get? b=some o):(b,o)∈yoA fp h:=List.mem_filterMap.mpr ⟨b,c,by rw [e];rfl⟩
theorem yqJ (hp:p∈yoA fp h):p.1∈fp/\h.get? p.1=some p.2:=by
 obtain ⟨b,a,e⟩:=List.mem_filterMap.mp hp;cases q:h.get? b with
 | none=>rw [q] at e;cases e
 | some o =>
  rw [q] at e;have c:=Option.some.inj e;subst c;exact ⟨a,q⟩
theorem Inv.pinned {c:List _}{Z:St}{H:Hp}{s:Shared}{fp:List Addr}(I:Inv X c Z H s) (f:∀ b∈fp,yui X c H b) (h:∀ b∈fp,∃ o,s.heap.get? b=some o/\∀ v,o.data≠.cell v):Inv X (c++yoA fp s.heap) Z H s :=
 I.pins_of fun p hp=>(List.mem_append.mp hp).elim (fun z=>I.pin p (mem_append_right _ z)) fun z=>by obtain ⟨d,e⟩:=yqJ z;obtain ⟨f0,i,g,_⟩:=f p.1 d;grind
theorem Inv.unpinned {b pl:List _}{Z:St}{H:Hp}{s:Shared}(I:Inv X (b++pl) Z H s):Inv X b Z H s:=I.pins_of fun p hp=>I.pin p (mem_append_right _ (mem_append_left _ hp))
theorem yqK (hp:PassesOwn (model X.prog X.w) X.A X.env X.xe) (Y:X.calm=true) (hi:PI X tg iter U) (hg:PG X tg g) (w:PSs X body tb)
  (hs:∀ x,foldedSetIterable iter X.env x=pure x:=by intro _;rfl):PS X (.For tg iter body [] pos) (yBP U g tb):=by
 intro c s K H D I h;refine wpAny_For (thn (hi c s K H _ I h) fun v s1 h1=>thn h1 fun itv s2 h2=>?_) hs;obtain ⟨it,fp,tn,J,H2,e,I2,T,O,f2,W,⟨m0,w0⟩,turn⟩:=h2;subst e;have k:∀ {y:Hp},(∀ b∈fp,y b=none)->∀ b∈fp,yui X c y b:=fun hn b w=>⟨hn b w,(f2 b w).2⟩
 refine codeAny_forLoop_any (fun n s'=>∃ i l y,Inv X c l y s'/\tn i s'.heap/\(∀ b∈fp,y b=none)/\W i n l y) ?_ m0 ⟨0,K,H2,I2,O,fun b w=>(f2 b w).1,w0⟩;rintro n s3 ⟨i,t,G,Z,C,E,w3⟩;rcases turn i n t G w3 with ⟨B,qn⟩|⟨go,N,hN,step⟩
 .refine wpAny_passesOwn hp (thn (T.done X rfl rfl rfl Y i c s3 t G X.xe Z (k E) C B) fun r s4 ⟨P,I4⟩=>?_);subst P;exact wpAny_execs_nil ⟨t,G,I4,qn⟩
 .refine wpAny_passesOwn hp (thn (T.item X rfl rfl rfl Y i c s3 t G X.xe Z (k E) C go) fun r s4 ⟨u,P,h4⟩=>?_);subst P;refine wpAny_passesOwn hp (thn h4 fun _ s5 z'=>?_);obtain ⟨x,S,I5,r5,y5,A,R⟩:=z';have Q:=I5.pinned (k R) (T.obj _ _ A);refine wpAny_passesOwn hp (thn (hg _ s5 t S x u _ Q r5 (step x S y5)) fun _ s6 y'=>?_);obtain ⟨L,H6,I6,q6⟩:=y';refine wpAny_passesOwn hp (thn (w _ s6 L H6 _ I6 q6) fun f M z=>?_);have again:∀ {j:St}{q:Hp},Inv X (c++yoA fp s5.heap) j q M->N j q->∃ m,m<n/\∃ i l y,Inv X c l y M/\tn i M.heap/\(∀ b∈fp,y b=none)/\W i m l y:=fun {j q} p F=>by obtain ⟨m',hm,w7⟩:=hN j q F;refine ⟨m',hm,i+1,j,q,p.unpinned,T.keep _ _ _ A fun b w o e=>(p.pin (b,o) (mem_append_right _ (mem_append_right _ (ydF w e)))).1,fun b w=>?_,w7⟩;obtain ⟨o,e,d⟩:=T.obj _ _ A b w;exact (p.pin (b,o) (mem_append_right _ (mem_append_right _ (ydF w e)))).2.1
  cases f with
  | next=>obtain ⟨j,q,p,F⟩:=z;exact again p F
  | cont=>obtain ⟨j,q,p,F⟩:=z;exact again p F
  | brk=>obtain ⟨j,q,p,z⟩:=z;exact ⟨j,q,p.unpinned,z⟩
  | ret v=>obtain ⟨x7,j,q,p,r7,z⟩:=z;exact ⟨x7,j,q,p.unpinned,r7,z⟩
end
abbrev R2:=V->V->Hp->VK->Prop
def OpR (X:Cx) (f:Value->Value->Sem Value) (r:R2):Prop :=
 ∀ (pins:List (Addr×Obj)) (s:Shared) (Z:St) (H:Hp) (x y:V) (v u:Value) (Q:VK),Inv X pins Z H s->RelV x v->RelV y u->r x y H Q ->
  wpAny (model X.prog X.w) X.A (f v u) (EP X pins Z Q) X.xe s
def UnR (X:Cx) (f:Value->Sem Value) (r:V->Hp->VK->Prop):Prop :=
 ∀ (pins:List (Addr×Obj)) (s:Shared) (Z:St) (H:Hp) (x:V) (v:Value) (Q:VK),Inv X pins Z H s->RelV x v->r x H Q ->
  wpAny (model X.prog X.w) X.A (f v) (EP X pins Z Q) X.xe s
def yfY (X:Cx) (f:Value) (r:List V->Hp->VK->Prop):Prop :=
 ∀ (pins:List (Addr×Obj)) (s:Shared) (Z:St) (H:Hp) (xs:List V) (us:List Value) (Q:VK),Inv X pins Z H s->Vals xs us->r xs H Q ->
  wpAny (model X.prog X.w) X.A (call f us) (EP X pins Z Q) X.xe s
noncomputable def tOp (r:R2) (ta tb:TE):TE:=fun Z H Q=>ta Z H fun x H1=>tb Z H1 fun y H2=>r x y H2 Q
noncomputable def tUn (r:V->Hp->VK->Prop) (ta:TE):TE:=fun Z H Q=>ta Z H fun x H1=>r x H1 Q
noncomputable def rI (C:Int->Int->Prop) (g:Int->Int->V):R2:=fun x y H Q=>∃ i j,x=.int i/\y=.int j/\C i j/\Q (g i j) H
noncomputable def rI0 (g:Int->Int->V):R2:=fun x y H Q=>∃ i j,x=.int i/\y=.int j/\Q (g i j) H
noncomputable def rU (g:Int->V):V->Hp->VK->Prop:=fun x H Q=>∃ i,x=.int i/\Q (g i) H
section
variable {X:Cx}{a b c:Expr}{ta tb tc:TE}{pos:Pos}
theorem yFk (p:PE X a ta) (r:PE X b tb) {e:List _}{s:Shared}{Z:St}{H:Hp}{R:V->V->Hp->Prop}(I:Inv X e Z H s)
  (h:ta Z H fun x k=>tb Z k fun y g=>R x y g) {Q:Value->Shared->Prop}{f:Value->Value->Sem Value}
  (m:∀ v u s2 x y g,Inv X e Z g s2->RelV x v->RelV y u->R x y g->wpAny (model X.prog X.w) X.A (f v u) Q X.xe s2) :
  wpAny (model X.prog X.w) X.A (eval a X.env) (fun v j=>wpAny (model X.prog X.w) X.A (eval b X.env) (fun u i=>wpAny (model X.prog X.w) X.A (f v u) Q X.xe i) X.xe j) X.xe s:=by
 refine thn (p e s Z H _ I h) fun v s1 z=>?_
 obtain ⟨x,k,q,t,n⟩:=z;refine thn (r e s1 Z k _ q n) fun u s2 z'=>?_
 obtain ⟨y,g,l,r2,o⟩:=z';exact m v u s2 x y g l t r2 o
theorem yBQ (i:OpR X (binaryOp op) r) (k:PE X a ta) (g:PE X b tb):PE X (.BinOp a op b pos) (tOp r ta tb):=by intro e s Z H Q I h;exact wpAny_BinOp (yFk k g I h fun v u s2 x y j f m l q=>i e s2 Z j x y v u Q f m l q)
theorem yFl (i:UnR X (unaryOp op) r) (j:PE X a ta):PE X (.UnaryOp op a pos) (tUn r ta):=by intro e s Z H Q I h;refine UnaryOp_ (thn (j e s Z H _ I h) fun v s1 z=>?_);obtain ⟨x,g,k,f,l⟩:=z;exact i e s1 Z g x v Q k f l
theorem opI {f:Value->Value->Sem Value}{C:Int->Int->Prop}{g:Int->Int->Int}
  (rule:∀ i j t u s Q E,C i j->Q (.int (g i j) s.toks) { s with toks:=s.toks+1 }->wpAny (model X.prog X.w) X.A (f (.int i t) (.int j u)) Q E s) :
  OpR X f (rI C fun i j=>.int (g i j)):=by
 intro e s Z H x y v u Q I m l h;obtain ⟨i,j,rfl,rfl,k,q⟩:=h;obtain ⟨t,rfl⟩:=m;obtain ⟨t',rfl⟩:=l;exact rule i j t t' s _ _ k ⟨.int _,H,I.tok _,⟨_,rfl⟩,q⟩
theorem yHh {f:Value->Value->Sem Value}{g:Int->Int->Int}
  (rule:∀ i j t u s Q E,Q (.int (g i j) s.toks) { s with toks:=s.toks+1 }->wpAny (model X.prog X.w) X.A (f (.int i t) (.int j u)) Q E s) :
  OpR X f (rI0 fun i j=>.int (g i j)):=by
 intro e s Z H x y v u Q I l k h;obtain ⟨i,j,rfl,rfl,q⟩:=h;obtain ⟨t,rfl⟩:=l;obtain ⟨t',rfl⟩:=k;exact rule i j t t' s _ _ ⟨.int _,H,I.tok _,⟨_,rfl⟩,q⟩
theorem yEK {f:Value->Value->Sem Value}{g:Int->Int->Bool}
  (rule:∀ i j t u s Q E,Q (.bool (g i j)) s->wpAny (model X.prog X.w) X.A (f (.int i t) (.int j u)) Q E s) :
  OpR X f (rI0 fun i j=>.bl (g i j)):=by
 intro e s Z H x y v u Q I l k h;obtain ⟨i,j,rfl,rfl,q⟩:=h;obtain ⟨t,rfl⟩:=l;obtain ⟨t',rfl⟩:=k;exact rule i j t t' s _ _ ⟨.bl _,H,I,rfl,q⟩
noncomputable def yHi (i j:Int):Prop:=0<j/\j<1073741824
noncomputable def yFm (i j:Int):Prop:=0<=j/\j<=1000000/\i.natAbs<2 ^ 64
noncomputable def CMul (i j:Int):Prop:=(-(2 ^ 64)<i/\i<2 ^ 64)\/(-(2 ^ 64)<j/\j<2 ^ 64)
theorem CMul.ok (h:CMul i j):IntMulOk i j:=by
 rcases h with ⟨h1,h2⟩|⟨h1,h2⟩
 .exact .of_left (intBits_le_64 h1 h2)
 .exact .of_right (intBits_le_64 h1 h2)
theorem ycg:OpR X (binaryOp .Add) (rI0 fun i j=>.int (i+j)):=yHh fun _ _ _ _ _ _ _ q=>add_int q
theorem yhR:OpR X (binaryOp .Sub) (rI0 fun i j=>.int (i-j)):=yHh fun _ _ _ _ _ _ _ q=>sub_int q
theorem yqL:OpR X (binaryOp .Mult) (rI CMul fun i j=>.int (i*j)):=opI fun _ _ _ _ _ _ _ e q=>mul_int q e.ok
theorem ycA:OpR X (binaryOp .FloorDiv) (rI yHi fun i j=>.int (i/j)):=opI fun i j _ _ _ _ _ e q=>by have h1:=e.1;have h2:=e.2;exact floordiv_int (by omega) (by rw [Int.fdiv_eq_ediv_of_nonneg i (by omega)];exact q) (.inl (PyProof.noPylong_small (by omega)))
theorem yca:OpR X (binaryOp .Mod) (rI (fun _ j=>0<j) fun i j=>.int (i%j)):=opI fun i j _ _ _ _ _ e q=>by exact mod_int' (by omega) (by rw [Int.fmod_eq_emod_of_nonneg i (by omega)];exact q)
theorem yqM:OpR X (binaryOp .Pow) (rI yFm fun i j=>.int (i ^ j.toNat)):=opI fun _ _ _ _ _ _ _ e q=>pow_int_small e.1 e.2.1 e.2.2 q
theorem unI {f:Value->Sem Value}{g:Int->Int}
  (rule:∀ i t s Q E,Q (.int (g i) s.toks) { s with toks:=s.toks+1 }->wpAny (model X.prog X.w) X.A (f (.int i t)) Q E s) :
  UnR X f (rU fun i=>.int (g i)):=by
 intro e s Z H x v Q I j h;obtain ⟨i,rfl,q⟩:=h;obtain ⟨t,rfl⟩:=j;exact rule i t s _ _ ⟨.int _,H,I.tok _,⟨_,rfl⟩,q⟩
theorem yqN:UnR X (unaryOp .USub) (rU fun i=>.int (-i)):=unI fun _ _ _ _ _ q=>neg_int q
end
noncomputable def yEL:V->V->Bool
 | .non,.non=>true|.non,.int _=>true|.int _,.non=>true|.non,.bl _=>true|.bl _,.non=>true|.non,.str _=>true|.str _,.non=>true
 | .int _,.int _=>true|.bl _,.bl _=>true|.str _,.str _=>true|.byt _,.byt _=>true
 | .int _,.str _=>true|.str _,.int _=>true|.bl _,.str _=>true|.str _,.bl _=>true
 | _,_=>false
def rEq:R2:=fun x y H Q=>yEL x y=true/\Q (.bl (decide (x=y))) H
def rNe:R2:=fun x y H Q=>yEL x y=true/\Q (.bl (!decide (x=y))) H
theorem yqO:decide (V.int i=V.int j)=(i == j):=by rw [Bool.eq_iff_iff];simp
theorem ywP:decide (V.bl i=V.bl j)=(i == j):=by rw [Bool.eq_iff_iff];simp
theorem yqP:decide (V.str i=V.str j)=(i == j):=by rw [Bool.eq_iff_iff];simp
theorem yqQ:decide (V.byt i=V.byt j)=(i.toList == j.toList):=by rw [Bool.eq_iff_iff];cases i;cases j;simp
section
variable {X:Cx}{a b c:Expr}{ta tb tc:TE}{pos:Pos}
theorem ybp {f:List _}{Z:St}{H:Hp}{s:Shared}{Q:VK}{k g:Bool}(I:Inv X f Z H s) (q:Q (.bl k) H) (e:k=g):EP X f Z Q (.bool g) s:=by subst e;exact ⟨.bl k,H,I,rfl,q⟩
theorem ybb:OpR X (compareOp .Eq) rEq:=by
 intro g s Z H x y v u Q I f e h;obtain ⟨hs,q⟩:=h;cases x with
 | non =>
  cases f;cases y with
  | non=>cases e;exact PySem.EqNone.eq_none_none (ybp I q (by simp))
  | bl j=>cases e;exact PySem.EqNone.eq_none_bool (ybp I q (by simp))
  | int j=>obtain ⟨t',rfl⟩:=e;exact PySem.EqNone.eq_none_int (ybp I q (by simp))
  | str j=>obtain ⟨t',rfl⟩:=e;exact PySem.EqNone.eq_none_str (ybp I q (by simp))
  | _=>exact absurd (show false=true from hs) Bool.false_ne_true
 | bl i =>
  cases f;cases y with
  | non=>cases e;exact PySem.EqNone.eq_bool_none (ybp I q (by simp))
  | bl j=>cases e;exact eq_bool (ybp I q ywP)
  | str j=>obtain ⟨t',rfl⟩:=e;exact PySem.EqMixed.eq_bool_str (ybp I q (by simp))
  | _=>exact absurd (show false=true from hs) Bool.false_ne_true
 | int i =>
  obtain ⟨t,rfl⟩:=f;cases y with
  | non=>cases e;exact PySem.EqNone.eq_int_none (ybp I q (by simp))
  | int j=>obtain ⟨t',rfl⟩:=e;exact eq_int (ybp I q yqO)
  | str j=>obtain ⟨t',rfl⟩:=e;exact PySem.EqMixed.eq_int_str (ybp I q (by simp))
  | _=>exact absurd (show false=true from hs) Bool.false_ne_true
 | str i =>
  obtain ⟨t,rfl⟩:=f;cases y with
  | non=>cases e;exact PySem.EqNone.eq_str_none (ybp I q (by simp))
  | bl j=>cases e;exact PySem.EqMixed.eq_str_bool (ybp I q (by simp))
  | int j=>obtain ⟨t',rfl⟩:=e;exact PySem.EqMixed.eq_str_int (ybp I q (by simp))
  | str j=>obtain ⟨t',rfl⟩:=e;exact eq_str (ybp I q yqP)
  | _=>exact absurd (show false=true from hs) Bool.false_ne_true
 | byt i =>
  obtain ⟨t,rfl⟩:=f;cases y with
  | byt j=>obtain ⟨t',rfl⟩:=e;exact PySem.W.eq_bytes (ybp I q yqQ)
  | _=>exact absurd (show false=true from hs) Bool.false_ne_true
 | _=>cases y<;>exact absurd (show false=true from hs) Bool.false_ne_true
theorem ynf:OpR X (compareOp .NotEq) rNe:=by
 intro g s Z H x y v u Q I f e h;obtain ⟨hs,q⟩:=h;cases x with
 | non =>
  cases f;cases y with
  | non=>cases e;exact PySem.EqNone.ne_none_none (ybp I q (by simp))
  | bl j=>cases e;exact PySem.EqNone.ne_none_bool (ybp I q (by simp))
  | int j=>obtain ⟨t',rfl⟩:=e;exact PySem.EqNone.ne_none_int (ybp I q (by simp))
  | str j=>obtain ⟨t',rfl⟩:=e;exact PySem.EqNone.ne_none_str (ybp I q (by simp))
  | _=>exact absurd (show false=true from hs) Bool.false_ne_true
 | bl i =>
  cases f;cases y with
  | non=>cases e;exact PySem.EqNone.ne_bool_none (ybp I q (by simp))
  | bl j=>cases e;exact ne_bool (ybp I q (congrArg not ywP))
  | str j=>obtain ⟨t',rfl⟩:=e;exact PySem.EqMixed.ne_bool_str (ybp I q (by simp))
  | _=>exact absurd (show false=true from hs) Bool.false_ne_true
 | int i =>
  obtain ⟨t,rfl⟩:=f;cases y with
  | non=>cases e;exact PySem.EqNone.ne_int_none (ybp I q (by simp))
  | int j=>obtain ⟨t',rfl⟩:=e;exact ne_int (ybp I q (congrArg not yqO))
  | str j=>obtain ⟨t',rfl⟩:=e;exact PySem.EqMixed.ne_int_str (ybp I q (by simp))
  | _=>exact absurd (show false=true from hs) Bool.false_ne_true
 | str i =>
  obtain ⟨t,rfl⟩:=f;cases y with
  | non=>cases e;exact PySem.EqNone.ne_str_none (ybp I q (by simp))
  | bl j=>cases e;exact PySem.EqMixed.ne_str_bool (ybp I q (by simp))
  | int j=>obtain ⟨t',rfl⟩:=e;exact PySem.EqMixed.ne_str_int (ybp I q (by simp))
  | str j=>obtain ⟨t',rfl⟩:=e;exact ne_str (ybp I q (congrArg not yqP))
  | _=>exact absurd (show false=true from hs) Bool.false_ne_true
 | byt i =>
  obtain ⟨t,rfl⟩:=f;cases y with
  | byt j=>obtain ⟨t',rfl⟩:=e;exact PySem.W.ne_bytes (ybp I q (congrArg not yqQ))
  | _=>exact absurd (show false=true from hs) Bool.false_ne_true
 | _=>cases y<;>exact absurd (show false=true from hs) Bool.false_ne_true
theorem ylu:OpR X (compareOp .Lt) (rI0 fun i j=>.bl (decide (i<j))):=yEK fun _ _ _ _ _ _ _ q=>lt_int q
theorem yiT:OpR X (compareOp .LtE) (rI0 fun i j=>.bl (decide (i<=j))):=yEK fun _ _ _ _ _ _ _ q=>le_int q
theorem yqR:OpR X (compareOp .Gt) (rI0 fun i j=>.bl (decide (j<i))):=yEK fun _ _ _ _ _ _ _ q=>gt_int q
theorem yFn:OpR X (compareOp .GtE) (rI0 fun i j=>.bl (decide (j<=i))):=yEK fun _ _ _ _ _ _ _ q=>ge_int q
theorem yqS:OpR X (compareOp .In) (fun x y H Q=>∃ i j,x=.str i/\y=.str j/\Q (.bl !(Builtin.Str.occurrences j i 0 j.length 1).isEmpty) H):=by intro e s Z H x y v u Q I g f h;obtain ⟨i,j,rfl,rfl,q⟩:=h;obtain ⟨t,rfl⟩:=g;obtain ⟨t',rfl⟩:=f;exact in_str (ybp I q rfl)
theorem yoB:OpR X (compareOp .Is) fun x y H Q=>y=.non/\Q (.bl (decide (x=.non))) H:=by
 intro e s Z H x y v u Q I g f h;obtain ⟨rfl,q⟩:=h;cases f;refine is_none_gen (ybp I q ?_);cases x<;>first
  | (rfl)
  | (obtain ⟨t,rfl⟩:=g;rfl)
theorem yyi:OpR X (compareOp .IsNot) fun x y H Q=>y=.non/\Q (.bl (!decide (x=.non))) H:=by
 intro e s Z H x y v u Q I g f h;obtain ⟨rfl,q⟩:=h;cases f;refine isnot_none_gen (ybp I q ?_);cases x<;>first
  | (rfl)
  | (obtain ⟨t,rfl⟩:=g;rfl)
theorem ylv b {op:CmpOp}(h:op≠.In:=by decide) (h2:op≠.NotIn:=by decide):behindInMarks op b=false:=by
 have f:(op == CmpOp.In)=false:=by grind
 have e:(op == CmpOp.NotIn)=false:=by simp_all
 cases b<;>simp [behindInMarks,f,e]
theorem yyj (j:OpR X (compareOp op) r) (l:PE X a ta) (i:PE X b tb) (g:behindInMarks op b=false):PE X (.Compare a [op] [b] pos) (tOp r ta tb):=by intro e s Z H Q I h;exact wpAny_Compare1 (yFk l i I h fun v u s2 x y k f n m q=>j e s2 Z k x y v u Q f n m q) g
def yyk (t:TE):TT:=fun Z H Q=>t Z H fun x H'=>∃ k,x=.bl k/\Q k H'
theorem yyl (B:OpR X (compareOp op) r) (t:PE X a ta) (l:PE X b tb) (j:behindInMarks op b=false):PT X (.Compare a [op] [b] pos) (yyk (tOp r ta tb)):=by
 intro f s Z H Q I h;refine wpAny_isTrue_Compare1 (thn (t f s Z H _ I h) fun v s1 ⟨x,A,n,p,w⟩=>thn (l f s1 Z A _ n w) fun u s2 ⟨y,C,D,r2,i⟩ =>
  thn (B f s2 Z C x y v u _ D p r2 i) fun c s3 ⟨z,g,o,q,k,e,m⟩=>?_) j
 subst e;cases q;exact wpAny_truthy_bool ⟨g,o,m⟩
noncomputable def yqT (r r':R2) (ta tb tc:TE):TE:=fun Z H Q=>ta Z H fun x H1=>tb Z H1 fun y H2=>r x y H2 fun z H3=>∃ k,z=.bl k /\
 (if k=true then tc Z H3 fun w' H4=>r' y w' H4 Q else Q (.bl false) H3)
theorem yul (N:OpR X (compareOp op) r) (j:OpR X (compareOp i) n) (G:PE X a ta) (C:PE X b tb) (O:PE X c tc)
  (w:lastMarks [op,i] [b,c]=false:=by with_unfolding_all rfl):PE X (.Compare a [op,i] [b,c] pos) (yqT r n ta tb tc):=by
 intro g s Z H Q I h;refine Compare_chain (thn (G g s Z H _ I h) fun v s1 ⟨x,L,B,D,J⟩=>chain_link (thn (C g s1 Z L _ B J) fun u s2 ⟨y,P,F,r2,t⟩ =>
  thn (N g s2 Z P x y v u _ F D r2 t) fun d s3 ⟨z,l,o,E,k,e,m⟩=>?_)) w
 subst e;cases E;refine wpAny_truthy_bool ?_;cases k with
 | false=>exact ite_ff ⟨.bl false,l,o,rfl,m⟩
 | true=>exact ite_tt (chain_last (thn (O g s3 Z l _ o m) fun q s4 ⟨p,R,S,M,A⟩=>j g s4 Z R y p u q Q S r2 M A))
theorem yum (R:OpR X (compareOp op) r) (j:OpR X (compareOp i) n) (N:PE X a ta) (w:PE X b tb) (Z:PE X c tc)
  (q:lastMarks [op,i] [b,c]=false:=by with_unfolding_all rfl):PT X (.Compare a [op,i] [b,c] pos) (yyk (yqT r n ta tb tc)):=by
 intro g s f H Q I h;refine isTrue_chain (thn (N g s f H _ I h) fun v s1 ⟨x,T,F,J,P⟩=>test_link (thn (w g s1 f T _ F P) fun u s2 ⟨y,W,Y,r2,q2⟩ =>
  thn (R g s2 f W x y v u _ Y J r2 q2) fun d s3 ⟨z,o,l,L,k,e,m⟩=>?_)) q
 subst e;cases L;refine wpAny_truthy_bool ?_;cases k with
 | false =>
  obtain ⟨k',B,t⟩:=m;cases B;exact ite_ff ⟨o,l,t⟩
 | true =>
  refine ite_tt (test_last (thn (Z g s3 f o _ l m) fun M s4 z'=>?_));obtain ⟨C,p,I4,U,E⟩:=z';refine thn (j g s4 f p y C u M _ I4 r2 U E) fun d' s5 y'=>?_
  obtain ⟨z2,S,G,D,k2,A,O⟩:=y';subst A;cases D;exact wpAny_truthy_bool ⟨S,G,O⟩
theorem yjo:sizeLine<2 ^ 63:=by decide
theorem yeq:OpR X (binaryOp .Add) fun x y H Q=>∃ i j,x=.str i/\y=.str j/\i.length+j.length<=sizeLine/\Q (.str (i++j)) H:=by intro e s Z H x y v u Q I g f h;obtain ⟨i,j,rfl,rfl,hz,q⟩:=h;obtain ⟨t,rfl⟩:=g;obtain ⟨t',rfl⟩:=f;exact add_str (fun t' k=>⟨.str _,H,I.tok _,⟨_,rfl⟩,q⟩) hz
theorem vals1 (r:Vals [x] us):∃ u,us=[u]/\RelV x u:=by
 cases r with
 | cons r1 r2=>cases r2;exact ⟨_,rfl,r1⟩
theorem vals2 (r:Vals [x,y] us):∃ u d,us=[u,d]/\RelV x u/\RelV y d:=by
 cases r with
 | cons r1 r2 =>
  cases r2 with
  | cons r3 r4=>cases r4;exact ⟨_,_,rfl,r1,r3⟩
theorem yqU (hc:X.calm=true):yfY X (.builtin "min") (fun xs H Q=>∃ i j,xs=[.int i,.int j]/\Q (.int (if j<i then j else i)) H):=by
 intro pins s Z H xs us Q I r h;obtain ⟨i,j,rfl,q⟩:=h;obtain ⟨u,w',rfl,⟨t,rfl⟩,⟨t',rfl⟩⟩:=vals2 r;refine min_two_ints (I.ok.hd hc) fun h' tk k=>⟨_,H,I.kept k,?_,q⟩
 by_cases hj:j<i
 .rw [if_pos hj,if_pos hj];exact ⟨_,rfl⟩
 .rw [if_neg hj,if_neg hj];exact ⟨_,rfl⟩
end
structure ObjM (h:Heap) (x dx C:Addr) (mA:Str->Option Value):Prop where
 obj:h.get? x=some (instObj C dx)
 ns:h.Ns1 dx mA
 ne:dx≠x
theorem yqV {h:Heap}(n:h.Ns1 d f):∃ od,h.get? d=some od/\∀ name,PySem.W.lookIn name od=some (f name):=by
 obtain ⟨o,es,ep,j,k,g,_,l⟩:=n;refine ⟨o,j,fun name=>?_⟩;have e:=l name;unfold nsFind findBy at e;rw [<- Array.find?_toList] at e;unfold PySem.W.lookIn;rw [k];dsimp only;split
 .grind
 .have a:es.toList.any (·.refKey)=false:=by rw [List.any_eq_false];intro y i;obtain ⟨z,t,c⟩:=g y (Array.mem_toList_iff.mp i);simp [DictEntry.refKey,c]
  grind
theorem ObjM.look (I:ObjM h x b C c):∃ od,PySem.W.InstAt h x (instObj C b) C (some od)/\∀ name,PySem.W.lookIn name od=some (c name) :=
 let ⟨od,d,hl⟩:=yqV I.ns
 ⟨od,⟨I.obj,rfl,rfl,d⟩,hl⟩
section
variable {prog:Program}{w:World}{A:Around}{E:Value->Shared->Prop}{s:Shared}{K:Frag}{x dx C f:Addr}{mA:Str->Option Value}{name:Str}{v:Value}
theorem yym {Q:Value->Shared->Prop}(X:K.In s.heap) (I:ObjM s.heap x dx C mA) (d:plainGet K C name=true) (i:hasDictIn K C=true)
  (g:findIn K (.ref C) name=some none) (e:mA name=some v) (c:PySem.W.handedIn v=true) (h:Q v { s with toks:=s.toks+1 }) :
  wpAny (model prog w) A (getAttr (.ref x) name b) Q E s:=by
 obtain ⟨od,J,hl⟩:=I.look;exact PySem.W.get_value X J (PySem.W.plainGet_of d).1 (PySem.W.findObj_own i g rfl (by rw [hl,e])) c h
theorem yun {pl:Sem Bool}{Q:Value×List Value->Shared->Prop}(X:K.In s.heap) (I:ObjM s.heap x dx C mA) (b:plainGet K C name=true)
  (d:findIn K (.ref C) name=some (some (.ref f))) (e:isFn K (.ref f)=true) (c:mA name=none) (h:Q (.ref f,[.ref x]) s) :
  wpAny (model prog w) A (getMethod (.ref x) name pl) Q E s:=by
 obtain ⟨od,J,hl⟩:=I.look;exact PySem.W.method_fn X J (PySem.W.plainGet_of b).1 (PySem.W.plainGet_of b).2 d (beq_iff_eq.mp e) (by show (PySem.W.lookIn name od).map _=some false;rw [hl,c];rfl) h
theorem yyn {Q:Unit->Shared->Prop}(X:K.In s.heap) (I:ObjM s.heap x dx C mA)
  (hs:findIn K (.ref C) "__setattr__" = some (some (.builtin "object.__setattr__"))) (hp:PySem.W.plainOver K C=true) (n:PySem.W.takerIn K C name=some none) (q:hasDictIn K C=true)
  (k:PySem.Within mA ns) (hsz:ns.length<=sizeLine)
  (h:∀ h',ObjM h' x dx C (fun y=>if y=name then some v else mA y)->Heap.SameBut dx s.heap h'->Q () { s with heap:=h',toks:=s.toks+2 }) :
  wpAny (model prog w) A (setAttr (.ref x) name v) Q E s:=by
 obtain ⟨od,J,hl⟩:=I.look;refine PySem.W.set_plain X J hs (PySem.W.osa_open X J hp n fun b=>?_);obtain ⟨r,p,g⟩:=PySem.W.any_some q;have m:=I.obj;refine wpAny_bind (wpAny_pure (wpAny_bind (wpAny_bind (wpAny_loadPart m (wpAny_bind (PySem.W.Looks.here (PySem.W.looks_clsIn X p) ?_))))));rw [g];refine wpAny_pure (wpAny_bind (wpAny_pure (wpAny_bind ?_)));refine wpAny_nsSet1 I.ns fun h' c d=>?_
 obtain ⟨t,o,l,i,e,j⟩:=c.count (PySem.Within.cons name v k);refine wpAny_bind (wpAny_lookBehind i (by rw [e];exact pastItsLine_dict (Nat.le_trans j (by simp_all))) ?_);exact wpAny_pure (h _ ⟨(d.2 _ (Ne.symm I.ne)).trans I.obj,c,I.ne⟩ d)
theorem yuo (X:K.In s.heap) (d:makesIn K C=true)
  (g:findIn K (.ref C) "__init__" = some (some (.ref f))) (e:typeIn K (.ref f)=some (.type "function"))
  (h:codeAny (model prog w) (A.under (.builtin "type.__call__" ⟨.ref C::vs,c⟩)) (.call (.ref f) ⟨.ref (s.heap.objs.size+1)::vs,c⟩) (PySem.W.InitBack (s.heap.objs.size+1) R)
   { s with heap:=(s.heap.push emptyDict).push (instObj C s.heap.objs.size) }) :
  codeAny (model prog w) A (.call (.ref C) ⟨vs,c⟩) R s:=by
 exact PySem.W.make_core (PySem.W.makes_of X d) (PySem.W.looks_findIn X g) (fun b=>PySem.W.bind_fn X b e) (.inl rfl) h
end
noncomputable def yjU (f:Str) (v:V):List (Str×V)->List (Str×V)
 | []=>[(f,v)]
 | (g,x)::r=>if g=f then (g,v)::r else (g,x)::yjU f v r
theorem yhS f g v:∀ fs,(yjU f v fs).lookup g=if g=f then some v else fs.lookup g
 | []=>by show List.lookup g [(f,v)]=_;grind
 | (k,x)::r=>by have b:=yhS f g v r;rw [show yjU f v _=if k=f then (k,v)::r else (k,x)::yjU f v r from rfl];grind
theorem yhT f v:∀ fs,f∈(yjU f v fs).map (·.1)/\∀ g,g∈fs.map (·.1)->g∈(yjU f v fs).map (·.1)
 | []=>⟨by simp [yjU],fun g h=>by simp at h⟩
 | (k,x)::r=>by obtain ⟨c,b⟩:=yhT f v r;rw [show yjU f v _=if k=f then (k,v)::r else (k,x)::yjU f v r from rfl];grind
theorem yhU f v:∀ fs,(yjU f v fs).length<=fs.length+1
 | []=>by simp [yjU]
 | (k,x)::r=>by have b:=yhU f v r;rw [show yjU f v _=if k=f then (k,v)::r else (k,x)::yjU f v r from rfl];grind
theorem RelO.some_of (r:RelO (some v) o):∃ u,o=some u/\RelV v u:=by
 cases o with
 | none=>exact (r).elim
 | some u=>exact ⟨u,rfl,r⟩
theorem RelO.none_of (r:RelO none o):o=none:=by
 cases o with
 | none=>rfl
 | some u=>exact (r).elim
theorem yqW (r:RelV v u):PySem.W.handedIn u=true:=by
 cases v with
 | non=>cases (r);rfl
 | bl b=>cases (r);rfl
 | int i=>obtain ⟨t,e⟩:=(r);cases e;rfl
 | str x=>obtain ⟨t,e⟩:=(r);cases e;rfl
 | byt b=>obtain ⟨t,e⟩:=(r);cases e;rfl
 | flt b=>obtain ⟨t,e⟩:=(r);cases e;rfl
 | ref a=>cases (r);rfl
 | ty n=>cases (r);rfl
section
variable {P:Program}{w:World}{H H':Hp}{h h':Heap}{a C dx:Addr}{fs fs':List (Str×V)}
theorem yjV (c:HOk P w H h) (e:H a=some (.ins C dx fs)):∃ b,ObjM h a dx C b/\(∀ f,RelO (fs.lookup f) (b f))/\PySem.Within b (fs.map (·.1))/\fs.length<=1000/\H dx=some (.own a):=by
 obtain ⟨d,z,g,i,b,n,r,q⟩:=(c a _ e)
 exact ⟨b,⟨i,n,g⟩,r,q,z,d⟩
end
structure Cls (K:Frag) (C:Addr):Prop where
 pg:plainGet K C Str.empty=true
 hd:hasDictIn K C=true
 po:PySem.W.plainOver K C=true
 sa:findIn K (.ref C) "__setattr__" = some (some (.builtin "object.__setattr__"))
theorem Cls.get {K:Frag}{C:Addr}(c:Cls K C) (f:Str):plainGet K C f=true:=c.pg
noncomputable def NoAttr (K:Frag) (C:Addr) (f:Str):Prop:=findIn K (.ref C) f=some none
theorem NoAttr.taker {K:Frag}{C:Addr}{f:Str}(n:NoAttr K C f):PySem.W.takerIn K C f=some none:=by unfold PySem.W.takerIn;rw [n];rfl
structure Meth (K:Frag) (C:Addr) (m:Str) (f:Addr):Prop where
 at_:findIn K (.ref C) m=some (some (.ref f))
 fn:isFn K (.ref f)=true
 kp:keepIn K (.ref f)=true
section
variable {X:Cx}{pins:List (Addr×Obj)}{Z:St}{H:Hp}{s:Shared}{a C dx:Addr}{fs:List (Str×V)}{f:Str}{v:V}{A:Around}{E:Value->Shared->Prop}
theorem ypL {Q:Value->Shared->Prop}(I:Inv X pins Z H s) (e:H a=some (.ins C dx fs)) (c:Cls X.K C) (n:NoAttr X.K C f) (l:fs.lookup f=some v)
  (h:∀ u s',Inv X pins Z H s'->RelV v u->Q u s'):wpAny (model X.prog X.w) A (getAttr (.ref a) f b) Q E s:=by
 obtain ⟨i,O,r,_,_,_⟩:=yjV I.hok e;obtain ⟨u,g,d⟩:=RelO.some_of (by rw [<- l];exact r f);exact yym I.kIn O (c.get f) c.hd n g (yqW d) (h u _ (I.tok _) d)
theorem ygW {pl:Sem Bool}{Q:Value×List Value->Shared->Prop}(I:Inv X pins Z H s) (e:H a=some (.ins C dx fs)) (c:Cls X.K C) (k:Meth X.K C m g) (l:fs.lookup m=none)
  (h:Q (.ref g,[.ref a]) s):wpAny (model X.prog X.w) A (getMethod (.ref a) m pl) Q E s:=by
 obtain ⟨d,O,r,_,_,_⟩:=yjV I.hok e;have b:=RelO.none_of (by rw [<- l];exact r m);exact yun I.kIn O (c.get m) k.at_ k.fn b h
theorem ypM {Q:Unit->Shared->Prop}(I:Inv X pins Z H s) (e:H a=some (.ins C dx fs)) (c:Cls X.K C) (n:NoAttr X.K C f) (hl:fs.length<1000) (w:RelV y u)
  (h:∀ s',Inv X pins Z (upd H a (.ins C dx (yjU f y fs))) s'->Q () s'):wpAny (model X.prog X.w) A (setAttr (.ref a) f u) Q E s:=by
 obtain ⟨x,O,r,i,_,j⟩:=yjV I.hok e;have hz:(fs.map (·.1)).length<=sizeLine:=by rw [length_map,sizeLine_eq];omega
 refine yyn I.kIn O c.sa c.po n.taker c.hd i hz fun h' d m=>h _ ?_
 have t:∃ o,h'.get? dx=some o:=let ⟨o,_,_,k,_⟩:=d.ns;⟨o,k⟩
 refine I.write (by rw [e];exact True.intro) (.inr j) (fun b q l z=>(m.2 b l).trans z) t ?_;refine ⟨by rw [yL O.ne];exact j,?_,O.ne,d.obj,_,d.ns,fun g=>?_,fun g p=>?_⟩
 .have:=yhU f y fs;omega
 .rw [yhS]
  by_cases q:g=f
  .rw [if_pos q,if_pos q];exact w
  simp_all
 .by_cases q:g=f
  .rw [q];exact (yhT f y fs).1
  .refine (yhT f y fs).2 g (i g fun z=>p ?_);grind
theorem Inv.made (I:Inv X pins Z H s):Inv X pins Z (upd (upd H s.heap.objs.size (.own (s.heap.objs.size+1))) (s.heap.objs.size+1) (.ins C s.heap.objs.size []))
  { s with heap:=(s.heap.push emptyDict).push (instObj C s.heap.objs.size) }:=by
 have d:(s.heap.push emptyDict).get? s.heap.objs.size=some emptyDict:=Heap.get?_push_size s.heap rfl;have h:=by have:=Heap.get?_push_size (s.heap.push emptyDict) (o:=instObj C s.heap.objs.size) rfl;rwa [Heap.size_push] at this
 have j:(s.heap.push emptyDict).Ns s.heap.objs.size _:=⟨emptyDict,#[],_,d,rfl,fun e g=>absurd g (by simp),fun _=>rfl⟩
 have k:=I.laid (o:=.own (s.heap.objs.size+1)) (t':=s.toks) (fun b u q=>Heap.get?_push_of_some _ q) (Nat.le_refl _) ⟨_,d⟩;refine k.laid (fun b u q=>Heap.get?_push_of_some _ q) (le_of_eq (Heap.size_push _ _)) ?_;have c:s.heap.objs.size≠s.heap.objs.size+1:=ne_of_lt (Nat.lt_succ_self _);refine ⟨by rw [yL c,yK],zero_le _,c,h,_,(Heap.Ns1.of_empty j).at fun o q=>Heap.get?_push_of_some _ q,fun _=>True.intro,fun y i=>absurd rfl i⟩
theorem yyo {f:Str}{s:Shared}{Q:Value->Shared->Prop}(c:attributeBase e f env (eval e env)=eval e env)
  (h:wpAny (model prog w) A (eval e env) (fun o b=>wpAny (model prog w) A (getAttr o f true) Q E b) E s):wpAny (model prog w) A (eval (.Attribute e f pos) env) Q E s :=
 Attribute_any_ h (by rw [arm_eval_Attribute,c])
end
def yHj (K:Frag) (ta:TE) (f:Str):TE:=fun Z H Q=>ta Z H fun x H1=>∃ a C dx fs v,x=.ref a/\H1 a=some (.ins C dx fs)/\Cls K C/\NoAttr K C f/\fs.lookup f=some v/\Q v H1
def yFo (K:Frag) (ta tv:TE) (f:Str):TS:=fun D Z H=>tv Z H fun y H1=>ta Z H1 fun x H2=>∃ a C dx fs,x=.ref a/\H2 a=some (.ins C dx fs)/\Cls K C/\NoAttr K C f/\fs.length<1000 /\
 D.nx Z (upd H2 a (.ins C dx (yjU f y fs)))
section
variable {X:Cx}{o e value:Expr}{f:Str}{pos pos' tpos:Pos}{ta tv:TE}
theorem yBR (i:PE X e ta) (j:attributeBase e f X.env (eval e X.env)=eval e X.env):PE X (.Attribute e f pos) (yHj X.K ta f):=by intro d s Z H Q I h;refine yyo j (thn (i d s Z H _ I h) fun u s1 z'=>?_);obtain ⟨x,m,w,p,a,C,z,fs,v,g,r,c,n,l,q⟩:=z';subst g;obtain rfl:u=Value.ref a:=p;exact ypL w r c n l fun y s2 k t=>⟨v,m,k,t,q⟩
theorem ywQ (p:PE X o ta) (j:PE X value tv) (hs:swapsWith value (some (.Attribute o f pos')) pos.line X.env=pure false):PS X (.Assign [.Attribute o f pos'] value pos) (yFo X.K ta tv f):=by
 intro d s Z H D I h;refine plainObj_wpAny_Assign_Attribute (thn (j d s Z H _ I h) fun u s1 z'=>?_) hs;obtain ⟨y,w,t,g,q⟩:=z';refine thn (p d s1 Z w _ t q) fun A s2 y'=>?_
 obtain ⟨x,E,k,r,a,C,B,fs,v,i,c,n,l,m⟩:=y';subst v;obtain rfl:A=Value.ref a:=r;exact ypM k i c n l g fun s3 z=>⟨Z,_,z,m⟩
end
section
variable {X:Cx}{pins:List (Addr×Obj)}{Z:St}{H:Hp}{s:Shared}{A:Around}{E:Value->Shared->Prop}{Q:Value->Shared->Prop}{c:Value}{b:Bool}
inductive yoC (K:Frag) (H:Hp):V->Value->Prop where
 | non:yoC K H .non (.type "NoneType")
 | bl (x:Bool):yoC K H (.bl x) (.type "bool")
 | int (i:Int):yoC K H (.int i) (.type "int")
 | str (x:Str):yoC K H (.str x) (.type "str")
 | flt (x:UInt64):yoC K H (.flt x) (.type "float")
 | lst {a:Addr}{xs:List V}(e:H a=some (.lst xs)):yoC K H (.ref a) (.type "list")
 | frz {a:Addr}{o:Obj}{xs:List V}(e:H a=some (.frz o (.lst xs))):yoC K H (.ref a) (.type "list")
 | tup {a:Addr}{xs:List V}(e:H a=some (.tup xs)):yoC K H (.ref a) (.type "tuple")
 | kt {a:Addr}{o:Obj}(e:K.lookup a=some o) (c:o.cls=.type "tuple"):yoC K H (.ref a) (.type "tuple")
 | dK {a:Addr}{kvs:List (Key×V)}(e:H a=some (.dK kvs)):yoC K H (.ref a) (.type "dict")
 | dT {a:Addr}{kvs:List (List Key×V)}(e:H a=some (.dT kvs)):yoC K H (.ref a) (.type "dict")
 | ins {a C dx:Addr}{fs:List (Str×V)}(e:H a=some (.ins C dx fs)) (cl:Cls K C) (ha:findIn K (.ref C) "__class__" = some (some (.builtin "object.__class__")))
   (hn:PySem.W.specialIn K (.builtin "object.__class__") "__get__" = some (some (.builtin "getset_descriptor.__get__"))) (htk:PySem.W.takesIn K (.builtin "object.__class__")=some true)
   (hm:mroIn K C (.type "object")=some true):yoC K H (.ref a) (.ref C)
theorem yqX (I:Inv X pins Z H s) (d:RelV x u) (f:yoC X.K H x t) (e:PySem.W.kitOne X.K t c=some b) (h:∀ g,Q (.bool b) { s with toks:=g }) :
  wpAny (model X.prog X.w) A (call (.builtin "isinstance") [u,c]) Q E s:=by
 cases f with
 | non=>cases (d);exact kia_one PySem.W.kitx_none I.kIn True.intro e (fun z=>nomatch z) h
 | bl y=>cases (d);exact kia_one PySem.W.kitx_bool I.kIn True.intro e (fun z=>nomatch z) h
 | int i=>obtain ⟨t,q⟩:=(d);cases q;exact kia_one PySem.W.kitx_int I.kIn True.intro e (fun z=>nomatch z) h
 | str y=>obtain ⟨t,q⟩:=(d);cases q;exact kia_one PySem.W.kitx_str I.kIn True.intro e (fun z=>nomatch z) h
 | flt y=>obtain ⟨t,q⟩:=(d);cases q;exact kia_one PySem.W.kitx_float I.kIn True.intro e (fun z=>nomatch z) h
 | @lst a xs ea =>
  cases (d);obtain ⟨_,_,n,_,h1⟩:=(I.hok a _ ea)
  exact kia_one PySem.W.kitx_list I.kIn ⟨_,h1,rfl⟩ e (fun z=>nomatch z) h
 | @frz a ob xs ea =>
  cases (d);obtain ⟨_,_,_,n,_,h1⟩:=(I.hok a _ ea)
  exact kia_one PySem.W.kitx_list I.kIn ⟨_,h1,rfl⟩ e (fun z=>nomatch z) h
 | @tup a xs ea =>
  cases (d);obtain ⟨_,_,_,p⟩:=(I.hok a _ ea)
  obtain ⟨o,h1,h2,_⟩:=p;exact kia_one PySem.W.kitx_tuple I.kIn ⟨o,h1,h2⟩ e (fun z=>nomatch z) h
 | @kt a ob ek ck =>
  cases (d);exact kia_one PySem.W.kitx_tuple I.kIn ⟨ob,I.kIn a ob ek,ck⟩ e (fun z=>nomatch z) h
 | @dK a kvs ea =>
  cases (d);obtain ⟨_,_,vs,_,p⟩:=(I.hok a _ ea)
  obtain ⟨o,es,ep,h1,h2,_⟩:=p;exact kia_one PySem.W.kitx_dict I.kIn ⟨o,h1,h2.1⟩ e (fun z=>nomatch z) h
 | @dT a kvs ea =>
  cases (d);obtain ⟨_,_,xs,_,o,es,ep,h1,h2,_⟩:=(I.hok a _ ea)
  exact kia_one PySem.W.kitx_dict I.kIn ⟨o,h1,h2.1⟩ e (fun z=>nomatch z) h
 | @ins a C dx fs ea cl ha hn htk hm =>
  cases (d);obtain ⟨j,O,_⟩:=yjV I.hok ea;obtain ⟨od,J,_⟩:=O.look;exact kia_one (PySem.W.kitx_own (cl.get _) cl.hd ha hn htk hm) I.kIn J e (fun z=>nomatch z) h
end
structure Room (k:Nat) (A:Around):Prop where
 hd:A.handled=none
 dp:A.depth+3*k+5<recursionLimit
 un:A.units+16*k+200<cLine
theorem Room.mono (r:Room k A) (h:j<=k):Room j A:=⟨r.hd,by have:=r.dp;omega,by have:=r.un;omega⟩
theorem Room.deeper (r:Room (k+1) A) env:Room k (A.deeper env) :=
 ⟨r.hd,by have:=r.dp;show A.depth+1+3*k+5<_;omega,by have:=r.un;show A.units+3+16*k+200<_;omega⟩
theorem ypN {A:Around}:(A.under (.builtin "type.__call__" ⟨.ref C::us,kw⟩)).depth=A.depth+1:=by first|rfl|simp [Around.under,Code.weight,Code.isCreation,Code.isGuard,Code.isCaller,Code.frames,Code.isFrame,guardIds]
theorem ypO {A:Around}:(A.under (.builtin "type.__call__" ⟨.ref C::us,kw⟩)).units=A.units+1:=by first|rfl|simp [Around.under,Code.cUnits,Code.frames,Code.isFrame]
theorem Room.make (r:Room (k+1) A) C us b:Room k (A.under (.builtin "type.__call__" ⟨.ref C::us,b⟩)) :=
 ⟨r.hd,by have:=r.dp;rw [ypN];omega,by have:=r.un;rw [ypO];omega⟩
theorem Room.depth (r:Room k A):A.depth<recursionLimit:=by have:=r.dp;omega
theorem Room.units (r:Room k A):A.units+64<cLine:=by have:=r.un;omega
def ywR:TA:=fun _ H Q=>Q [] H
noncomputable def yng (ta:TE) (tr:TA):TA:=fun Z H Q=>ta Z H fun x H1=>tr Z H1 fun xs H2=>Q (x::xs) H2
section
variable {X:Cx}{e:Expr}{es:List Expr}{te:TE}{t:TA}{pos:Pos}
theorem yjp:PA X [] ywR:=fun _ _ _ _ H Q I h=>Calls.spliced_nil ⟨[],H,I,.nil,h⟩
theorem yfZ (m:PE X e te) (j:PA X es t) (hs:starEach (e::es) X.env=(false,eval e X.env)::starEach es X.env:=by rfl):PA X (e::es) (yng te t):=by
 intro pos b s Z H Q I h;rw [hs];show wpAny _ _ (spliced ((false,eval e X.env)::backTo pos _)) _ _ s;refine Calls.spliced_cons (thn (m b s Z H _ I h) fun u s1 z=>?_);obtain ⟨x,g,l,c,d⟩:=z;refine thn (j pos b s1 Z g _ l d) fun us s2 z'=>?_
 obtain ⟨xs,i,k,r2,f⟩:=z';exact ⟨x::xs,i,k,.cons c r2,f⟩
def yHk (t:TA):TE:=fun Z H Q=>t Z H fun xs H1=>xs.length<=sizeLine/\∀ p,H1 p=none->Q (.ref p) (upd H1 p (.tup xs))
def yHl (t:TA):TE:=fun Z H Q=>t Z H fun xs H1=>xs.length<=sizeLine/\∀ p,H1 p=none->Q (.ref p) (upd H1 p (.lst xs))
theorem yBS {x1} (h:PA X es t):PE X (.Tuple es x1 pos) (yHk t):=by intro c s Z H Q I g;refine wpAny_Tuple_spliced (thn (h pos c s Z H _ I g) fun us s1 z'=>?_);obtain ⟨xs,i,d,r,z,q⟩:=z';refine ⟨by rw [<- r.length];exact z,?_⟩;have f:=d.hok.fresh (Nat.le_refl _);refine ⟨.ref s1.heap.objs.size,_,d.laid (fun b u e=>Heap.get?_push_of_some _ e) (Nat.le_refl _) ?_,rfl,q _ f⟩;exact ⟨z,us,r,⟨_,Heap.get?_push_size _ rfl,rfl,_,rfl⟩⟩
theorem yBT (h:PA X es t):PE X (.List es pos) (yHl t):=by intro c s Z H Q I g;refine wpAny_List_spliced (thn (h pos c s Z H _ I g) fun us s1 z'=>?_);obtain ⟨xs,i,d,r,z,q⟩:=z';refine ⟨by rw [<- r.length];exact z,?_⟩;have f:=d.hok.fresh (Nat.le_refl _);refine ⟨.ref s1.heap.objs.size,_,d.laid (fun b u e=>Heap.get?_push_of_some _ e) (Nat.le_refl _) ?_,rfl,q _ f⟩;exact ⟨z,us,0,r,Heap.get?_push_size _ rfl⟩
end
abbrev Sp:=List V->Hp->VK->XK->Prop
abbrev CXT:=List Env->Hp->Shared->XK->Value->Shared->Prop
structure Env0 (P:Program) (w:World) (K:Frag) (mg:Str->Option Value) (base:Heap) (A:Around) (outer:List Env) (s:Shared) (H:Hp):Prop where
 frames:A.frames=some outer
 mod:Mod K mg base
 bs:∀ b o,base.get? b=some o->s.heap.get? b=some o/\H b=none
 bsz:base.objs.size<=s.heap.objs.size
 funs:s.heap.FunFrames base outer
 frf:∀ b∈frs outer,H b=none
 hok:HOk P w H s.heap
 bare:AllBare s.gens
def CE (outer:List Env) (P:Program) (w:World) (H:Hp) (s:Shared) (Q:VK) (u:Value) (s':Shared):Prop :=
 ∃ v H',s'.os=s.os/\AllBare s'.gens/\Un (frs outer) [] H H' s.heap s'.heap/\HOk P w H' s'.heap/\RelV v u/\Q v H'
def CR (CX:CXT) (outer:List Env) (P:Program) (w:World) (H:Hp) (s:Shared) (Q:VK) (E:XK) (r:Result) (s':Shared):Prop :=
 match r with
 | .ok (.ret u)=>CE outer P w H s Q u s'
 | .ok _=>False
 | .error e=>CX outer H s E e s'
structure FnOk (P:Program) (w:World) (K:Frag) (mg:Str->Option Value) (base:Heap) (CX:CXT) (k:Nat) (f:Addr) (fd:FuncData) (ps:List Str) (sp:Sp):Prop where
 len:∀ vs H Q E,sp vs H Q E->vs.length=ps.length
 run:∀ (A:Around) (outer:List Env) (s:Shared) (H:Hp) (args:Args) (us:List Value) (vs:List V) (Q:VK) (E:XK),Room k A->Env0 P w K mg base A outer s H->BindsTo s fd args (ps.zip us)->Vals vs us->sp vs H Q E ->
  codeAny (model P w) A (.call (.ref f) args) (CR CX outer P w H s Q E) s
theorem FnOk.mono {P:Program}{w:World}{K:Frag}{c:Str->Option Value}{base:Heap}{CX:CXT}{j k:Nat}{f:Addr}{b:FuncData}{ps:List Str}{sp:Sp}(F:FnOk P w K c base CX j f b ps sp) (h:j<=k) :
  FnOk P w K c base CX k f b ps sp:=⟨F.len,fun A outer s H args us vs Q E d=>F.run A outer s H args us vs Q E (d.mono h)⟩
theorem FnOk.imp {P:Program}{w:World}{K:Frag}{c:Str->Option Value}{base:Heap}{CX:CXT}{k:Nat}{f:Addr}{d:FuncData}{ps:List Str}{sp b:Sp}(F:FnOk P w K c base CX k f d ps sp)
  (h:∀ vs H Q E,b vs H Q E->sp vs H Q E):FnOk P w K c base CX k f d ps b :=
 ⟨fun vs H Q E q=>F.len vs H Q E (h _ _ _ _ q),fun A outer s H args us vs Q E i j g e hs=>F.run A outer s H args us vs Q E i j g e (h _ _ _ _ hs)⟩
theorem Env0.make {P:Program}{w:World}{K:Frag}{b:Str->Option Value}{base:Heap}{A:Around}{outer:List Env}{s:Shared}{H:Hp}(e:Env0 P w K b base A outer s H) C us c :
  Env0 P w K b base (A.under (.builtin "type.__call__" ⟨.ref C::us,c⟩)) outer s H:=⟨by first|exact e.frames|omega,e.mod,e.bs,e.bsz,e.funs,e.frf,e.hok,e.bare⟩
section
variable {X:Cx}{pins:List (Addr×Obj)}{Z:St}{H:Hp}{s s':Shared}
theorem Inv.env0 (I:Inv X pins Z H s):Env0 X.prog X.w X.K X.mg X.base X.A X.stack s H :=
 ⟨I.ok.frames,I.ok.mod,I.bs,Nat.le_trans I.ok.bsz I.sz,I.stack,I.stkFree,I.hok,I.bare⟩
theorem Inv.after {Q:VK}(I:Inv X pins Z H s) (h:CE X.stack X.prog X.w H s Q u s'):EP X pins Z Q u s':=by obtain ⟨v,f,os,a,i,e,r,q⟩:=h;obtain ⟨j,g,d,t,c⟩:=s';obtain rfl:c=s.os:=os;exact ⟨v,f,I.call i e a fun b z=>absurd z (by simp),r,q⟩
end
noncomputable def yup (sp:Sp) (dvs:List V) (E:XK) (t:TA):TE:=fun Z H Q=>t Z H fun vs H1=>sp (vs++dvs) H1 Q E
def yyp (C:Addr) (m:Str) (sp:Sp) (dvs:List V) (E:XK) (ta:TE) (t:TA):TE:=fun Z H Q=>ta Z H fun x H1=>∃ a dx fs,x=.ref a/\H1 a=some (.ins C dx fs)/\fs.lookup m=none /\
 t Z H1 fun vs H2=>sp (x::(vs++dvs)) H2 Q E
def yuq (C:Addr) (sp:Sp) (dvs:List V) (E:XK) (t:TA):TE:=fun Z H Q=>t Z H fun vs H1=>∀ x dx,H1 x=none->H1 dx=none->dx≠x ->
 sp (.ref x::(vs++dvs)) (upd (upd H1 dx (.own x)) x (.ins C dx [])) (fun v H2=>v=.non/\Q (.ref x) H2) E
noncomputable def Binds (K:Frag) (fd:FuncData) (ps:List Str) (ds:List Value):Prop :=
 ∀ (s:Shared) (us:List Value),K.In s.heap->(us++ds).length=ps.length->BindsTo s fd ⟨us,[]⟩ (ps.zip (us++ds))
theorem Binds.all {K:Frag}{fd:FuncData}{ps:List Str}(h:∀ us:List Value,us.length=ps.length->bindArgs fd ⟨us,[]⟩=pure (ps.zip us)):Binds K fd ps []:=fun s us _ hl=>by rw [append_nil] at hl ⊢;exact .of_eq (h us hl)
def ygt (CX:CXT) (X:Cx) (E:XK):Prop:=∀ (pins:List (Addr×Obj)) (Z:St) (H:Hp) (s:Shared) (e:Value) (s':Shared),Inv X pins Z H s->CX X.stack H s E e s'->X.xe e s'
section
variable {X:Cx}{CX:CXT}{k:Nat}{f C:Addr}{fd:FuncData}{ps:List Str}{sp:Sp}{dvs:List V}{ds:List Value}{E:XK}{x m:Str}{p pos apos:Pos}{e o:Expr}{es:List Expr}{ta:TE}{t:TA}
theorem ylw {b:List _}{Z:St}{H:Hp}{s:Shared}{Q:VK}{us:List Value}{vs:List V}(F:FnOk X.prog X.w X.K X.mg X.base CX k f fd ps sp) (j:Room k X.A) (i:Binds X.K fd ps ds) (d:Vals dvs ds) (g:ygt CX X E)
  (I:Inv X b Z H s) (r:Vals vs us) (h:sp (vs++dvs) H Q E):wpAny (model X.prog X.w) X.A (call (.ref f) us) (EP X b Z Q) X.xe s:=by
 have r2:=r.append d;have hl:(us++ds).length=ps.length:=by rw [<- r2.length];exact F.len _ _ _ _ h
 refine wpAny_call (codeAny_mono (F.run X.A X.stack s H _ _ _ Q E j I.env0 (i s us I.kIn hl) r2 h) fun r s' c=>?_);cases r with
 | error e=>exact g b Z H s e s' I c
 | ok fl =>
  cases fl with
  | ret u=>exact I.after c
  | next=>exact False.elim c
  | brk=>exact False.elim c
  | cont=>exact False.elim c
theorem yyq (F:FnOk X.prog X.w X.K X.mg X.base CX k f fd ps sp) (j:Room k X.A) (u:Gl X x) (i:X.mg x=some (.ref f)) (n:keepIn X.K (.ref f)=true) (l:Binds X.K fd ps ds) (z:Vals dvs ds) (y:ygt CX X E)
  (w:PA X (e::es) t) (d:(x == "__debug__")=false:=by decide) (v:starEach (e::es) X.env=(false,eval e X.env)::starEach es X.env:=by rfl) (c:(backTo pos (starEach es X.env)).any (·.1)=false:=by rfl) :
  PE X (.Call (.Name x p) (e::es) [] pos) (yup sp dvs E t):=by
 intro b s Z H Q I h;refine wpAny_Call_Name_kw (yhQ I u i ?_ d);refine PySem.W.callWith_K I.ok.mod.kin n (thn (w pos b s Z H _ I h) fun us s1 z'=>?_) v c;obtain ⟨vs,A,g,r,q⟩:=z';refine ⟨g.kIn,?_⟩;exact ylw F j l z y g r q
theorem yyr {pl:Sem Bool}(L:PE X o ta) (c:Cls X.K C) (w:Meth X.K C m f) (F:FnOk X.prog X.w X.K X.mg X.base CX k f fd ps sp) (A:Room k X.A) (z:Binds X.K fd ps ds) (O:Vals dvs ds) (G:ygt CX X E) (M:PA X (e::es) t)
  (i:starEach (e::es) X.env=(false,eval e X.env)::starEach es X.env:=by rfl) (g:(backTo pos (starEach es X.env)).any (·.1)=false:=by rfl)
  (D:eval (.Call (.Attribute o m apos) (e::es) [] pos) X.env=(do
   let n <- eval o X.env
   standAt apos.atName
   let (f,first) <- holding [n] (getMethod n m pl)
   callWith pos f first (backTo pos (starEach (e::es) X.env)) (backToKw pos (keywordEach [] X.env))):=by rfl) :
  PE X (.Call (.Attribute o m apos) (e::es) [] pos) (yyp C m sp dvs E ta t):=by
 intro d s Z H Q I h;refine PySem.W.methodCall_KW (thn (L d s Z H _ I h) fun u s1 z'=>?_) D;obtain ⟨x,P,j,B,a,S,fs,y,N,l,q⟩:=z';subst y;obtain rfl:u=Value.ref a:=B;refine ygW j N c w l ?_;refine PySem.W.callWith_K I.ok.mod.kin w.kp (thn (M pos d s1 Z P _ j q) fun us s2 y'=>?_) i g;obtain ⟨vs,R,v,r,J⟩:=y';refine ⟨v.kIn,?_⟩;exact ylw (vs:=.ref a::vs) F A z O G v (.cons rfl r) J
theorem yur {pl:Sem Bool}(B:PE X o ta) (c:Cls X.K C) (i:Meth X.K C m f) (F:FnOk X.prog X.w X.K X.mg X.base CX k f fd ps sp) (v:Room k X.A) (r:Binds X.K fd ps ds) (n:Vals dvs ds) (A:ygt CX X E)
  (y:eval (.Call (.Attribute o m apos) [] [] pos) X.env=(do
   let j <- eval o X.env
   standAt apos.atName
   let (f,first) <- holding [j] (getMethod j m pl)
   callWith pos f first (backTo pos (starEach [] X.env)) (backToKw pos (keywordEach [] X.env))):=by rfl) :
  PE X (.Call (.Attribute o m apos) [] [] pos) (yyp C m sp dvs E ta ywR):=by
 intro d s Z H Q I h;refine PySem.W.methodCall_KW (thn (B d s Z H _ I h) fun u s1 z'=>?_) y;obtain ⟨x,G,g,w,a,J,fs,D,z,l,q⟩:=z';subst D;obtain rfl:u=Value.ref a:=w;refine ygW g z c i l ?_;exact PySem.W.callWith_K0 g.kIn i.kp (ylw (us:=[.ref a]) (vs:=[.ref a]) F v r n A g (.cons rfl .nil) q)
structure Mk (K:Frag) (C f:Addr):Prop where
 makes:makesIn K C=true
 init:findIn K (.ref C) "__init__" = some (some (.ref f))
 fn:isFn K (.ref f)=true
 kp:keepIn K (.ref C)=true
theorem yoD {c:List _}{Z:St}{H:Hp}{s:Shared}{Q:VK}{us:List Value}{vs:List V}(M:Mk X.K C f) (F:FnOk X.prog X.w X.K X.mg X.base CX k f fd ps sp) (A:Room (k+1) X.A) (q:Binds X.K fd ps ds) (B:Vals dvs ds)
  (y:ygt CX X E) (I:Inv X c Z H s) (r:Vals vs us)
  (h:∀ x d,H x=none->H d=none->d≠x->sp (.ref x::(vs++dvs)) (upd (upd H d (.own x)) x (.ins C d [])) (fun v z=>v=.non/\Q (.ref x) z) E) :
  wpAny (model X.prog X.w) X.A (call (.ref C) us) (EP X c Z Q) X.xe s:=by
 have i:=h _ s.heap.objs.size (I.hok.fresh (Nat.le_succ _)) (I.hok.fresh (Nat.le_refl _)) (ne_of_lt (Nat.lt_succ_self _));have g:=Inv.made (C:=C) I;have r2:Vals (V.ref (s.heap.objs.size+1)::(vs++dvs)) _:=.cons rfl (r.append B);have hl:=by have e:=r2.length;rw [F.len _ _ _ _ i] at e;exact e.symm
 refine wpAny_call (yuo I.kIn M.makes M.init (beq_iff_eq.mp M.fn) (codeAny_mono (F.run _ X.stack _ _ _ _ _ _ E (A.make C us [])
  (g.env0.make C us []) (q _ _ g.kIn hl) r2 i) fun r s' b=>?_))
 cases r with
 | error e=>exact y c Z _ _ e s' g b
 | ok fl =>
  cases fl with
  | ret u =>
   obtain ⟨v,w,n,j,ev,l⟩:=g.after b;subst ev;exact ⟨j,⟨V.ref _,w,n,rfl,l⟩⟩
  | next=>exact False.elim b
  | brk=>exact False.elim b
  | cont=>exact False.elim b
theorem yqY (M:Mk X.K C f) (F:FnOk X.prog X.w X.K X.mg X.base CX k f fd ps sp) (w:Room (k+1) X.A) (n:Gl X x) (i:X.mg x=some (.ref C)) (j:Binds X.K fd ps ds) (y:Vals dvs ds) (l:ygt CX X E)
  (v:PA X (e::es) t) (d:(x == "__debug__")=false:=by decide) (u:starEach (e::es) X.env=(false,eval e X.env)::starEach es X.env:=by rfl) (c:(backTo pos (starEach es X.env)).any (·.1)=false:=by rfl) :
  PE X (.Call (.Name x p) (e::es) [] pos) (yuq C sp dvs E t):=by
 intro b s Z H Q I h;refine wpAny_Call_Name_kw (yhQ I n i ?_ d);refine PySem.W.callWith_K I.ok.mod.kin M.kp (thn (v pos b s Z H _ I h) fun us s1 z'=>?_) u c;obtain ⟨vs,z,g,r,q⟩:=z';refine ⟨g.kIn,?_⟩;exact yoD M F w j y l g r q
theorem yus (M:Mk X.K C f) (F:FnOk X.prog X.w X.K X.mg X.base CX k f fd ps sp) (j:Room (k+1) X.A) (d:Gl X x) (g:X.mg x=some (.ref C)) (i:Binds X.K fd ps ds) (n:Vals dvs ds) (l:ygt CX X E)
  (b:(x == "__debug__")=false:=by decide):PE X (.Call (.Name x p) [] [] pos) (yuq C sp dvs E ywR):=by
 intro c s Z H Q I h;exact wpAny_Call_Name_kw (yhQ I d g (PySem.W.callWith_K0 I.kIn M.kp (yoD (us:=[]) M F j i n l I .nil h)) b)
end
structure yez (N P:List Str) (sc:Scope):Prop where
 kind:sc.kind=.function
 co:sc.isCoroutine=false
 gen:sc.isGenerator=false
 nd:N.Nodup
 pre:N.take P.length=P
 par:∀ x∈P,sc.names.lookup x=some .local \/ sc.names.lookup x=some .cell
 nofree:∀ y∈sc.names,y.2≠.free
theorem ylx {kindOf:Str->Option NameKind}{x:Str}:∀ {b:List _}{m:Str->Option Value},(∀ v,(x,v)∉b)->bindL kindOf b m x=m x
 | [],_,_=>rfl
 | (n,v)::r,m,h=>by
  unfold bindL;rw [ylx fun w c=>h w (mem_cons_of_mem _ c)];split
  .have:x≠n:=by rintro rfl;exact h v mem_cons_self
   simp [this]
  .rfl
theorem yly {kindOf:Str->Option NameKind}{x:Str}:∀ {b:List _}{m:Str->Option Value},(∀ v,(x,v)∉b)->bindC kindOf b m x=m x
 | [],_,_=>rfl
 | (n,v)::r,m,h=>by
  unfold bindC;rw [yly fun w c=>h w (mem_cons_of_mem _ c)];split
  .rfl
  grind
theorem ylz {kindOf:Str->Option NameKind}{x:Str}{v:Value}:∀ {P:List Str}{vs:List Value}{i:Nat}{m:Str->Option Value},P.Nodup->P[i]?=some x->vs[i]?=some v->kindOf x=some .local ->
  bindL kindOf (P.zip vs) m x=some v
 | [],_,_,_,_,h,_,_=>by simp at h
 | _::_,[],_,_,_,_,h,_=>by simp at h
 | p::P,w::vs,0,m,c,h1,h2,b=>by simp at h1 h2;subst h1;subst h2;show bindL kindOf ((p,w)::P.zip vs) m p=_;unfold bindL;rw [ylx fun v d=>(List.nodup_cons.mp c).1 (of_mem_zip d).1,if_pos b];simp
 | p::P,w::vs,i+1,m,c,h1,h2,b=>by unfold bindL;exact ylz (List.nodup_cons.mp c).2 (by simpa using h1) (by simpa using h2) b
theorem ylA {kindOf:Str->Option NameKind}{x:Str}{v:Value}:∀ {P:List Str}{vs:List Value}{i:Nat}{m:Str->Option Value},P.Nodup->P[i]?=some x->vs[i]?=some v->kindOf x≠some .local ->
  bindC kindOf (P.zip vs) m x=some v
 | [],_,_,_,_,h,_,_=>by simp at h
 | _::_,[],_,_,_,_,h,_=>by simp at h
 | p::P,w::vs,0,m,c,h1,h2,b=>by simp at h1 h2;subst h1;subst h2;show bindC kindOf ((p,w)::P.zip vs) m p=_;unfold bindC;rw [yly fun v d=>(List.nodup_cons.mp c).1 (of_mem_zip d).1,if_neg b];simp
 | p::P,w::vs,i+1,m,c,h1,h2,b=>by unfold bindC;exact ylA (List.nodup_cons.mp c).2 (by simpa using h1) (by simpa using h2) b
noncomputable def start (N:List Str) (vs:List V):St:=vs.map some++replicate (N.length-vs.length) none
noncomputable def yut (CX:CXT) (P:Program) (w:World) (K:Frag) (mg:Str->Option Value) (base:Heap) (N:List Str) (qual:Str) (scope:Scope) (f:Addr) (cd:Value) (A:Around) (outer:List Env) (s:Shared) (H:Hp) (E:XK):Cx where
 prog:=P
 w:=w
 K:=K
 mg:=mg
 base:=base
 A:=A.deeper (envOfC qual scope s.heap.objs.size f cd)
 N:=N
 s₀:=s
 H₀:=H
 env:=envOfC qual scope s.heap.objs.size f cd
 outer:=outer
 stack:=envOfC qual scope s.heap.objs.size f cd::outer
 ex:=[]
 calm:=true
 fn:=fun _=>true
 pn:=[]
 xe:=fun e s'=>wpAny (model P w) (A.deeper (envOfC qual scope s.heap.objs.size f cd)) (leaving (envOfC qual scope s.heap.objs.size f cd) e) (fun _ s''=>CX outer H s E e s'') (fun e' s''=>CX outer H s E e' s'') s'
theorem yoE {b:Scope}(h:b.names.lookup x=some .cell):∃ c,(cellsFrom n b.names []).lookup x=some c:=by have q:=PySem.W.cellsFrom_some b.names n [] (.inl h);exact Option.isSome_iff_exists.mp q
theorem yqZ {CX:CXT}{P:Program}{w:World}{K:Frag}{t:Str->Option Value}{base:Heap}{N ps:List Str}{d:Str}{scope:Scope}{f:Addr}{o:Value}{A:Around}{outer:List Env}{s s1:Shared}{H:Hp}{E:XK}{us:List Value}{vs:List V}
  (S:yez N ps scope) (G:A.handled=none) (g:Env0 P w K t base A outer s H) (hl:vs.length=ps.length) (r:Vals vs us)
  (x:InCallC s s.heap.objs.size (bindL (envOfC d scope s.heap.objs.size f o).kindOf (ps.zip us) fun _=>none) (cellsFrom (s.heap.objs.size+1) scope.names []) (bindC (envOfC d scope s.heap.objs.size f o).kindOf (ps.zip us) fun _=>none) s1) :
  Inv (yut CX P w K t base N d scope f o A outer s H E) [] (start N vs) H s1:=by
 have F:ps.length<=N.length:=by have:=congrArg length S.pre;grind
 obtain ⟨h1,J,rfl,B⟩:=x.done;have j:∀ b:Addr,b∉(yut CX P w K t base N d scope f o A outer s H E).ex:=fun b z=>absurd (show b∈([]:List Addr) from z) (by simp)
 refine ⟨⟨g.mod,S.kind,rfl,rfl,Nat.le_refl _,fun y z c h1 h2=>?_,fun y l=>?_,fun y c _ h=>?_,fun _=>G,Around.frames_deeper g.frames,.inr ⟨rfl,rfl⟩,fun b z=>absurd z (j b),g.bs,g.bsz,fun b _ _=>j b,fun b z=>absurd z (j b),g.funs,g.frf⟩,
  rfl,g.bare,Un.kept B,⟨_,x.toInCall.ns,fun i y v h1 h2 L=>?_⟩,fun y c h=>⟨_,x.cell y c h⟩,g.hok.fresh (Nat.le_refl _),fun y c h=>?_,fun p hp=>absurd (show p∈[] from hp) (by simp),g.hok.kept B,?_⟩
 .exact name_of_addr x.apart (PySem.mem_of_lookup h1) (PySem.mem_of_lookup h2)
 .rcases l with l|l
  .exact yoE l
  .exact absurd rfl (S.nofree _ (PySem.mem_of_lookup l))
 .exact le_of_lt (x.above y c (PySem.mem_of_lookup h))
 .have n:i<vs.length:=by
   unfold start at h2
   by_cases n:i<vs.length
   .exact n
   .rw [getElem?_append_right (by simpa using n)] at h2;rw [getElem?_replicate] at h2;split at h2<;>cases h2
  have I:vs[i]?=some v:=by unfold start at h2;rw [getElem?_append_left (by simpa using n),getElem?_map] at h2;simp_all
  obtain ⟨u,C,D⟩:=r.get I;have hp:ps[i]?=some y:=by rw [<- S.pre,List.getElem?_take_of_lt (by omega)];exact h1
  have m:ps.Nodup:=by rw [<- S.pre];exact S.nd.sublist (List.take_sublist _ _)
  refine ⟨u,D,?_⟩;rcases S.par y (mem_of_getElem? hp) with k|k
  .exact .inl ⟨k,ylz m hp C k⟩
  .obtain ⟨c,e⟩:=yoE k;refine .inr ⟨.inl k,c,e,?_⟩;have q:=x.cell y c e;rw [ylA m hp C (by show scope.names.lookup y≠_;rw [k];decide)] at q;exact q
 .exact g.hok.fresh (le_of_lt (x.above y c (PySem.mem_of_lookup h)))
 .unfold start;show _=N.length;simp_all
theorem yFp {K:Frag}{U kV B T d W oc:Value}
  (lk:K.lookup f=some ⟨oc,od,.func (fnOf name c g body scope U kV B T R d W),G⟩) (M:codeIn K d c=true) (S:yez N ps scope)
  (z:∀ vs H Q E,sp vs H Q E->vs.length=ps.length)
  (j:∀ A outer s H vs Q E,Room k (A.deeper (envOfC c scope s.heap.objs.size f d))->sp vs H Q E ->
   ∃ t,PSs (yut CX P w K D base N c scope f d A outer s H E) body t/\t { nx:=fun _ i=>Q .non i,rt:=Q } (start N vs) H) :
  FnOk P w K D base CX (k+1) f (fnOf name c g body scope U kV B T R d W) ps sp:=by
 refine ⟨z,fun A outer s H args us vs Q E O p Y r C=>?_⟩;have hl:=z _ _ _ _ C;have X:=p.mod.kin.keeps fun b o e=>(p.bs b o e).1
 have L:=p.mod.nolimit.keeps fun b o e=>(p.bs b o e).1
 have l:∀ y∈ps.zip us,scope.names.lookup y.1=some _\/(scope.names.lookup y.1=some _/\((cellsFrom (s.heap.objs.size+1) scope.names []).lookup y.1).isSome=true):=fun ⟨n,v⟩ hy=>by
  rcases S.par n (of_mem_zip hy).1 with q|q
  .exact .inl q
  .exact .inr ⟨q,PySem.W.cellsFrom_some _ _ _ (.inl q)⟩
 refine codeAny_call_function O.depth (X _ _ lk) rfl S.co S.gen rfl (PySem.W.codeRec_of X M) (Y _ _ _ _ ?_);refine wpAny_newFunctionEnv_cells S.kind l fun env he s1 x=>?_
 subst he;refine ⟨L.keeps x.toInCall.keep,codeAny_func ?_⟩;obtain ⟨t,ht,Z⟩:=j A outer s H vs Q E (O.deeper _) C;have I:Inv (yut CX P w K D base N c scope f d A outer s H E) [] _ H s1:=yqZ S O.hd p hl r x;refine wpAny_mono (ht [] s1 _ H _ I Z) (fun fl s' hs=>?_) fun e s' hs=>hs
 have m:∀ {h:St}{i:Hp}{v:V}{u:Value},Inv (yut CX P w K D base N c scope f d A outer s H E) [] h i s'->RelV v u->Q v i->CE outer P w H s Q u s' :=
  fun {h i v u} J F q=>⟨v,i,J.os,J.bare,J.base,J.hok,F,q⟩
 cases fl with
 | ret u =>
  obtain ⟨v,h,i,J,F,q⟩:=hs;exact m J F q
 | next =>
  obtain ⟨h,i,J,q⟩:=hs;exact m (v:=V.non) J rfl q
 | brk =>
  obtain ⟨_,_,_,q⟩:=hs;exact False.elim q
 | cont =>
  obtain ⟨_,_,_,q⟩:=hs;exact False.elim q
section
variable {X:Cx}{x:Str}{p pos:Pos}{e:Expr}{es:List Expr}{t:TA}{id T:String}{r:List V->Hp->VK->Prop}
noncomputable def tCB (r:List V->Hp->VK->Prop) (t:TA):TE:=fun Z H Q=>t Z H fun vs H1=>r vs H1 Q
theorem yjW (q:yfY X (.builtin id) r) (j:Gl X x) (g:X.mg x=none) (f:bootBuiltins x=some (.builtin id)) (l:PA X (e::es) t) (n:x≠"__name__":=by decide) (d:(x == "__debug__")=false:=by decide)
  (k:starEach (e::es) X.env=(false,eval e X.env)::starEach es X.env:=by rfl) (c:(backTo pos (starEach es X.env)).any (·.1)=false:=by rfl):PE X (.Call (.Name x p) (e::es) [] pos) (tCB r t):=by
 intro b s Z H Q I h;refine wpAny_Call_Name_kw (yjn I j g f (PyProof.Rows.callWith_builtin1 (thn (l pos b s Z H _ I h) fun us s1 z=>?_) k c) n d);obtain ⟨vs,o,u,i,m⟩:=z;exact q b s1 Z o vs us Q u i m
theorem ylB (q:yfY X (.type T) r) (j:Gl X x) (g:X.mg x=none) (f:bootBuiltins x=some (.type T)) (l:PA X (e::es) t) (n:x≠"__name__":=by decide) (d:(x == "__debug__")=false:=by decide)
  (k:starEach (e::es) X.env=(false,eval e X.env)::starEach es X.env:=by rfl) (c:(backTo pos (starEach es X.env)).any (·.1)=false:=by rfl):PE X (.Call (.Name x p) (e::es) [] pos) (tCB r t):=by
 intro b s Z H Q I h;refine wpAny_Call_Name_kw (yjn I j g f (PyProof.Rows.callWith_type1 (thn (l pos b s Z H _ I h) fun us s1 z=>?_) k c) n d);obtain ⟨vs,o,u,i,m⟩:=z;exact q b s1 Z o vs us Q u i m
end
end L2
namespace HT
open PySem PyProof.Rows
section
variable {prog:Program}{w:World}{A:Around}{E:Value->Shared->Prop}{s:Shared}
noncomputable def sIx (n d:Nat):Option Int->Nat
 | none=>d
 | some v=>if v<0 then (v+(n:Int)).toNat else min v.toNat n
theorem sIx_nat (n d k:Nat):sIx n d (some (k:Int))=min k n:=by show (if (k:Int)<0 then ((k:Int)+(n:Int)).toNat else min (k:Int).toNat n)=min k n;rw [if_neg (by omega),Int.toNat_natCast]
end
end HT
namespace L2
open PySem PySem.Spec PyProof.Rows
noncomputable abbrev TO:=St->Hp->(Option Int->Hp->Prop)->Prop
def PO (X:Cx) (e:Option Expr) (t:TO):Prop :=
 ∀ (pins:List (Addr×Obj)) (s:Shared) (Z:St) (H:Hp) (Q:Option Int->Hp->Prop),Inv X pins Z H s->t Z H Q ->
  wpAny (model X.prog X.w) X.A (evalPart e X.env) (fun u s'=>∃ o H',Inv X pins Z H' s'/\IsPart u o/\Q o H') X.xe s
def yBU (t:TE):TO:=fun Z H Q=>t Z H fun x H1=>∃ i,x=.int i/\Q (some i) H1
theorem intsAre_of {ns:List Int}:∀ {us:List Value},Vals (ns.map V.int) us->IntsAre us ns:=by
 induction ns with
 | nil=>intro us r;cases r;exact .nil
 | cons n ns ih =>
  intro us r;cases r with
  | cons r1 r2 =>
   obtain ⟨t,e⟩:=r1;subst e;exact .cons n t (ih r2)
section
variable {X:Cx}{e:Expr}{te:TE}{lo hi:Option Expr}{tl th:TO}{pos p2:Pos}
theorem yys (h:PE X e te):PO X (some e) (yBU te):=by
 intro b s Z H Q I f;refine thn (h b s Z H _ I f) fun u s1 z=>?_
 obtain ⟨x,d,g,c,j⟩:=z;obtain ⟨i,rfl,q⟩:=j;obtain ⟨t,rfl⟩:=c;exact ⟨_,d,g,.int i t,q⟩
def SlR (X:Cx) (r:V->Option Int->Option Int->Hp->VK->Prop):Prop :=
 ∀ (pins:List (Addr×Obj)) (s:Shared) (Z:St) (H:Hp) (x:V) (v vl vu:Value) (lo hi:Option Int) (sl:Addr) (Q:VK),Inv X pins Z H s->RelV x v->s.heap.IsSliceOf sl vl vu .none->IsPart vl lo->IsPart vu hi->r x lo hi H Q ->
  ∃ T id,typeLookup (.type T) "__getitem__" = pure (some (.builtin id))/\s.TypeIs v T/\wpAny (model X.prog X.w) X.A (getItem v (.ref sl)) (EP X pins Z Q) X.xe s
noncomputable def tSl (r:V->Option Int->Option Int->Hp->VK->Prop) (te:TE) (tl th:TO):TE:=fun Z H Q=>te Z H fun x H1=>tl Z H1 fun l H2=>th Z H2 fun u H3=>r x l u H3 Q
theorem yuu (j:SlR X r) (z:PE X e te) (hl:PO X lo tl) (p:PO X hi th):PE X (.Subscript e (.Slice lo hi none p2) pos) (tSl r te tl th):=by
 intro c s Z H Q I h;refine Subscript_ (thn (z c s Z H _ I h) fun v s1 z'=>?_);obtain ⟨x,B,n,t,A⟩:=z';refine wpAny_Slice (thn (hl c s1 Z B _ n A) fun f s2 y'=>?_);obtain ⟨l,D,o,pl,w⟩:=y';refine thn (p c s2 Z D _ o w) fun g s3 w'=>?_
 obtain ⟨u,d,i,F,k⟩:=w';refine wpAny_pure ?_;have E:Inv X c Z d { s3 with heap:=s3.heap.push { cls:=.type "slice",data:=.fields #[f,g,.none] } }:=i.kept fun b G q=>Heap.get?_push_of_some _ q
 obtain ⟨T,id,C,m,y⟩:=j c _ Z d x v f g l u s3.heap.objs.size Q E t (Heap.IsSliceOf.new ..) pl F k;exact tail_any m C y (rfl)
def yEM (xs:List V) (lo hi:Option Int):List V:=(xs.drop (HT.sIx xs.length 0 lo)).take (HT.sIx xs.length xs.length hi-HT.sIx xs.length 0 lo)
theorem ynh xs lo hi:(yEM xs lo hi).length<=xs.length:=by unfold yEM;rw [length_take,length_drop];omega
end
noncomputable def ixN (n:Nat) (i:Int):Option Nat:=if 0<=i then (if i<n then some i.toNat else none) else if -(n:Int)<=i then some (i+n).toNat else none
def atI {Y:Type}(xs:List Y) (i:Int):Option Y:=(ixN xs.length i).bind fun j=>xs[j]?
theorem yra (h:ixN n i=some j):seqIndex? i n=some j/\j<n/\-n<=i/\i<n:=by
 unfold ixN at h
 by_cases b:0<=i
 .rw [if_pos b] at h
  by_cases h1:i<n
  .rw [if_pos h1] at h;have e:=Option.some.inj h;exact ⟨by rw [seqIndex_of b h1,e],by omega,by omega,h1⟩
  simp_all
 .rw [if_neg b] at h
  by_cases h1:-n<=i
  .rw [if_pos h1] at h;have e:=Option.some.inj h;exact ⟨by rw [seqIndex_neg (by omega) h1,e],by omega,h1,by omega⟩
  grind
theorem yni {Y:Type}{xs:List Y}{i:Int}{v:Y}(h:atI xs i=some v):∃ j,seqIndex? i xs.length=some j/\xs[j]?=some v/\j<xs.length/\-xs.length<=i/\i<xs.length:=by
 unfold atI at h;cases e:ixN xs.length i with
 | none=>rw [e] at h;cases h
 | some j =>
  rw [e] at h;obtain ⟨h1,h2,b,a⟩:=yra e;exact ⟨j,h1,h,h2,b,a⟩
theorem ycO {Y:Type}{xs:List Y}{j:Nat}{v:Y}(h:xs[j]?=some v):atI xs j=some v:=by
 have b:=(List.getElem?_eq_some_iff.mp h).1;have e:ixN xs.length j=some j:=by unfold ixN;simp_all
 unfold atI;rw [e];exact h
noncomputable def yrb (b:Expr):Prop:=∀ o i,subscripted b false o i=operate [o,i] (getItem o i)
def IxR (X:Cx) (r:R2):Prop :=
 ∀ (value slice:Expr) (pins:List (Addr×Obj)) (s:Shared) (Z:St) (H:Hp) (x y:V) (v u:Value) (Q:VK),Inv X pins Z H s->RelV x v->RelV y u->r x y H Q ->
  subscripted slice false v u=operate [v,u] (getItem v u)->wpAny (model X.prog X.w) X.A (subscriptTail value slice v u) (EP X pins Z Q) X.xe s
def MtR (X:Cx) (id:String) (r:V->List V->Hp->VK->Prop):Prop :=
 ∀ (pins:List (Addr×Obj)) (s:Shared) (Z:St) (H:Hp) (x:V) (xs:List V) (v:Value) (us:List Value) (Q:VK),Inv X pins Z H s->RelV x v->Vals xs us->r x xs H Q ->
  wpAny (model X.prog X.w) X.A (call (.builtin id) (v::us)) (EP X pins Z Q) X.xe s
section
variable {X:Cx}{a b:Expr}{ta tb:TE}{pos:Pos}
theorem yFq (i:IxR X r) (j:PE X a ta) (f:PE X b tb) (hs:yrb b):PE X (.Subscript a b pos) (tOp r ta tb):=by intro d s Z H Q I h;exact Subscript_ (yFk j f I h fun v u s2 x y g e l k q=>i a b d s2 Z g x y v u Q e l k q (hs _ _))
def yHm (K:Frag):R2:=fun x y H Q=>∃ p xs i v,x=.ref p/\y=.int i/\SqL K H p xs/\atI xs i=some v/\Q v H
def yHn (K:Frag):R2:=fun x y H Q=>∃ p xs i v,x=.ref p/\y=.int i/\SqT K H p xs/\atI xs i=some v/\Q v H
def yHo:R2:=fun x y H Q=>∃ z i c,x=.str z/\y=.int i/\z.length<=sizeLine/\atI z.cps.toList i=some c/\Q (.str ⟨#[c]⟩) H
theorem ybu:IxR X (yHm X.K):=by
 intro value slice e s Z H x y v u Q I B C h hs;obtain ⟨p,xs,i,z,rfl,rfl,m,A,q⟩:=h;cases B;obtain ⟨t,rfl⟩:=C;obtain ⟨its,r,pl,hz⟩:=I.list m;obtain ⟨j,h1,h2,D,o,n⟩:=yni A;obtain ⟨w,l,g⟩:=r.get h2;have hl:=r.length;have E:=yjo;have d:EP X e Z Q w s:=⟨z,H,I,g,q⟩
 by_cases k:0<=i
 .have f:=by rw [seqIndex_of k n] at h1;exact Option.some.inj h1
  exact item_listR pl.isList k (by omega) (by rw [f];simpa using l) d hs
 .have f:(i+its.toArray.size).toNat=j:=by rw [seqIndex_neg (by omega) o] at h1;rw [size_toArray,<- hl];exact Option.some.inj h1
  exact subscriptTail_builtinR pl.isList.typeIs slot_list_getitem.lookup
   (wpAny_getItem_list_neg pl.isList (by omega) (by simp_all) (by omega) (by rw [f];simpa using l) ⟨rfl,d⟩) hs
theorem yM:IxR X (yHn X.K):=by
 intro value slice d s Z H x y v u Q I m g h hs;obtain ⟨p,xs,i,z,rfl,rfl,k,l,q⟩:=h;cases m;obtain ⟨t,rfl⟩:=g;obtain ⟨its,r,pl,hz⟩:=I.tuple k;obtain ⟨j,h1,h2,A,o,C⟩:=yni l;obtain ⟨w,n,f⟩:=r.get h2;have hl:=r.length;have B:=yjo;have e:EP X d Z Q w s:=⟨z,H,I,f,q⟩
 exact subscriptTail_builtinR pl.typeIs slot_tuple_getitem.lookup
  (getItem_tuple (j:=j) pl (by omega) (by omega) (by simp_all) (by simpa using n) ⟨rfl,e⟩) hs
theorem ylC:IxR X yHo:=by intro value slice e s Z H x y v u Q I l m h hs;obtain ⟨z,i,c,rfl,rfl,hz,g,q⟩:=h;obtain ⟨t,rfl⟩:=l;obtain ⟨t',rfl⟩:=m;obtain ⟨j,h1,h2,o,k,f⟩:=yni g;have hl:z.cps.toList.length=z.length:=rfl;rw [hl] at h1 k f;have n:=yjo;exact tail_any (typeIs_str s z t) slot_str_getitem.lookup (getItem_str (by grind) (by simp_all) ⟨.str _,H,I.tok _,⟨_,rfl⟩,q⟩) hs
theorem ypP (its:List Value) n j u:Obj.mapSeq (·.setIfInBounds j u) { cls:=.type "list",data:=.seq its.toArray n }={ cls:=.type "list",data:=.seq (its.set j u).toArray n }:=by simp [Obj.mapSeq]
theorem Inv.lst {d:List _}{Z:St}{H:Hp}{s:Shared}{p:Addr}{xs:List V}(I:Inv X d Z H s) (h:H p=some (.lst xs)) :
  ∃ (its:List Value) (n:Nat),Vals xs its/\s.heap.get? p=some { cls:=.type "list",data:=.seq its.toArray n }/\xs.length<=sizeLine:=by
 obtain ⟨z,its,n,r,e⟩:=I.hok p _ h;grind
theorem Inv.lstUpd {d:List _}{Z:St}{H:Hp}{s:Shared}{p:Addr}{xs ys:List V}{its its':List Value}{n g:Nat}{f:Obj->Obj}(I:Inv X d Z H s) (h:H p=some (.lst xs))
  (j:s.heap.get? p=some { cls:=.type "list",data:=.seq its.toArray n }) (i:f { cls:=.type "list",data:=.seq its.toArray n }={ cls:=.type "list",data:=.seq its'.toArray g }) (r:Vals ys its') (hz:ys.length<=sizeLine) t :
  Inv X d Z (upd H p (.lst ys)) { s with heap:=s.heap.update p f,toks:=t }:=by
 have e:(s.heap.update p f).get? p=some { cls:=.type "list",data:=.seq its'.toArray g }:=by rw [Heap.get?_update_self f j (by rw [i]<;>rfl),i]
 refine I.write (by rw [h];trivial) (.inl rfl) (fun b u k q=>(Heap.get?_update_other _ _ (Ne.symm k)).trans q) ⟨_,e⟩ ?_;exact ⟨hz,its',g,r,e⟩
def yBV:V->V->V->Hp->(Hp->Prop)->Prop:=fun o i v H Q=>∃ p xs k j,o=.ref p/\i=.int k/\H p=some (.lst xs)/\ixN xs.length k=some j/\Q (upd H p (.lst (xs.set j v)))
theorem set_list:yHf X yBV:=by
 intro g s Z H o i v C B u Q I m x A h;obtain ⟨p,xs,k,j,rfl,rfl,hp,z,q⟩:=h;cases m;obtain ⟨t,rfl⟩:=x;obtain ⟨its,n,r,e,hz⟩:=I.lst hp;obtain ⟨h1,h2,y,w⟩:=yra z;have hl:=r.length;have D:=yjo;have l :=
  I.lstUpd hp e (ypP its n j u) (r.set A j) (by rw [length_set];exact hz) s.toks
 by_cases f:0<=k
 .have d:=by rw [seqIndex_of f w] at h1;exact Option.some.inj h1
  exact PySem.W.ki_setAt e f (by omega) (by simp_all) (by rw [d];exact ⟨_,l,q⟩)
 .have d:(k+its.toArray.size).toNat=j:=by rw [seqIndex_neg (by omega) y] at h1;rw [size_toArray,<- hl];exact Option.some.inj h1
  exact PySem.W.ki_setBack e (by omega) (by simp_all) (by omega) (by rw [d];exact ⟨_,l,q⟩)
theorem ylD (lo hi:Option Int) (n:Nat):(sliceBounds lo hi none n).1=((HT.sIx n 0 lo:Nat):Int)/\(sliceBounds lo hi none n).2.1=((HT.sIx n n hi:Nat):Int)/\(sliceBounds lo hi none n).2.2=1:=by
 refine ⟨?_,?_,rfl⟩
 .cases lo with
  | none=>simp [sliceBounds,HT.sIx]
  | some i =>
   simp only [sliceBounds,HT.sIx,Option.getD_none,show (1:Int)>0 by decide,if_true]
   by_cases h:i<0
   .simp only [h,if_true]<;>omega
   .simp only [h,if_false]<;>omega
 .cases hi with
  | none=>simp [sliceBounds,HT.sIx]
  | some i =>
   simp only [sliceBounds,HT.sIx,Option.getD_none,show (1:Int)>0 by decide,if_true]
   by_cases h:i<0
   .simp only [h,if_true]<;>omega
   .simp only [h,if_false]<;>omega
theorem yjX (its:List Value) (lo hi:Option Int):slicePick its.toArray lo hi none=((its.drop (HT.sIx its.length 0 lo)).take (HT.sIx its.length its.length hi-HT.sIx its.length 0 lo)).toArray:=by obtain ⟨h1,h2,h3⟩:=ylD lo hi its.toArray.size;unfold slicePick;rw [h1,h2,h3];simp only [sliceRange_one,pick_run,size_toArray]<;>rfl
def yHp (K:Frag):V->Option Int->Option Int->Hp->VK->Prop:=fun x lo hi H Q=>∃ a xs,x=.ref a/\SqL K H a xs/\∀ p,H p=none->Q (.ref p) (upd H p (.lst (yEM xs lo hi)))
theorem ynj:SlR X (yHp X.K):=by intro f s Z H x v n m lo k sl Q I i hs pl g h;obtain ⟨a,xs,rfl,j,q⟩:=h;cases i;obtain ⟨its,r,e,hz⟩:=I.list j;have d:=r.length;refine ⟨_,_,slot_list_getitem.lookup,e.isList.typeIs,?_⟩;refine wpAny_getItem_list_slice e.isList hs pl g .none (by simp) ?_;rw [yjX,<- d];refine ⟨.ref s.heap.objs.size,_,I.laid (fun b l q=>Heap.get?_push_of_some _ q) (Nat.le_refl _) ?_,rfl,q _ (I.hok.fresh (Nat.le_refl _))⟩;exact ⟨Nat.le_trans (ynh xs lo k) hz,_,0,(r.drop _).take _,Heap.get?_push_size _ rfl⟩
noncomputable def ygu:V->Bool
 | .non=>true
 | .bl _=>true
 | .int _=>true
 | .str _=>true
 | _=>false
noncomputable def eqV:V->V->Bool
 | .non,.non=>true
 | .bl a,.bl b=>a == b
 | .bl a,.int b=>(if a then 1 else 0) == b
 | .int a,.bl b=>a == (if b then 1 else 0)
 | .int a,.int b=>a == b
 | .str a,.str b=>a == b
 | _,_=>false
theorem eqAt_V (f:RelV y u) (d:RelV x v) (g:ygu y=true) (e:ygu x=true):SeqAt.EqAt A s u v (eqV y x):=by
 cases y with
 | non =>
  cases f;cases x with
  | non=>cases d;exact SeqAt.EqAt.same _
  | bl b=>cases d;exact SeqAt.EqAt.none_bool b
  | int b=>obtain ⟨t,rfl⟩:=d;exact SeqAt.EqAt.none_int b t
  | str b=>obtain ⟨t,rfl⟩:=d;exact SeqAt.EqAt.none_str b t
  | _=>exact absurd (show false=true from e) Bool.false_ne_true
 | bl a =>
  cases f;cases x with
  | non=>cases d;exact SeqAt.EqAt.bool_none a
  | bl b=>cases d;exact SeqAt.EqAt.bool_bool a b
  | int b=>obtain ⟨t,rfl⟩:=d;exact SeqAt.EqAt.bool_int a b t
  | str b=>obtain ⟨t,rfl⟩:=d;exact SeqAt.EqAt.bool_str a b t
  | _=>exact absurd (show false=true from e) Bool.false_ne_true
 | int a =>
  obtain ⟨t',rfl⟩:=f;cases x with
  | non=>cases d;exact SeqAt.EqAt.int_none a t'
  | bl b=>cases d;exact SeqAt.EqAt.int_bool a t' b
  | int b=>obtain ⟨t,rfl⟩:=d;exact SeqAt.EqAt.int_int a t' b t
  | str b=>obtain ⟨t,rfl⟩:=d;exact SeqAt.EqAt.int_str a t' b t
  | _=>exact absurd (show false=true from e) Bool.false_ne_true
 | str a =>
  obtain ⟨t',rfl⟩:=f;cases x with
  | non=>cases d;exact SeqAt.EqAt.str_none a t'
  | bl b=>cases d;exact SeqAt.EqAt.str_bool a t' b
  | int b=>obtain ⟨t,rfl⟩:=d;exact SeqAt.EqAt.str_int a t' b t
  | str b=>obtain ⟨t,rfl⟩:=d;exact SeqAt.EqAt.str_str a t' b t
  | _=>exact absurd (show false=true from e) Bool.false_ne_true
 | _=>exact absurd (show false=true from g) Bool.false_ne_true
def eqU (x:V) (u:Value):Bool:=match u with
 | .none=>eqV .non x
 | .bool b=>eqV (.bl b) x
 | .int i _=>eqV (.int i) x
 | .str z _=>eqV (.str z) x
 | _=>false
theorem ywS (r:RelV y u) (f:ygu y=true):eqU x u=eqV y x:=by
 cases y with
 | non=>cases r;rfl
 | bl b=>cases r;rfl
 | int i=>obtain ⟨t,rfl⟩:=r;rfl
 | str z=>obtain ⟨t,rfl⟩:=r;rfl
 | _=>exact absurd (f) Bool.false_ne_true
theorem ynk:∀ {xs:List V}{us:List Value},Vals xs us->xs.all ygu=true->us.any (eqU x)=xs.any fun y=>eqV y x
 | _,_,.nil,_=>rfl
 | y::xs,u::us,.cons r t,f=>by rw [List.all_cons,and_eq_true] at f;rw [any_cons,any_cons,ywS r f.1,ynk t f.2]
theorem yjY {A:Around}{s:Shared}{x:V}{v:Value}(e:RelV x v) (g:ygu x=true):∀ {xs:List V}{us:List Value},Vals xs us->xs.all ygu=true->∀ u∈us,SeqAt.EqAt A s u v (eqU x u)
 | _,_,.nil,_=>fun u d=>by cases d
 | y::xs,u::us,.cons r t,f=>fun h d=>by
  rw [List.all_cons,and_eq_true] at f;rcases mem_cons.mp d with rfl|d
  .rw [ywS r f.1];exact eqAt_V r e f.1 g
  .exact yjY e g t f.2 h d
def inV (x:V) (xs:List V):Bool:=xs.any fun y=>eqV y x
def rIn (K:Frag) (neg:Bool):R2:=fun x y H Q=>∃ p xs,y=.ref p/\(SqL K H p xs\/SqT K H p xs)/\ygu x=true/\xs.all ygu=true/\Q (.bl (if neg then !inV x xs else inV x xs)) H
theorem yrc:OpR X (compareOp .In) (rIn X.K false):=by
 intro f s Z H x y v u Q I g j h;obtain ⟨p,xs,rfl,d,i,fs,q⟩:=h;cases j;rcases d with d|d
 .obtain ⟨its,r,pl,hz⟩:=I.list d;refine SeqAt.in_listAt _ pl.isList (fun w e=>yjY g i r fs w (by simpa using e)) ⟨.bl _,H,I,rfl,?_⟩;rw [show its.toArray.any _=its.any (eqU x) by simp,ynk r fs];exact q
 .obtain ⟨its,r,pl,hz⟩:=I.tuple d;refine SeqAt.in_tupleAt _ pl (fun w e=>yjY g i r fs w (by simpa using e)) ⟨.bl _,H,I,rfl,?_⟩;rw [show its.toArray.any _=its.any (eqU x) by simp,ynk r fs];exact q
theorem yN:yfY X (.builtin "len") fun xs H Q=>∃ p ys,xs=[.ref p]/\(SqL X.K H p ys\/SqT X.K H p ys)/\Q (.int ys.length) H:=by
 intro g s Z H xs us Q I r h;obtain ⟨p,ys,rfl,e,q⟩:=h;obtain ⟨u,rfl,i⟩:=vals1 r;cases i;have j:=yjo;rcases e with e|e
 .obtain ⟨its,f,pl,hz⟩:=I.list e;have d:=f.length;exact Calls.call_len_list pl.isList (by grind) ⟨.int ys.length,H,I.tok _,⟨s.toks+1,by grind⟩,q⟩
 .obtain ⟨its,f,pl,hz⟩:=I.tuple e;have d:=f.length;exact len_tuple pl (by grind) ⟨.int ys.length,H,I.tok _,⟨s.toks+1,by grind⟩,q⟩
theorem ydS:yfY X (.builtin "len") fun xs H Q=>∃ z,xs=[.str z]/\z.length<=sizeLine/\Q (.int z.length) H:=by intro d s Z H xs us Q I r h;obtain ⟨z,rfl,hz,q⟩:=h;obtain ⟨u,rfl,t,rfl⟩:=vals1 r;have e:=yjo;exact len_str (by omega) ⟨.int z.length,H,I.tok _,⟨_,rfl⟩,q⟩
theorem yH:yfY X (.type "list") fun xs H Q=>∃ p ys,xs=[.ref p]/\(SqL X.K H p ys\/SqT X.K H p ys)/\∀ l,H l=none->Q (.ref l) (upd H l (.lst ys)):=by
 intro j s Z H xs us Q I r h;obtain ⟨p,ys,rfl,f,q⟩:=h;obtain ⟨u,rfl,x⟩:=vals1 r;cases x;have i:∀ its,Vals ys its->ys.length<=sizeLine->∀ (h':Heap) c',(∀ b w,s.heap.get? b=some w->h'.get? b=some w) ->
   h'.get? s.heap.objs.size=some _->EP X j Z Q _ _:=fun its d hz h' c' k e =>
  ⟨.ref s.heap.objs.size,_,I.laid (t':=s.toks) k (Nat.le_refl _) (show ObjOk X.prog X.w _ h' _ (.lst ys) from ⟨hz,its,c',d,e⟩),rfl,q _ (I.hok.fresh (Nat.le_refl _))⟩
 rcases f with f|f
 .obtain ⟨its,d,pl,hz⟩:=I.list f;have g:=d.length;obtain ⟨o,t,v,n,m⟩:=pl.isList;exact call_list_seq p (.inl rfl) t v m fun h' c' k e=>i its d hz h' c' k e
 .obtain ⟨its,d,pl,hz⟩:=I.tuple f;have g:=d.length;obtain ⟨o,t,v,n,m⟩:=pl;exact call_list_seq p (.inr rfl) t v m fun h' c' k e=>i its d hz h' c' k e
def tyV (K:Frag) (T:String) (x:V) (H:Hp):Prop:=match x with
 | .str _=>T = "str"
 | .int _=>T = "int"
 | .ref p=>(T = "list"/\∃ xs,SqL K H p xs)\/(T = "tuple"/\∃ o,K.lookup p=some o/\o.cls=.type "tuple"/\o.dict=none) \/
   (T = "dict"/\((∃ kvs,H p=some (.dK kvs))\/∃ kvs,H p=some (.dT kvs)))\/(T = "set"/\∃ S n,H p=some (.set S n))
 | _=>False
theorem ywT {g:List _}{Z:St}{H:Hp}{s:Shared}{T:String}{x:V}{v:Value}(I:Inv X g Z H s) (r:RelV x v) (h:tyV X.K T x H) :
  s.TypeIs v T/\∀ a,v=.ref a->∃ l,s.heap.get? a=some l/\l.dict=none:=by
 cases x with
 | str z =>
  obtain ⟨t,rfl⟩:=r;cases show T = "str" from h
  exact ⟨typeIs_str s z t,fun _ e=>nomatch e⟩
 | int i =>
  obtain ⟨t,rfl⟩:=r;cases show T = "int" from h
  exact ⟨typeIs_int s i t,fun _ e=>nomatch e⟩
 | ref p =>
  cases r;rcases h with ⟨rfl,xs,q⟩|⟨rfl,o,d,m,k⟩|⟨rfl,d⟩|⟨rfl,S,n,d⟩
  .obtain ⟨its,_,pl,_⟩:=I.list q;refine ⟨pl.isList.typeIs,fun a e=>?_⟩;cases e;obtain ⟨o,n,e,c,k,_⟩:=pl;exact ⟨o,e,k⟩
  .refine ⟨⟨o,I.kIn p o d,m⟩,fun a e=>?_⟩;cases e;exact ⟨o,I.kIn _ o d,k⟩
  .have z:∃ o,s.heap.get? p=some o/\o.ExactDict:=by
    rcases d with ⟨kvs,d⟩|⟨kvs,d⟩
    .obtain ⟨_,_,_,_,o,_,_,e,f,_⟩:=I.hok p _ d;exact ⟨o,e,f⟩
    .obtain ⟨_,_,_,_,o,_,_,e,f,_⟩:=I.hok p _ d;exact ⟨o,e,f⟩
   obtain ⟨o,e,f⟩:=z;refine ⟨⟨o,e,f.1⟩,fun a j=>?_⟩;cases j;exact ⟨o,e,f.2.1⟩
  .obtain ⟨o,_,_,_,e,f,_⟩:=I.hok p _ d;refine ⟨⟨o,e,f.1⟩,fun a j=>?_⟩;cases j;exact ⟨o,e,f.2.1⟩
 | _=>exact False.elim h
def yFr (K:Frag) (T:String) (r:V->List V->Hp->VK->Prop) (to:TE):TE:=fun Z H Q=>to Z H fun x H1=>tyV K T x H1/\r x [] H1 Q
def tBM (K:Frag) (T:String) (r:V->List V->Hp->VK->Prop) (to:TE) (t:TA):TE:=fun Z H Q=>to Z H fun x H1=>tyV K T x H1/\t Z H1 fun xs H2=>r x xs H2 Q
variable {o e:Expr}{es:List Expr}{to:TE}{t:TA}{name:Str}{apos cpos:Pos}{T id:String}{r:V->List V->Hp->VK->Prop}
theorem ywU (p:PlainAttrs T) (i:Slot T name id) (j:typeOf (.builtin id)=pure (.type "method_descriptor")) (m:MtR X id r) (w:PE X o to)
  (g:attributeBase o name X.env (eval o X.env)=eval o X.env:=by rfl) (f:(apos.endLine == cpos.line)=true:=by rfl):PE X (.Call (.Attribute o name apos) [] [] cpos) (yFr X.K T r to):=by
 intro d s Z H Q I h;refine wpAny_Call_method0_late g f (thn (w d s Z H _ I h) fun v s1 z=>?_);obtain ⟨x,u,l,k,n,q⟩:=z;obtain ⟨h1,h2⟩:=ywT l k n;exact ⟨T,id,p,i,j,h1,h2,Calls.callWith_builtin rfl (PySem.evalArgs_none (m d s1 Z u x [] v [] Q l k .nil q))⟩
theorem yyt (y:PlainAttrs T) (j:Slot T name id) (l:typeOf (.builtin id)=pure (.type "method_descriptor")) (A:MtR X id r) (D:PE X o to) (z:PA X (e::es) t)
  (i:attributeBase o name X.env (eval o X.env)=eval o X.env:=by rfl)
  (k:((backTo cpos (starEach (e::es) X.env)).all (fun x=>!x.1) && (backToKw cpos (keywordEach [] X.env)).all (fun x=>x.1.isSome)
   && decide ((e::es).length+([]:List Keyword).length+(if ([]:List Keyword).isEmpty then 0 else 1)<30))=true:=by rfl)
  (g:(apos.endLine == cpos.line)=true:=by rfl) (hs:starEach (e::es) X.env=(false,eval e X.env)::starEach es X.env:=by rfl) (f:(backTo cpos (starEach es X.env)).any (·.1)=false:=by rfl) :
  PE X (.Call (.Attribute o name apos) (e::es) [] cpos) (tBM X.K T r to t):=by
 intro d s Z H Q I h;refine wpAny_Call_method_late i k g rfl (thn (D d s Z H _ I h) fun v s1 z'=>?_);obtain ⟨x,C,m,p,u,B⟩:=z';obtain ⟨h1,h2⟩:=ywT m p u;refine ⟨T,id,y,j,l,h1,h2,?_⟩;have n:=z cpos d s1 Z C _ m B;rw [hs] at n ⊢;refine Calls.callWith_builtin (by show (false || (backTo cpos _).any _)=false;rw [f]<;>rfl) (Calls.evalArgs_plain ?_);refine thn n fun us s2 y'=>?_
 obtain ⟨vs,E,w,r2,q⟩:=y';exact A d s2 Z E x vs v us Q w p r2 q
end
def MtM (X:Cx) (id:String) (r:V->List V->Hp->VK->Prop):Prop :=
 ∀ (pins:List (Addr×Obj)) (s:Shared) (Z:St) (H:Hp) (x:V) (xs:List V) (v:Value) (us:List Value) (Q:VK),Inv X pins Z H s->RelV x v->Vals xs us->r x xs H Q ->
  wpAny (model X.prog X.w) X.A (call (.builtin id) (v::us)) (EP X pins Z Q) X.xe s
theorem Vals.one:∀ {x:V}{us:List Value},Vals [x] us->∃ u,us=[u]/\RelV x u
 | _,_,.cons r .nil=>⟨_,rfl,r⟩
theorem Vals.zero:∀ {us:List Value},Vals [] us->us=[]
 | _,.nil=>rfl
theorem Vals.dropLast (h:Vals xs us):Vals xs.dropLast us.dropLast:=by
 induction h with
 | nil=>exact .nil
 | cons r t ih =>
  cases t with
  | nil=>exact .nil
  | cons q t'=>exact .cons r ih
theorem Vals.rep (h:Vals xs us):∀ k,Vals (replicate k xs).flatten (replicate k us).flatten
 | 0=>.nil
 | k+1=>by exact Vals.append h (Vals.rep h k)
theorem foldl_rep its:∀ k (b:List Value),
  List.foldl (fun x1 x2=>x1++x2) b.toArray (replicate k its.toArray)=(b++(replicate k its).flatten).toArray
 | 0,b=>by simp
 | k+1,b=>by
  have e:b.toArray++its.toArray=(b++its).toArray:=by simp
  have c:b++its++(replicate k its).flatten=b++(replicate (k+1) its).flatten:=by grind
  rw [<- c,<- foldl_rep its k _,<- e,List.replicate_succ,List.foldl_cons]
section
variable {X:Cx}{pins:List (Addr×Obj)}{Z:St}{H:Hp}{s:Shared}{l b:Addr}{xs ys zs:List V}
theorem Inv.lset {its its':List Value}(I:Inv X pins Z H s) (d:H l=some (.lst xs))
  (e:s.heap.get? l=some { cls:=.type "list",data:=.seq its.toArray n }) (h:f its.toArray=its'.toArray) (c:Vals ys its') (hz:ys.length<=sizeLine) :
  Inv X pins Z (upd H l (.lst ys)) { s with heap:=s.heap.update l (Obj.mapSeq f),toks:=t' }:=by
 have q:=PySem.IsL.update e f;rw [h] at q;refine I.write (by rw [d];exact trivial) (.inl rfl) (fun i u g a=>(Heap.get?_update_other s.heap _ (Ne.symm g)).trans a) ⟨_,q⟩ ?_;exact ⟨hz,its',_,c,q⟩
theorem Inv.lnew (I:Inv X pins Z H s) (a:Vals ys its) (hz:ys.length<=sizeLine) :
  Inv X pins Z (upd H s.heap.objs.size (.lst ys)) { s with heap:=s.heap.push { cls:=.type "list",data:=.seq its.toArray },toks:=t' } :=
 I.laid (fun _ _ q=>Heap.get?_push_of_some _ q) (Nat.le_refl _) ⟨hz,its,0,a,Heap.get?_push_size _ rfl⟩
theorem Inv.fresh (I:Inv X pins Z H s):H s.heap.objs.size=none:=I.hok.fresh (Nat.le_refl _)
theorem Inv.lstM (I:Inv X pins Z H s) (a:H l=some (.lst xs)):xs.length<=sizeLine/\∃ (its:List Value) (n:Nat),Vals xs its/\xs.length=its.length/\s.heap.get? l=some { cls:=.type "list",data:=.seq its.toArray n }:=by obtain ⟨z,its,n,r,e⟩:=I.hok l _ a;exact ⟨z,its,n,r,r.length,e⟩
theorem yoF (h:n<=sizeLine):Builtin.List.listTooLong n=false:=by exact decide_eq_false (by omega)
end
section
variable {X:Cx}
def ynl:V->List V->Hp->VK->Prop:=fun x vs H Q=>∃ l xs y,x=.ref l/\vs=[y]/\H l=some (.lst xs)/\xs.length<sizeLine/\Q .non (upd H l (.lst (xs++[y])))
theorem yfb:MtM X "list.append" ynl:=by intro c s Z H x vs v us Q I f g h;obtain ⟨l,xs,y,rfl,rfl,b,hz,q⟩:=h;cases f;obtain ⟨u,rfl,d⟩:=g.one;obtain ⟨z,its,n,r,hl,e⟩:=I.lstM b;refine call_meets F.slot_list_append ⟨_,e,rfl⟩ F.entry_list_append (F.args_list_append_2 _ _) (PySem.list_append l its.toArray n u (by simp_all)) ⟨e,?_⟩;refine ⟨.non,_,I.lset b e (by simp) (r.append (.cons d .nil)) ?_,rfl,q⟩;grind
def yrd:V->List V->Hp->VK->Prop:=fun x vs H Q=>∃ l b xs zs,x=.ref l/\vs=[.ref b]/\H l=some (.lst xs)/\H b=some (.lst zs)/\xs.length+zs.length<=sizeLine/\Q .non (upd H l (.lst (xs++zs)))
theorem yre:MtM X "list.extend" yrd:=by
 intro f s Z H x vs v us Q I k t h;obtain ⟨l,b,xs,w,rfl,rfl,g,i,hz,q⟩:=h;cases k;obtain ⟨u,rfl,j⟩:=t.one;cases j;obtain ⟨z,its,n,r,hl,e⟩:=I.lstM g;obtain ⟨y,c,o,r2,m,p⟩:=I.lstM i;have hsz:its.toArray.size+c.toArray.size<=sizeLine:=by simp_all
 have d:¬ (!its.toArray.isEmpty && Builtin.List.listTooLong (its.toArray.size+c.toArray.size))=true:=by rw [yoF hsz,Bool.and_false];exact Bool.false_ne_true
 refine call_meets F.slot_list_extend ⟨_,e,rfl⟩ F.entry_list_extend (F.args_list_extend_2 _ _)
  (AutoSeq1.list_extend_list_list_0 l its.toArray n b c.toArray o d (by grind)) ⟨e,p,?_⟩
 refine ⟨.non,_,I.lset g e (by simp) (r.append r2) ?_,rfl,q⟩;simp_all
def yHq:V->List V->Hp->VK->Prop:=fun x vs H Q=>∃ l xs y,x=.ref l/\vs=[]/\H l=some (.lst xs)/\xs[xs.length-1]?=some y/\Q y (upd H l (.lst xs.dropLast))
theorem yoG:MtM X "list.pop" yHq:=by
 intro f s Z H x vs v us Q I i j h;obtain ⟨l,xs,y,rfl,rfl,d,g,q⟩:=h;cases i;have b:=j.zero;subst b;obtain ⟨z,its,n,r,hl,e⟩:=I.lstM d;obtain ⟨u,m,k⟩:=r.get g;have c:its.toArray[its.toArray.size-1]?=some u:=by simp_all
 refine call_meets F.slot_list_pop ⟨_,e,rfl⟩ F.entry_list_pop (F.args_list_pop_1 _) (MeetsSeq.list_pop_last l its.toArray n u c) ⟨e,?_⟩;refine ⟨y,_,I.lset d e ?_ r.dropLast ?_,k,q⟩
 .simp_all
 .rw [List.length_dropLast];omega
def yHr:R2:=fun x y H Q=>∃ l b xs zs,x=.ref l/\y=.ref b/\H l=some (.lst xs)/\H b=some (.lst zs)/\xs.length+zs.length<=sizeLine/\∀ p,H p=none->Q (.ref p) (upd H p (.lst (xs++zs)))
theorem yoH:OpR X (binaryOp .Add) yHr:=by
 intro d s Z H x y v u Q I o m h;obtain ⟨l,b,xs,t,rfl,rfl,k,g,hz,q⟩:=h;cases o;cases m;obtain ⟨z,its,n,r,hl,e⟩:=I.lstM k;obtain ⟨p,c,w,r2,i,j⟩:=I.lstM g;refine PySem.P.add_list e j ?_ (by simp_all);have f:its.toArray++c.toArray=(its++c).toArray:=by simp
 rw [f];exact ⟨.ref _,_,I.lnew (r.append r2) (by rw [length_append];omega),rfl,q _ I.fresh⟩
def yHs:R2:=fun x y H Q=>∃ l k xs,x=.ref l/\y=.int k/\H l=some (.lst xs)/\-(2 ^ 63)<=k/\k<2 ^ 63/\xs.length*k.toNat<=sizeLine /\
 ∀ p,H p=none->Q (.ref p) (upd H p (.lst (replicate k.toNat xs).flatten))
theorem len_rep {Y:Type}(xs:List Y) k:(replicate k xs).flatten.length=k*xs.length:=by simp_all
theorem ywV:OpR X (binaryOp .Mult) yHs:=by
 intro j s Z H x y v u Q I w p h;obtain ⟨l,k,xs,rfl,rfl,o,h1,h2,hz,q⟩:=h;cases w;obtain ⟨t,rfl⟩:=p;obtain ⟨z,its,n,r,hl,e⟩:=I.lstM o;have f:its.toArray.size*k.toNat<=sizeLine:=by simp_all
 have d:¬ its.toArray.size*k.toNat>(2 ^ 63-1)/8:=by
  have:sizeLine<=(2 ^ 63-1)/8:=by decide
  omega
 have g:¬ (!Builtin.List.listFitsIndex k)=true:=by rw [fitsIndex_both h1 h2];exact Bool.false_ne_true
 have c:¬ Builtin.List.listTooLong (its.toArray.size*k.toNat)=true:=by rw [yoF f];exact Bool.false_ne_true
 have i:List.foldl (fun x1 x2=>x1++x2) #[] (replicate (if its.toArray.isEmpty=true then 0 else k.toNat) its.toArray)=(replicate k.toNat its).flatten.toArray:=by
  have f0:=fun m=>by have:=foldl_rep its m [];rw [List.nil_append] at this;exact this
  cases its with
  | nil=>simp
  | cons a r'=>grind
 refine wpAny_binaryOp_repeat_ref (rfl) ⟨_,e,rfl⟩ (fun s'=>typeIs_int s' k t) noFill_list_mul F.fills_int_mul F.slot_int_rmul repeat_list F.slot_int_index.lookup
  (call_meets F.slot_int_rmul (typeIs_int s k t) F.entry_int_rmul (F.args_int_rmul_2 _ _) (int___rmul___int_list k t l its.toArray n)
   ⟨e,rfl,⟨_,e,rfl⟩,call_meets F.slot_list_mul ⟨_,e,rfl⟩ F.entry_list_mul (F.args_list_mul_2 _ _) (AutoListH.list___mul___list_int_3 l its.toArray n k t g d c) ⟨e,?_⟩⟩)
 rw [i];exact ⟨.ref _,_,I.lnew (r.rep k.toNat) (by rw [len_rep,Nat.mul_comm];exact hz),rfl,q _ I.fresh⟩
end
end L2
namespace Att
open PySem PySem.W PySem.Calls PyProof.Rows
theorem yhV:∀ ns vs,WellAll P h vs (ns.map WData.int)->IntsAre vs ns:=by
 intro ns
 induction ns with
 | nil =>
  intro vs w;cases w;exact .nil
 | cons n ns ih =>
  intro vs w;cases w with
  | cons a b =>
   cases a;exact .cons _ _ (ih _ b)
theorem yrf {l:OpenLaw}(m:l.most=some n) 
  (e:l.row.toRowW.claim.pre args=true) (j:WellAll P h c args) :
  ∃ a vs ns,c=[Value.ref a]/\args=[WData.list (ns.map WData.int)]/\h.get? a=some { cls:=.type "list",data:=.seq vs.toArray }/\IntsAre vs ns/\ns.length<=n:=by
 have i:=(pre_splitW e).1;have o:l.pre.holds [] _=true:=(pre_splitW e).2;obtain ⟨d,r,rfl,h1,h2⟩:=hasAllW_cons i;obtain rfl:=hasAllW_nil h2;obtain ⟨xs,rfl,k⟩:=hasW_list h1;obtain ⟨ns,rfl⟩:=items_int k;have f:ns.length<=n:=by
  have g:=by have g:=(holds_andW o).1;rw [m] at g;exact g
  have p:=condW_of g (w_not (w_lt w_lit (w_len_list (w_arg rfl))));grind
 cases j with
 | cons w1 w2 =>
  cases w2;cases w1 with
  | list ho hall=>exact ⟨_,_,ns,rfl,rfl,ho,yhV ns _ hall,f⟩
theorem yrg (l:OpenLaw) args:l.row.toRowW.claim.post args (.bool true) args=true :=
 postW_of
  (by first|rfl|decide|simp [WShape.has,WShape.arms,WShape.armsAll])
  (w_eq_bool (w_res rfl) w_lit) rfl
theorem attach_call {l:OpenLaw}{d:DefRec}
  (L:l.most=some n) (v:d.params.defaults=[])
  (call:∀ w g c t u j o y s h a vs ns,
   Ground q e [] D w g t u c.heap->F w c.heap ->
   c.heap.get? j=some o->o.data=.func (docDef d.name d.params d.body d.scope y s h)->c.heap.CodeRec s d.name->t d.name=some (.ref j) ->
   c.heap.get? a=some { cls:=.type "list",data:=.seq vs.toArray }->IntsAre vs ns->ns.length<=n->c.gens = #[] ->
   codeAny (model l.prog w) callerA (.call (.ref j) ⟨[.ref a],[]⟩) (fun r s'=>r=.ok (.ret (.bool true))/\OldK c.heap s'.heap/\s'.os=c.os/\AllBare s'.gens) c) :
  WalkO q e D F l.row.toRowW d [] fun f vs=>PySem.call f vs:=by
 intro w g c t u G Y j o y s h Q S N O x E z P args C U m B I A R;obtain rfl:Q=.none:=Dflts.none E v;obtain rfl:S=.none:=Dflts.noKw E;obtain ⟨a,vs,ns,rfl,rfl,p,i,k⟩:=yrf L m A;refine enter_call (codeAny_mono (call w g c t u j o y s h a vs ns G Y N (fd_plain O) x z p i k P) fun r s' J=>?_);obtain ⟨rfl,h2,M,H⟩:=J;exact ⟨.inl ⟨_,_,[],rfl,fun _=>rfl,.bool true,yrg l _,fun _=>⟨List.Pairwise.nil,fun _ T=>nomatch T⟩⟩,h2,M,H⟩
end Att
namespace L2
open PySem PySem.Spec PyProof.Rows
theorem yhW:∀ {vs:List Value}{ns:List Int},IntsAre vs ns->Vals (ns.map V.int) vs
 | _,_,.nil=>.nil
 | _,_,.cons n t h=>.cons ⟨t,rfl⟩ (yhW h)
noncomputable def yFs (H:Hp):Prop:=∀ b,H b=none\/∃ o xs,H b=some (.frz o (.lst xs))
theorem yuv {K:Frag}{f:Shared}{vs:List Value}
  (KX:K.In f.heap) (G:f.heap.Ns mainGlobals C) (i:f.heap.Ns builtinsNs S) (Q:∀ x:Str,x≠"__name__"->S x=bootBuiltins x) (E:f.heap.NoLimit) (hg:f.gens = #[])
  (M:f.heap.get? a=some { cls:=.type "list",data:=.seq vs.toArray }) (U:IntsAre vs ns) (hl:ns.length<=sizeLine) (hr:Room k callerA)
  (F:∀ base:Heap,K.In base->base.Ns mainGlobals C->FnOk P w K C base CX k R T [x] sp) (p:∀ (s:Shared) (u:Value),BindsTo s T ⟨[u],[]⟩ [(x,u)])
  (L:∀ H:Hp,yFs H->SqL K H a (ns.map V.int)->sp [.ref a] H (fun v _=>v=.bl true) fun _ _ _=>False)
  (N:∀ H e s',CX [] H f (fun _ _ _=>False) e s'->False) :
  codeAny (model P w) callerA (.call (.ref R) ⟨[.ref a],[]⟩) (fun r s'=>r=.ok (.ret (.bool true))/\OldK f.heap s'.heap/\s'.os=f.os/\AllBare s'.gens) f:=by
 have Y:=yhW U;have B:=U.length;have l:∀ H:Hp,yFs H->SqL K H a (ns.map V.int)->HOk P w H f.heap->(∀ b,H b≠none->b=a)->(H a≠none->K.lookup a=none) ->
   codeAny (model P w) callerA (.call (.ref R) ⟨[.ref a],[]⟩) (fun r s'=>r=.ok (.ret (.bool true))/\OldK f.heap s'.heap/\s'.os=f.os/\AllBare s'.gens) f:=by
  intro H Z hS y hA hK;have g:∀ {b:Addr}{o:Obj},f.heap.get? b=some o->H b=none->(yub f.heap H).get? b=some o:=fun e n=>yuc e n
  have O:∀ {b:Addr}{o:Obj}{es:Array DictEntry}{ep:Nat},f.heap.get? b=some o->o.data=.dict es ep->H b=none:=fun {b o es ep} e d=>by grind
  have j:∀ {b:Addr}{m:Str->Option Value},f.heap.Ns b m->(yub f.heap H).Ns b m:=fun {b m} ⟨o,es,ep,e,d,r⟩=>⟨o,es,ep,g e (O e d),d,r⟩
  have A:K.In (yub f.heap H):=fun b o e=>g (KX b o e) (by grind)
  have hM:Mod K C (yub f.heap H):=⟨A,j G,⟨S,j i,Q⟩,let ⟨mc,h1,h2⟩:=E;⟨mc,j h1,h2⟩⟩
  have e0:Env0 P w K C (yub f.heap H) callerA [] f H:=⟨rfl,hM,fun b o e=>yyd e,le_of_eq (yqC _ _),trivial,fun b i=>absurd (show b∈([]:List Addr) from i) (by simp),y,.of_eq hg⟩
  refine codeAny_mono ((F _ A (j G)).run callerA [] f H ⟨[.ref a],[]⟩ [.ref a] [.ref a] _ _ hr e0 (p f (.ref a)) (.cons rfl .nil) (L H Z hS)) fun r s' h=>?_
  cases r with
  | error e=>exact (N H e s' h).elim
  | ok fl =>
   cases fl with
   | next=>exact False.elim h
   | brk=>exact False.elim h
   | cont=>exact False.elim h
   | ret u =>
    obtain ⟨v,H',os,I,W,D,r',q⟩:=h;have q':v=.bl true:=q;subst q';obtain rfl:u=Value.bool true:=r';refine ⟨rfl,OldK.of_keep fun b o e=>?_,os,I⟩;cases q:H b with
    | none=>exact W.keep b o e q (by intro z;exact absurd (show b∈([]:List Addr) from z) (by simp)) (by simp)
    | some u =>
     rcases Z b with z|⟨ob,xs,z⟩
     .rw [q] at z;cases z
     .have z2:=W.frzs b ob _ z;obtain ⟨X,_⟩:=y b _ z;obtain ⟨e2,_⟩:=D b _ z2;rw [e] at X;cases X;exact e2
 cases J:K.lookup a with
 | some o =>
  have e:=KX a o J;rw [M] at e;cases e;refine l (fun _=>none) (fun _=>.inl rfl) (.inr ⟨_,vs.toArray,_,J,rfl,rfl,rfl,by rw [size_toArray,B];exact hl,by simpa using Y⟩) (fun b u z=>by have t:(none:Option HO)=some u:=z;cases t) (fun b z=>absurd rfl z) fun z=>absurd rfl z
 | none =>
  refine l (fun b=>if b=a then some _ else none) (fun b=>?_) (.inl (.inr ⟨{ cls:=.type "list",data:=.seq vs.toArray },if_pos rfl⟩)) (fun b u z=>?_) (fun b z=>?_) fun _=>J
  .grind
  .by_cases i:b=a
   .have t:=(if_pos i).symm.trans z;cases t;subst i;exact ⟨M,by rw [length_map];exact hl,vs,_,Y,M⟩
   .have t:=(if_neg i).symm.trans z;cases t
  .by_cases i:b=a
   .exact i
   .exact absurd (if_neg i) z
theorem walk_of {l:PySem.W.OpenLaw}{n k:Nat}{q:Program}{g:List Str}{T:(Str->Option Value)->Heap->Prop}{I:World->Heap->Prop}{d:DefRec}{K:Params->Frag}{CX:World->CXT}{sp:World->Sp}{x:Str}
  (Q:l.most=some n) (C:n<=sizeLine) (z:d.params.defaults=[]) (P:Room k callerA)
  (L:∀ w h,I w h->(K w.params).In h)
  (F:∀ w j r h,(K w.params).In h->h.Ns mainGlobals j->j d.name=some (.ref r) ->
   ∃ y:FuncData,(∀ s u,BindsTo s y ⟨[u],[]⟩ [(x,u)]) /\
    ∀ base,(K w.params).In base->base.Ns mainGlobals j->FnOk l.prog w (K w.params) j base (CX w) k r y [x] (sp w))
  (t:∀ w H a (ns:List Int),ns.length<=n->yFs H->SqL (K w.params) H a (ns.map V.int)->sp w [.ref a] H (fun v _=>v=.bl true) fun _ _ _=>False)
  (A:∀ w H s e s',CX w [] H s (fun _ _ _=>False) e s'->False) :
  PySem.W.WalkO q g T I l.row.toRowW d [] fun f vs=>PySem.call f vs:=by
 refine Att.attach_call Q z fun w E m j mb r o Z W R a vs ns G Y ho X O B p i c M=>?_
 have D:=L w _ Y;obtain ⟨y,S,U⟩:=F w j r _ D G.T.g B;exact yuv D G.T.g G.T.b G.T.builtins G.T.nolimit M p i (Nat.le_trans c C) P U S (fun H J N=>t w H a ns c J N) fun H e s'=>A w H m e s'
noncomputable def inClass (s:Stmt) (j:Nat):Stmt:=match s with
 | .ClassDef _ _ _ body _ _ _ _ _ _ _=>body.getD j (.Pass ⟨0,0,0,0⟩)
 | _=>.Pass ⟨0,0,0,0⟩
noncomputable def ynm (s:Stmt):Arguments:=match s with
 | .FunctionDef _ a _ _ _ _ _ _ _ _=>a
 | _=>{ posonlyargs:=[],args:=[],vararg:=none,kwonlyargs:=[],kw_defaults:=[],kwarg:=none,defaults:=[] }
noncomputable def yga (s:Stmt):List Stmt:=match s with
 | .FunctionDef _ _ b _ _ _ _ _ _ _=>b
 | _=>[]
noncomputable def ybF (s:Stmt):Scope:=match s with
 | .FunctionDef _ _ _ _ _ _ sc _ _ _=>sc
 | _=>{ kind:=.function,names:=[],isGenerator:=false,isCoroutine:=false }
abbrev CX0:CXT:=fun _ _ _ _ _ _=>False
abbrev E0:XK:=fun _ _ _=>False
theorem ylE:ygt CX0 X E0:=fun _ _ _ _ _ _ _ h=>h.elim
structure Fun (K:Frag) (x qual:Str) (st:Stmt) (f:Addr) (fd:FuncData):Prop where
 ex:∃ (oc:Value) (od:Option Addr) (kV doc pm:Value) (an:Option Addr) (cdv ct:Value) (osl:Array (Option Value)),
  fd=fnOf x qual (ynm st) (yga st) (ybF st) .none kV doc pm an cdv ct/\K.lookup f=some ⟨oc,od,.func fd,osl⟩/\codeIn K cdv qual=true
 kp:keepIn K (.ref f)=true
section
variable {P:Program}{w:World}{K:Frag}{mg:Str->Option Value}{base:Heap}
theorem Fun.ok {x b:Str}{st:Stmt}{f:Addr}{j:FuncData}{N ps:List Str}{k:Nat}{sp:Sp}(F:Fun K x b st f j) (S:yez N ps (ybF st)) (g:∀ vs H Q E,sp vs H Q E->vs.length=ps.length)
  (d:∀ c A outer s H vs Q E,Room k (A.deeper (envOfC b (ybF st) s.heap.objs.size f c))->sp vs H Q E ->
   ∃ t,PSs (yut CX0 P w K mg base N b (ybF st) f c A outer s H E).nox (yga st) t/\t { nx:=fun _ p=>Q .non p,rt:=Q } (start N vs) H):FnOk P w K mg base CX0 (k+1) f j ps sp:=by
 obtain ⟨v,od,kV,o,y,u,c,r,n,rfl,l,i⟩:=F.ex;refine yFp l i S g fun A outer s H vs Q E m e=>?_
 obtain ⟨t,h,q⟩:=d c A outer s H vs Q E m e;exact ⟨t,h.nox,q⟩
theorem fun_mk {x qual:Str}{st:Stmt}{f:Addr}{oc:Value}{od an:Option Addr}{osl:Array (Option Value)}{kV doc pm cdv ct:Value}(l:K.lookup f=some ⟨oc,od,.func (fnOf x qual (ynm st) (yga st) (ybF st) .none kV doc pm an cdv ct),osl⟩)
  (c:codeIn K cdv qual=true) (k:keepIn K (.ref f)=true):Fun K x qual st f (fnOf x qual (ynm st) (yga st) (ybF st) .none kV doc pm an cdv ct):=⟨⟨oc,od,kV,doc,pm,an,cdv,ct,osl,rfl,l,c⟩,k⟩
end
theorem yyu (b:Room k A):A.units+1<cLine:=Nat.lt_of_le_of_lt (Nat.add_le_add_left (by decide) _) b.units
theorem ylF (h:n<=1000):n<sizeLine:=Nat.lt_of_le_of_lt h (by decide)
noncomputable def Same (H H':Hp):Prop:=∀ b o,H b=some o->H' b=some o
theorem Same.refl H:Same H H:=fun _ _ h=>h
theorem Same.trans (a:Same H f) (b:Same f e):Same H e:=fun c o h=>b c o (a c o h)
theorem Same.free (e:Same H a) (h:a l=Option.none):H l=Option.none:=by
 cases q:H l with
 | none=>rfl
 | some o =>
  rw [e l o q] at h;cases h
theorem Same.seq {K:Frag}{H c:Hp}{a:Addr}{xs:List V}(e:Same H c) (h:SqL K H a xs):SqL K c a xs:=by
 rcases h with (h|⟨o,h⟩)|h
 .exact .inl (.inl (e _ _ h))
 .exact .inl (.inr ⟨o,e _ _ h⟩)
 .exact .inr h
noncomputable def cV:V->Option Value
 | .ty n=>some (.type n)
 | .ref a=>some (.ref a)
 | _=>none
def IsI (K:Frag) (H:Hp) (x c:V) (b:Bool):Prop:=∃ t u,yoC K H x t/\cV c=some u/\PySem.W.kitOne K t u=some b
theorem ynn {K:Frag}{H:Hp}{i:Int}:IsI K H (.int i) (.ty "int") true:=⟨_,_,.int i,rfl,by with_unfolding_all rfl⟩
theorem ylG {K:Frag}{H:Hp}{i:Int}:IsI K H (.int i) (.ty "bool") false:=⟨_,_,.int i,rfl,by with_unfolding_all rfl⟩
theorem yno {K:Frag}{H:Hp}:IsI K H .non (.ty "int") false:=⟨_,_,.non,rfl,by with_unfolding_all rfl⟩
theorem ynp {K:Frag}{H:Hp}{i:Bool}:IsI K H (.bl i) (.ty "bool") true:=⟨_,_,.bl i,rfl,by with_unfolding_all rfl⟩
theorem ynq {K:Frag}{H:Hp}{i:Str}:IsI K H (.str i) (.ty "str") true:=⟨_,_,.str i,rfl,by with_unfolding_all rfl⟩
theorem ylH {K:Frag}{H:Hp}{a:Addr}{xs:List V}(e:H a=some (.lst xs)):IsI K H (.ref a) (.ty "list") true:=⟨_,_,.lst e,rfl,by with_unfolding_all rfl⟩
theorem str_len {v:Int}(b:0<=v) {k:Nat}(c:0<k) (h:v<10 ^ k):(Str.ofString (toString v)).length<=k:=toString_length_le b c h
end L2
namespace L2
open PySem
abbrev yFt:R2:=rI0 fun i j=>.int (i+j)
abbrev yFu:R2:=rI0 fun i j=>.int (i-j)
abbrev yFv:R2:=rI CMul fun i j=>.int (i*j)
abbrev yFw:R2:=rI yHi fun i j=>.int (i/j)
abbrev yFx:R2:=rI (fun _ j=>0<j) fun i j=>.int (i%j)
abbrev yFy:R2:=rI yFm fun i j=>.int (i ^ j.toNat)
abbrev yIj:R2:=rI0 fun i j=>.bl (decide (i<j))
abbrev yIk:R2:=rI0 fun i j=>.bl (decide (i<=j))
abbrev yIl:R2:=rI0 fun i j=>.bl (decide (j<i))
abbrev yIm:R2:=rI0 fun i j=>.bl (decide (j<=i))
abbrev yFz:V->Hp->VK->Prop:=rU fun i=>.int (-i)
noncomputable def yFA:R2:=fun x y H Q=>∃ i j,x=.str i/\y=.str j/\i.length+j.length<=sizeLine/\Q (.str (i++j)) H
noncomputable def yIn:R2:=fun x y H Q=>y=.non/\Q (.bl (decide (x=.non))) H
noncomputable def yFB:R2:=fun x y H Q=>y=.non/\Q (.bl (!decide (x=.non))) H
noncomputable def yFC:List V->Hp->VK->Prop:=fun xs H Q=>∃ z,xs=[.str z]/\z.length<=sizeLine/\Q (.int z.length) H
def yBW (K:Frag):List V->Hp->VK->Prop:=fun xs H Q=>∃ p ys,xs=[.ref p]/\(SqL K H p ys\/SqT K H p ys)/\Q (.int ys.length) H
def yHt (K:Frag):List V->Hp->VK->Prop:=fun xs H Q=>∃ x c b,xs=[x,c]/\IsI K H x c b/\Q (.bl b) H
theorem ydT (h:H p=none) o:Same H (upd H p o):=fun b u q=>by rw [yL (yby q h)];exact q
section
variable {K:Frag}{Z:St}{H:Hp}{Q:VK}{ta tb tc:TE}{tA tB':TT}{t u:TS}{D:Ends}
theorem w_not {Q:Bool->Hp->Prop}:yFe tA Z H Q=tA Z H fun c H1=>Q (!c) H1:=rfl
end
noncomputable def yyv (cs:List Nat):Int:=cs.foldl (fun (a:Int) (c:Nat)=>a*10+((c:Int)-48)) 0
def yBX:List V->Hp->VK->Prop:=fun xs H Q=>∃ x:Str,xs=[.str x]/\x.cps.toList≠[]/\(∀ c∈x.cps.toList,48<=c/\c<=57)/\x.length<=640/\Q (.int (yyv x.cps.toList)) H
noncomputable def yHu:R2:=fun x y H Q=>∃ (c:Nat) (j:Str),x=.str ⟨#[c]⟩/\y=.str j/\Q (.bl (decide (c∈j.cps.toList))) H
noncomputable def yrh:V->List V->Hp->VK->Prop:=fun x vs H Q=>∃ (z:Str) (c:Nat),x=.str z/\vs=[.str ⟨#[c]⟩]/\z.length<=1000/\c∈z.cps.toList/\Q (.int (z.cps.toList.idxOf c)) H
noncomputable def rJoin:V->List V->Hp->VK->Prop:=fun x vs H Q=>∃ (sep:Str) (p:Addr) (ts:List Str),x=.str sep/\vs=[.ref p]/\H p=some (.lst (ts.map V.str))/\sep.length<=16/\(ts.map (·.length)).sum+ts.length<=1048576/\Q (.str (Str.join sep ts)) H
noncomputable def yHv:List V->Hp->VK->Prop:=fun xs H Q=>∃ (p:Addr) (bs:List Bool),xs=[.ref p]/\H p=some (.lst (bs.map V.bl))/\Q (.bl (bs.all id)) H
noncomputable def yHw:List V->Hp->VK->Prop:=fun xs H Q=>∃ (p:Addr) (ns:List Int),xs=[.ref p]/\H p=some (.lst (ns.map V.int))/\Q (.int ns.sum) H
def yyw (K:Frag):List V->Hp->VK->Prop:=fun xs H Q=>∃ p ys,xs=[.ref p]/\(SqL K H p ys\/SqT K H p ys)/\∀ l,H l=none->Q (.ref l) (upd H l (.lst ys))
noncomputable def Its (z:Str):It:=⟨fun i _=>i<z.length,fun i H x H'=>H'=H/\∃ c,z.cps.toList[i]?=some c/\x=.str ⟨#[c]⟩,fun i _=>i=z.length⟩
def yHx (ta:TE):TI:=fun Z H R=>ta Z H fun x H1=>∃ z,x=.str z/\z.length<=sizeLine/\R (Its z) H1
def yBY (J:It) (te:TE) (inn:V->St) (D:Addr) (Q:VK) (H:Hp):Prop:=∃ W:Nat->Nat->Hp->Prop,(∃ m,W 0 m H)/\∀ i m H,W i m H ->
 (J.stop i H/\Q (.ref D) H)\/(J.go i H/\∀ x H',J.yld i H x H'->te (inn x) H' fun y H2=>∃ acc,H2 D=some (.lst acc)/\acc.length<sizeLine/\∃ m',m'<m/\W (i+1) m' (upd H2 D (.lst (acc++[y]))))
noncomputable def inner (ix:List Nat) (Z:St) (x:V):St:=some x::ix.map fun i=>(Z[i]?).getD none
def yri (wi:TI) (ix:List Nat) (te:TE):TE:=fun Z H Q=>wi Z H fun J H1=>∀ D,H1 D=none->yBY J te (inner ix Z) D Q (upd H1 D (.lst []))
def ywW (C:Addr):TE:=fun _ H Q=>∀ x dx,H x=none->H dx=none->dx≠x->Q (.ref x) (upd (upd H dx (.own x)) x (.ins C dx []))
def ywX {κ:Type}(A:κ->Addr) (m:Str) (sp:κ->Sp) (ta:TE):TE:=fun Z H Q=>ta Z H fun x H1=>∃ a k dx fs,x=.ref a/\H1 a=some (.ins (A k) dx fs)/\fs.lookup m=none/\sp k [x] H1 Q E0
theorem yBZ {k b:Str}{v:V}{r:List _}(h:¬ k=b):List.lookup k ((b,v)::r)=List.lookup k r:=by
 have:(k == b)=false:=by simpa using h
 simp [List.lookup,this]
open PySem.Builtin PySem.Builtin.Str
theorem at_one:StrLaws.At z ⟨#[c]⟩ z.length i ↔ z.cps.toList[i]?=some c:=by
 unfold StrLaws.At subAt;have j:(⟨#[c]⟩:Str).length=1:=rfl;rw [j];have f:(z.cps.extract i (i+1) == (⟨#[c]⟩:Str).cps)=true ↔ z.cps.extract i (i+1) = #[c]:=by simp
 rw [f];constructor
 .rintro ⟨h1,h2⟩;have d:(z.cps.extract i (i+1)).toList=[c]:=by rw [h2]
  rw [Array.toList_extract,List.extract_eq_take_drop] at d;have g:((z.cps.toList.drop i).take (i+1-i))[0]?=some c:=by rw [d];rfl
  simpa using g
 .intro h;obtain ⟨b,k⟩:=List.getElem?_eq_some_iff.mp h;have hl:i<z.length:=by simpa [Str.length] using b
  refine ⟨by omega,?_⟩;apply Array.ext';rw [Array.toList_extract,List.extract_eq_take_drop];have e:i+1-i=1:=by omega
  rw [e,List.drop_eq_getElem_cons b,k];rfl
theorem yrj z c:occurrences z ⟨#[c]⟩ 0 z.length 1=[]/\c∉z.cps.toList\/∃ r,occurrences z ⟨#[c]⟩ 0 z.length 1=z.cps.toList.idxOf c::r/\c∈z.cps.toList:=by
 rcases StrLaws.occ_head z _ 1 (Nat.le_refl _) with ⟨h1,h2⟩|⟨i,r,h1,h2,l⟩
 .refine .inl ⟨h1,fun d=>?_⟩;obtain ⟨i,b,e⟩:=getElem_of_mem d;exact h2 i (at_one.mpr (List.getElem?_eq_some_iff.mpr ⟨b,e⟩))
 .have b:=at_one.mp h2;obtain ⟨j,d⟩:=List.getElem?_eq_some_iff.mp b;have g:=mem_of_getElem? b;refine .inr ⟨r,?_,g⟩;have f:=List.idxOf_lt_length_of_mem g;have k:z.cps.toList[z.cps.toList.idxOf c]?=some c:=by rw [List.getElem?_eq_getElem f,List.getElem_idxOf f]
  have e:i=z.cps.toList.idxOf c:=by
   rcases Nat.lt_trichotomy i (z.cps.toList.idxOf c) with h|h|h
   .exact absurd d (by have:=List.not_of_lt_findIdx (p:=(· == c)) (xs:=z.cps.toList) (by simpa [List.idxOf] using h);simpa using this)
   .exact h
   .exact absurd (at_one.mpr k) (l _ h)
  rw [h1,e]
end L2
namespace L2
open PySem PySem.Spec PyProof.Rows
theorem yem {env:Env} y:∀ b:List _,
  (b.map fun (n,k)=>if k == NameKind.free && env.scope.kind == .function && env.kindOf n == some .cell then (n,NameKind.cell) else (n,k)).lookup y
   = (b.lookup y).map fun k=>if k == NameKind.free && env.scope.kind == .function && env.kindOf y == some .cell then NameKind.cell else k
 | []=>rfl
 | (n,k)::r=>by
  have f:=yem (env:=env) y r;show List.lookup y ((if (k == NameKind.free && env.scope.kind == .function && env.kindOf n == some _)=true then (n,NameKind.cell) else (n,k))::_)=_;cases d:y == n with
  | true =>
   have e:=eq_of_beq d;subst e
   by_cases c:(k == NameKind.free && env.scope.kind == .function && env.kindOf y == some .cell)=true
   .simp_all
   .rw [if_neg c];simp_all
  | false =>
   by_cases c:(k == NameKind.free && env.scope.kind == .function && env.kindOf n == some .cell)=true
   .rw [if_pos c];simp only [lookup_cons,d];exact f
   .rw [if_neg c];simp only [lookup_cons,d];exact f
theorem yfc {env:Env}:∀ (b:List _) cs,(∀ n,(n,NameKind.free)∈b->∃ c,env.cells.lookup n=some c) ->
  ∃ f,forIn b cs (fun (x:Str×NameKind) (r:List (Str×Addr))=>if (x.2 == NameKind.free)=true then do let c <- cellOf env x.1;pure (ForInStep.yield ((x.1,c)::r)) else pure (ForInStep.yield r))=pure f /\
   (∀ y,(y,NameKind.free)∈b->f.lookup y=env.cells.lookup y)/\∀ y,(y,NameKind.free)∉b->f.lookup y=cs.lookup y
 | [],cs,_=>⟨cs,rfl,fun y h=>by simp at h,fun y _=>rfl⟩
 | (n,k)::r,cs,h=>by
  by_cases l:k=.free
  .subst l;obtain ⟨c,j⟩:=h n mem_cons_self;obtain ⟨f,e,h1,h2⟩:=yfc r ((n,c)::cs) fun y d=>h y (mem_cons_of_mem _ d)
   refine ⟨f,?_,fun y d=>?_,fun y d=>?_⟩
   .have m:cellOf env n=pure c:=by unfold cellOf;rw [j]
    simp_all
   .by_cases g:(y,NameKind.free)∈r
    .exact h1 y g
    simp_all
   .have g:=fun z=>d (mem_cons_of_mem _ z)
    rw [h2 y g];have i:(y == n)=false:=by simp_all
    simp [List.lookup,i]
  .obtain ⟨f,e,h1,h2⟩:=yfc r cs fun y d=>h y (mem_cons_of_mem _ d)
   refine ⟨f,?_,fun y d=>?_,fun y d=>?_⟩
   .simp_all
   .rcases mem_cons.mp d with z|z
    .simp_all
    .exact h1 y z
   simp_all
noncomputable def cxC (X:Cx) (scope:Scope) (cl:List (Str×Addr)) (C:Addr) (N:List Str) (s₃:Shared) (H₃:Hp) (fp:List Addr) (pins:List (Addr×Obj)):Cx :=
 { prog:=X.prog,w:=X.w,K:=X.K,mg:=X.mg,base:=X.base,A:=X.A,N:=N,s₀:=s₃,H₀:=H₃,env:=compEnvC scope cl C X.env,outer:=X.stack,stack:=X.stack,ex:=fp,fn:=fun _=>false,calm:=X.calm,pn:=X.pn++pins,xe:=fun _ _=>False }
noncomputable def FrOk (X:Cx) (scope:Scope):List Nat->List Str->Prop
 | [],[]=>True
 | i::is,y::ys=>X.N[i]?=some y/\scope.names.lookup y=some .free/\X.env.kindOf y=some .cell/\FrOk X scope is ys
 | _,_=>False
theorem FrOk.len:∀ {a:List Nat}{ys:List Str},FrOk X scope a ys->a.length=ys.length
 | [],[],_=>rfl
 | _::a,_::ys,h=>by rw [length_cons,length_cons,FrOk.len h.2.2.2]
theorem FrOk.get:∀ {is:List Nat}{ys:List Str}{j:Nat}{y:Str},FrOk X scope is ys->ys[j]?=some y->∃ i,is[j]?=some i/\X.N[i]?=some y/\scope.names.lookup y=some .free/\X.env.kindOf y=some .cell
 | [],[],_,_,_,e=>by simp at e
 | [],_::_,_,_,h,_=>h.elim
 | _::_,[],_,_,h,_=>h.elim
 | i::is,z::ys,0,y,h,e=>by simp at e;subst e;exact ⟨i,rfl,h.1,h.2.1,h.2.2.1⟩
 | i::is,z::ys,j+1,y,h,e=>by obtain ⟨k,h1,h2⟩:=FrOk.get (j:=j) h.2.2.2 (by simpa using e);exact ⟨k,by simpa using h1,h2⟩
theorem yuw {P:Program}{w:World}{K:Frag}{N:Expr}{r:String}(j:r = "str_ascii_iterator"\/r = "str_iterator") (z:Str) (t:Tok) (g:Addr):Turn P w K N (Its z) [g] g (fun i h=>h.IsStrIter g r z t i) where
 mem:=by simp
 obj:=fun i h st b l=>by
  have e:b=g:=by simpa using l
  subst e;obtain ⟨o,e,c,d⟩:=st;simp_all
 keep:=fun i h h' st k=>by obtain ⟨o,e,c,d⟩:=st;exact ⟨o,k g (by simp) o e,c,d⟩
 item:=by
  intro X L G M F i m s Z H E I B st n;subst L G M;obtain ⟨f0,A,Q,C,y,v⟩:=B g (by simp);have n:i<z.length:=n;obtain ⟨ch,hz⟩:∃ ch,z.cps[i]?=some ch:=⟨_,Array.getElem?_eq_getElem (show i<z.cps.size from n)⟩
  have p:∀ h',h'.IsStrIter g r z t (i+1)->Heap.SameBut g s.heap h'->∃ u,some (Value.str ⟨#[ch]⟩ s.toks)=some u /\
    wpAny (model X.prog X.w) X.A (letOwnedTupleGo N (.ref g) u) (fun _ s2=>∃ x D,Inv X m Z D s2/\RelV x u/\(Its z).yld i H x D/\s2.heap.IsStrIter g r z t (i+1)/\∀ b∈[g],D b=none) E { s with heap:=h',toks:=s.toks+1 }:=fun h' f q=>by
   have O:=I.turned (t':=s.toks+1) (fun b o l e=>(q.2 b l).trans e) f0 A C y v;obtain ⟨o,e,c,d⟩:=id f;refine ⟨_,rfl,ypJ e c d (by rcases j with rfl|rfl<;>decide) ⟨.str ⟨#[ch]⟩,H,O,⟨_,rfl⟩,⟨rfl,_,by simpa using hz,rfl⟩,f,fun b l=>(B b l).1⟩⟩
  rcases j with rfl|rfl
  .exact wpAny_pyNext_ascii_item st hz fun h' f q=>p h' f q
  .exact wpAny_pyNext_wide_item st hz fun h' f q=>p h' f q
 done:=by
  intro X L G M F i m s Z H E I B st n;subst L G M;obtain ⟨f0,A,Q,C,y,v⟩:=B g (by simp);have n:i=z.length:=n;have hz:z.cps[i]?=none:=by simp [n,Str.length]
  rcases j with rfl|rfl
  .exact wpAny_pyNext_ascii_end (I.ok.hd F) st hz fun h' J=>⟨rfl,I.turned (t':=s.toks) (fun b o l e=>J b o l e) f0 A C y v⟩
  .exact wpAny_pyNext_wide_end (I.ok.hd F) st hz fun h' J=>⟨rfl,I.turned (t':=s.toks) (fun b o l e=>J b o l e) f0 A C y v⟩
 self:=fun _ _ _ _ _ st h=>by
  rcases j with rfl|rfl
  .exact wpAny_pyIter_striter_ascii st h
  .exact wpAny_pyIter_striter_wide st h
section
variable {X:Cx}{tg:Expr}
theorem yCa (hl:PE X l tl):PI X tg l (yHx tl):=by
 intro c s Z H R I h;refine thn (hl c s Z H _ I h) fun v s1 z'=>?_
 obtain ⟨x,m,i,k,p⟩:=z';obtain ⟨z,e,hz,q⟩:=p;subst e;obtain ⟨t,rfl⟩:=k;have d:∀ f,(f = "str_ascii_iterator"\/f = "str_iterator")->PIE X c Z tg R _ { s1 with heap:=s1.heap.push { cls:=.type f,data:=.fields _ } }:=fun f g=>by
  refine ⟨s1.heap.objs.size,_,_,_,m,rfl,i.kept fun b o e=>Heap.get?_push_of_some _ e,yuw g z t _,⟨_,Heap.get?_push_size _ rfl,rfl,rfl⟩,fun b n=>?_,q⟩;have e:=by simpa using n
  subst e;exact i.fpOk (Nat.le_refl _) (i.hok.fresh (Nat.le_refl _))
 cases j:z.cps.all _
 .exact wpAny_pyIter_wide j (d _ (.inr rfl))
 .exact wpAny_pyIter_ascii j (d _ (.inl rfl))
theorem yjZ:∀ {bs:List Bool}{us:List Value},Vals (bs.map V.bl) us->us=bs.map Value.bool
 | [],_,.nil=>rfl
 | b::bs,_,.cons r t=>by rw [r,yjZ t];rfl
theorem yka (hc:X.calm=true):yfY X (.builtin "all") yHv:=by
 intro pins s Z H xs us Q I r h;obtain ⟨p,bs,rfl,hp,q⟩:=h;obtain ⟨u,rfl,rx⟩:=vals1 r;cases rx;obtain ⟨its,n,rv,e,hz⟩:=I.lst hp;have eb:=yjZ rv;subst eb;have hl:s.heap.IsList p (bs.map Value.bool).toArray:=⟨_,e,rfl,n,rfl⟩
 have hlt:p<s.heap.objs.size:=Heap.lt_size e;refine call_all_walk (wpAny_pyIter_list hl ?_);refine ⟨s.heap.objs.size,[s.heap.objs.size,p],[s.heap.objs.size],(bs.map Value.bool).toArray.size,_,_,fun i=>(bs[i]?).getD true,rfl,Walks.list (A:=X.A.in1) (I.ok.hd hc) _ p (ne_of_lt hlt) _,
  ⟨⟨_,Heap.get?_push_size _ rfl,rfl,rfl⟩,hl.push _⟩,fun i v s' Q' E' hP hQ=>?_,fun h' tk hk=>?_⟩
 .have hP:(bs.map Value.bool)[i]?=some v:=by simpa using hP
  rw [getElem?_map] at hP;cases eb:bs[i]? with
  | none=>rw [eb] at hP;cases hP
  | some b =>
   rw [eb] at hP;cases hP;simp only [eb,Option.getD_some] at hQ;exact wpAny_truthy_bool hQ
 .have ea:((List.range (bs.map Value.bool).toArray.size).all fun i=>(bs[i]?).getD true)=bs.all id:=by rw [size_toArray,length_map];exact LSm.range_all bs
  rw [ea];exact ⟨.bl _,H,I.kept (t':=tk) fun b o eo=>hk b o (fun hm=>by rw [List.mem_singleton.mp hm] at eo;exact absurd (Heap.lt_size eo) (lt_irrefl _)) (Heap.get?_push_of_some _ eo),rfl,q⟩
theorem yux (i:X.calm=true):yfY X (.builtin "sum") yHw:=by
 intro c s Z H xs us Q I r h;obtain ⟨p,ns,rfl,hp,q⟩:=h;obtain ⟨u,rfl,k⟩:=vals1 r;cases k;obtain ⟨its,n,l,e,hz⟩:=I.lst hp;have d:=intsAre_of l;have hl:s.heap.IsList p its.toArray:=⟨_,e,rfl,n,rfl⟩
 obtain ⟨xs,f⟩:=d.allInts.items;have b:=f ▸ hl;refine sum_intListG (I.ok.hd i) b fun h' o t' g=>?_
 have j:ns=xs.toList.map (·.1):=by rw [<- nums_intItems,<- f];exact (d.numsOf).symm
 have m:preSum (numAt xs) xs.size=ns.sum:=by rw [preSum_eq,List.take_of_length_le (by simp),j]
 rw [m];exact ⟨.int ns.sum,H,I.kept g,⟨_,rfl⟩,q⟩
theorem yrk:∀ {ts:List Str}{us:List Value},Vals (ts.map V.str) us->StrsAre us ts
 | [],_,.nil=>.nil
 | y::ts,_,.cons r t=>by
  obtain ⟨k,e⟩:=(r)
  rw [e];exact .cons y k (yrk t)
theorem yyx:MtR X "str.join" rJoin:=by
 intro b s Z H x xs v us Q I d f h;obtain ⟨sep,p,ts,rfl,rfl,hp,h1,h2,q⟩:=h;obtain ⟨t,rfl⟩:=d;obtain ⟨u,rfl,c⟩:=vals1 f;cases c;obtain ⟨its,n,r,e,hz⟩:=I.lst hp;have hl:s.heap.IsList p its.toArray:=⟨_,e,rfl,n,rfl⟩
 refine join_listW hl (yrk r) h1 h2 fun t' k=>⟨.str _,H,I.tok k,⟨t',?_⟩,q⟩
 rw [show Txt.join sep ts=Str.join sep ts from StrLaws.glued_eq_join sep ts]
theorem ylI:OpR X (compareOp .In) yHu:=by
 intro b s Z H x y v u Q I f d h;obtain ⟨c,j,rfl,rfl,q⟩:=h;refine yqS b s Z H _ _ v u Q I f d ⟨_,_,rfl,rfl,?_⟩;have e:(!(Builtin.Str.occurrences j ⟨#[c]⟩ 0 j.length 1).isEmpty)=decide (c∈j.cps.toList):=by
  rcases yrj j c with ⟨h1,h2⟩|⟨r,h1,h2⟩
  .rw [h1];simp [h2]
  .rw [h1];simp [h2]
 rw [e];exact q
theorem yuy (y:makesIn X.K C=true) (z:findIn X.K (.ref C) "__init__" = some (some (.builtin "object.__init__"))) (n:keepIn X.K (.ref C)=true)
  (u:Gl X x) (j:X.mg x=some (.ref C)) (k:(x == ("__debug__":Str))=false:=by decide):PE X (.Call (.Name x p) [] [] pos) (ywW C):=by
 intro l s Z H Q I h;refine wpAny_Call_Name_kw (yhQ I u j ?_ k);refine PySem.W.callWith_K0 I.kIn n (wpAny_call ?_);have m:=Inv.made (C:=C) I;have q:=h (s.heap.objs.size+1) s.heap.objs.size (I.hok.fresh (Nat.le_succ _)) (I.hok.fresh (Nat.le_refl _)) (ne_of_lt (Nat.lt_succ_self _));have i:=I.kIn;obtain ⟨c,g,d,t,os⟩:=s;have Y:=PySem.W.makes_of (M:=model X.prog X.w) i y;refine PySem.W.make_core Y (PySem.W.looks_findIn i z) (fun f=>PySem.W.Looks.of_pure (PySem.W.oi_bind f)) (.inr ⟨rfl,rfl⟩) ?_;have v:=by have:=Heap.get?_push_size (h:=c.push emptyDict) (o:=instObj C c.objs.size) rfl;rwa [Heap.size_push] at this
 have w:PySem.W.Looks (model X.prog X.w) _ (typeOf (.ref (c.objs.size+1))) (.ref C):=(PySem.W.Looks.ld v).andThen .now;have r:PySem.W.Looks (model X.prog X.w) _ (isInstance (.ref (c.objs.size+1)) (.type "object")) true:=w.andThen (Y.top.keeps fun b o e=>Heap.get?_push_of_some _ (Heap.get?_push_of_some _ e));refine codeAny_call_builtin PySem.W.oi_plain PySem.W.entry_oi (@PySem.W.check_slot (model X.prog X.w) _ _ _ "object.__init__" "object" "__init__" (.ref (c.objs.size+1)) [] [] _ PySem.W.oi_kind PySem.W.oi_split r (PySem.W.oi_args (.ref (c.objs.size+1))) ?_);show wpAny _ _ (Builtin.«object.__init__» ⟨[.ref (c.objs.size+1)],[]⟩) _ _ _;rw [PySem.W.oi_run];exact wpAny_pure (And.intro rfl ⟨.ref _,_,m,rfl,q⟩)
def ynr {κ:Type}(P:Program) (w:World) (K:Frag) (mg:Str->Option Value) (base:Heap) (k:Nat) (A:κ->Addr) (m:Str) (sp:κ->Sp):Prop :=
 ∀ c:κ,Cls K (A c)/\((∀ vs H Q E,¬ sp c vs H Q E)\/∃ f fd ps,Meth K (A c) m f/\FnOk P w K mg base CX0 k f fd ps (sp c)/\Binds K fd ps [])
theorem yrl {κ:Type}{A:κ->Addr}{m:Str}{sp:κ->Sp}{k:Nat}{o:Expr}{i:TE}{d pos:Pos}{pl:Sem Bool}(z:PE X o i) (G:ynr X.prog X.w X.K X.mg X.base k A m sp) (r:Room k X.A)
  (v:eval (.Call (.Attribute o m d) [] [] pos) X.env=(do
   let n <- eval o X.env
   standAt d.atName
   let (f,first) <- holding [n] (getMethod n m pl)
   callWith pos f first (backTo pos (starEach [] X.env)) (backToKw pos (keywordEach [] X.env))):=by rfl):PE X (.Call (.Attribute o m d) [] [] pos) (ywX A m sp i):=by
 intro e s Z H Q I h;refine PySem.W.methodCall_KW (thn (z e s Z H _ I h) fun u s1 z'=>?_) v;obtain ⟨x,E,g,t,a,c,J,fs,w,C,l,q⟩:=z';subst w;obtain rfl:u=Value.ref a:=t;obtain ⟨p,B|⟨f,D,ps,j,F,y⟩⟩:=G c
 .exact (B _ _ _ _ q).elim
 refine ygW g C p j l ?_;exact PySem.W.callWith_K0 g.kIn j.kp (ylw (us:=[.ref a]) (vs:=[.ref a]) F r y .nil ylE g (.cons rfl .nil) q)
end
noncomputable def ExO (D a:Addr):HO:=.ext fun h=>∃ ox,PySem.W.InstAt h a ox D none
noncomputable def xAd (K:Frag) (n:Str):Addr:=match nsIn K mainGlobals n with|some (some (.ref D))=>D|_=>0
section
variable {X:Cx}
theorem yW:yfY X (.builtin "isinstance") (yHt X.K):=by
 intro d s Z H xs us Q I r h;obtain ⟨x,c,b,rfl,⟨t,i,g,f,l⟩,q⟩:=h;obtain ⟨u,n,rfl,k,j⟩:=vals2 r;have e:n=i:=by cases c<;>first|(cases f;exact j)|cases f
 subst e;exact yqX I k g l fun m=>⟨.bl b,H,I.tok m,rfl,q⟩
theorem yjq:∀ (cs:List Nat) a,(∀ c∈cs,48<=c/\c<=57)->(cs.foldl (fun e c=>e*10+(c-48)) a:Nat)=cs.foldl (fun (a:Int) (c:Nat)=>a*10+(c-48)) a
 | [],_,_=>rfl
 | c::cs,a,h=>by have g:=h c mem_cons_self;rw [List.foldl_cons,List.foldl_cons,yjq cs _ fun d f=>h d (mem_cons_of_mem _ f)];congr 1;omega
theorem ylJ:yfY X (.type "int") yBX:=by intro c s Z H xs us Q I r h;obtain ⟨z,rfl,b,d,hl,q⟩:=h;obtain ⟨u,rfl,t,rfl⟩:=vals1 r;have e:=PySem.intText_digits d b (by omega);have f:(PySem.NumText.digitsVal z.cps.toList:Nat)=yyv z.cps.toList:=yjq z.cps.toList 0 d;rw [f] at e;exact PySem.W.KIN.call_text e hl ⟨.int _,H,I.tok _,⟨_,rfl⟩,q⟩
end
section
variable {X:Cx}
theorem yyy (b:Gl X x) (d:X.mg x=some (.int n t)) (c:(x == "__debug__")=false:=by decide):PE X (.Name x pos) (tC (.int n)):=ync b d ⟨t,rfl⟩ c
theorem yyz (b:Gl X x) (d:X.mg x=some (.str n t)) (c:(x == "__debug__")=false:=by decide):PE X (.Name x pos) (tC (.str n)):=ync b d ⟨t,rfl⟩ c
theorem yns (c:Gl X x) (e:X.mg x=some (.ref a)) (d:(x == "__debug__")=false:=by decide):PE X (.Name x pos) (tC (.ref a)):=ync c e rfl d
theorem yCb {x:Str}{n:String}{pos:Pos}(b:Gl X x) (f:X.mg x=none) (c:bootBuiltins x=some (.type n)) (e:x≠"__name__":=by decide) (d:(x == "__debug__")=false:=by decide):PE X (.Name x pos) (tC (.ty n)):=yyf b f c rfl e d
end
theorem ynt {K:Frag}{H:Hp}{i:Int}:IsI K H (.int i) (.ty "str") false:=⟨_,_,.int i,rfl,by with_unfolding_all rfl⟩
theorem ylK {K:Frag}{H:Hp}{i:Int}:IsI K H (.int i) (.ty "list") false:=⟨_,_,.int i,rfl,by with_unfolding_all rfl⟩
theorem ykb {K:Frag}{H:Hp}{i:Int}:IsI K H (.int i) (.ty "tuple") false:=⟨_,_,.int i,rfl,by with_unfolding_all rfl⟩
theorem ylL {K:Frag}{H:Hp}{i:Int}:IsI K H (.int i) (.ty "dict") false:=⟨_,_,.int i,rfl,by with_unfolding_all rfl⟩
theorem ypQ {K:Frag}{H:Hp}{i:Bool}:IsI K H (.bl i) (.ty "int") true:=⟨_,_,.bl i,rfl,by with_unfolding_all rfl⟩
theorem ypR {K:Frag}{H:Hp}{i:Bool}:IsI K H (.bl i) (.ty "str") false:=⟨_,_,.bl i,rfl,by with_unfolding_all rfl⟩
theorem ynu {K:Frag}{H:Hp}{i:Bool}:IsI K H (.bl i) (.ty "list") false:=⟨_,_,.bl i,rfl,by with_unfolding_all rfl⟩
theorem ylM {K:Frag}{H:Hp}{i:Bool}:IsI K H (.bl i) (.ty "tuple") false:=⟨_,_,.bl i,rfl,by with_unfolding_all rfl⟩
theorem ynv {K:Frag}{H:Hp}{i:Bool}:IsI K H (.bl i) (.ty "dict") false:=⟨_,_,.bl i,rfl,by with_unfolding_all rfl⟩
theorem ynw {K:Frag}{H:Hp}{i:Str}:IsI K H (.str i) (.ty "int") false:=⟨_,_,.str i,rfl,by with_unfolding_all rfl⟩
theorem ylN {K:Frag}{H:Hp}{i:Str}:IsI K H (.str i) (.ty "bool") false:=⟨_,_,.str i,rfl,by with_unfolding_all rfl⟩
theorem ylO {K:Frag}{H:Hp}{i:Str}:IsI K H (.str i) (.ty "list") false:=⟨_,_,.str i,rfl,by with_unfolding_all rfl⟩
theorem ykc {K:Frag}{H:Hp}{i:Str}:IsI K H (.str i) (.ty "tuple") false:=⟨_,_,.str i,rfl,by with_unfolding_all rfl⟩
theorem ylP {K:Frag}{H:Hp}{i:Str}:IsI K H (.str i) (.ty "dict") false:=⟨_,_,.str i,rfl,by with_unfolding_all rfl⟩
theorem ylQ {K:Frag}{H:Hp}:IsI K H .non (.ty "bool") false:=⟨_,_,.non,rfl,by with_unfolding_all rfl⟩
theorem ynx {K:Frag}{H:Hp}:IsI K H .non (.ty "str") false:=⟨_,_,.non,rfl,by with_unfolding_all rfl⟩
theorem ylR {K:Frag}{H:Hp}:IsI K H .non (.ty "list") false:=⟨_,_,.non,rfl,by with_unfolding_all rfl⟩
theorem ykd {K:Frag}{H:Hp}:IsI K H .non (.ty "tuple") false:=⟨_,_,.non,rfl,by with_unfolding_all rfl⟩
theorem ylS {K:Frag}{H:Hp}:IsI K H .non (.ty "dict") false:=⟨_,_,.non,rfl,by with_unfolding_all rfl⟩
theorem yny {K:Frag}{H:Hp}{a:Addr}{xs:List V}(e:H a=some (.lst xs)):IsI K H (.ref a) (.ty "int") false:=⟨_,_,.lst e,rfl,by with_unfolding_all rfl⟩
theorem ylT {K:Frag}{H:Hp}{a:Addr}{xs:List V}(e:H a=some (.lst xs)):IsI K H (.ref a) (.ty "bool") false:=⟨_,_,.lst e,rfl,by with_unfolding_all rfl⟩
theorem ynz {K:Frag}{H:Hp}{a:Addr}{xs:List V}(e:H a=some (.lst xs)):IsI K H (.ref a) (.ty "str") false:=⟨_,_,.lst e,rfl,by with_unfolding_all rfl⟩
theorem yke {K:Frag}{H:Hp}{a:Addr}{xs:List V}(e:H a=some (.lst xs)):IsI K H (.ref a) (.ty "tuple") false:=⟨_,_,.lst e,rfl,by with_unfolding_all rfl⟩
theorem ylU {K:Frag}{H:Hp}{a:Addr}{xs:List V}(e:H a=some (.lst xs)):IsI K H (.ref a) (.ty "dict") false:=⟨_,_,.lst e,rfl,by with_unfolding_all rfl⟩
theorem ykf {K:Frag}(e:(∃ xs,H a=some (.tup xs))\/∃ o,K.lookup a=some o/\o.cls=.type "tuple"):IsI K H (.ref a) (.ty "tuple") true:=e.elim (fun ⟨_,e⟩=>⟨_,_,.tup e,rfl,by with_unfolding_all rfl⟩) fun ⟨_,e,c⟩=>⟨_,_,.kt e c,rfl,by with_unfolding_all rfl⟩
theorem ynA {K:Frag}(e:(∃ xs,H a=some (.tup xs))\/∃ o,K.lookup a=some o/\o.cls=.type "tuple"):IsI K H (.ref a) (.ty "int") false:=e.elim (fun ⟨_,e⟩=>⟨_,_,.tup e,rfl,by with_unfolding_all rfl⟩) fun ⟨_,e,c⟩=>⟨_,_,.kt e c,rfl,by with_unfolding_all rfl⟩
theorem ylV {K:Frag}(e:(∃ xs,H a=some (.tup xs))\/∃ o,K.lookup a=some o/\o.cls=.type "tuple"):IsI K H (.ref a) (.ty "bool") false:=e.elim (fun ⟨_,e⟩=>⟨_,_,.tup e,rfl,by with_unfolding_all rfl⟩) fun ⟨_,e,c⟩=>⟨_,_,.kt e c,rfl,by with_unfolding_all rfl⟩
theorem ynB {K:Frag}(e:(∃ xs,H a=some (.tup xs))\/∃ o,K.lookup a=some o/\o.cls=.type "tuple"):IsI K H (.ref a) (.ty "str") false:=e.elim (fun ⟨_,e⟩=>⟨_,_,.tup e,rfl,by with_unfolding_all rfl⟩) fun ⟨_,e,c⟩=>⟨_,_,.kt e c,rfl,by with_unfolding_all rfl⟩
theorem ylW {K:Frag}(e:(∃ xs,H a=some (.tup xs))\/∃ o,K.lookup a=some o/\o.cls=.type "tuple"):IsI K H (.ref a) (.ty "list") false:=e.elim (fun ⟨_,e⟩=>⟨_,_,.tup e,rfl,by with_unfolding_all rfl⟩) fun ⟨_,e,c⟩=>⟨_,_,.kt e c,rfl,by with_unfolding_all rfl⟩
theorem ylX {K:Frag}(e:(∃ xs,H a=some (.tup xs))\/∃ o,K.lookup a=some o/\o.cls=.type "tuple"):IsI K H (.ref a) (.ty "dict") false:=e.elim (fun ⟨_,e⟩=>⟨_,_,.tup e,rfl,by with_unfolding_all rfl⟩) fun ⟨_,e,c⟩=>⟨_,_,.kt e c,rfl,by with_unfolding_all rfl⟩
theorem yuz {K:Frag}{C:Addr}:PySem.W.kitOne K (.ref C) (.ref C)=some true:=by unfold PySem.W.kitOne;simp_all
theorem yuA {K:Frag}{C d:Addr}{b:Bool}(f:mroIn K d (.type "object")=some true) (g:typeIn K (.ref d)=some (.type "type")) (hs:subIn K (.ref C) (.ref d)=some b):PySem.W.kitCls K (.ref C) (.ref d)=some b:=by
 unfold PySem.W.kitCls;have h1:(PySem.W.clsIn K d).isSome=true:=by
  unfold mroIn at f;cases e:PySem.W.clsIn K d with
  | none=>rw [e] at f;cases f
  | some c=>rfl
 have h2:(typeIn K (.ref d) == some (.type "type"))=true:=by rw [g];simp
 simp_all
theorem yuB {K:Frag}{C b:Addr}(e:(C == b)=false) (d:mroIn K b (.type "object")=some true) (c:typeIn K (.ref b)=some (.type "type")) (hs:subIn K (.ref C) (.ref b)=some false):PySem.W.kitOne K (.ref C) (.ref b)=some false:=by
 unfold PySem.W.kitOne;have:¬ (Value.ref C == Value.ref b)=true:=by simp_all
 rw [if_neg this];exact yuA d c hs
end L2
namespace PX
open PySem L2
structure Ck where
 K:Frag
 A:Nat->Addr
inductive PV where
 | non|bl (b:Bool)|int (i:Int)|str (s:Str)|ty (n:String)|cls (k:Nat)
 | scr (ns:List Int)
 | lst (xs:List PV)|tup (xs:List PV)
 | ins (k:Nat) (ns:List Str) (xs:List PV)
 | loc (n:Nat)
 | exc (n:Str)|xcl (n:Str)
inductive Nd where
 | lst (xs:List PV)|dct (ks:List Key) (xs:List PV)|fz (ks:List Key) (xs:List PV)|ins (k:Nat) (ns:List Str) (xs:List PV)|dead
abbrev AH:=List Nd
inductive PVar where|no|val (x:PV)|own (d:Nd)
abbrev PSt:=List PVar
inductive Out where|nx (ρ:PSt)|rt (x:PV)|bk (ρ:PSt)|ct (ρ:PSt)
noncomputable abbrev XE:=PSt->AH->Option (PV×AH)
noncomputable abbrev XT:=PSt->AH->Option (Bool×AH)
noncomputable abbrev XA:=PSt->AH->Option (List PV×AH)
noncomputable abbrev XO:=PSt->AH->Option (Nd×AH)
noncomputable abbrev XS:=PSt->AH->Option (Out×AH)
noncomputable abbrev Fn:=List PV->AH->Option (PV×AH)
def KTp (K:Frag) (a:Addr) (xs:List V):Prop:=∃ (o:Obj) (its:Array Value) (n:Nat),K.lookup a=some o/\o.cls=.type "tuple"/\o.data=.seq its n/\its.size<=sizeLine/\Vals xs its.toList
def TpAt (K:Frag) (F:Hp) (a:Addr) (xs:List V):Prop:=F a=some (.tup xs)\/KTp K a xs
theorem TpAt.mono (s:Same F c) (h:TpAt K F a xs):TpAt K c a xs:=h.elim (fun h=>.inl (s _ _ h)) .inr
mutual
noncomputable def Rep (K:Ck) (F:Hp) (m:List Addr):PV->V->Prop
 | .non,v=>v=.non
 | .bl b,v=>v=.bl b
 | .int i,v=>v=.int i
 | .str s,v=>v=.str s
 | .ty n,v=>v=.ty n
 | .cls k,v=>v=.ref (K.A k)
 | .scr ns,v=>∃ a,v=.ref a/\SqL K.K F a (ns.map V.int)
 | .lst xs,v=>∃ a vs,v=.ref a/\F a=some (.lst vs)/\RepL K F m xs vs
 | .tup xs,v=>∃ a vs,v=.ref a/\TpAt K.K F a vs/\RepL K F m xs vs
 | .ins k ns xs,v=>∃ a dx vs,v=.ref a/\F a=some (.ins (K.A k) dx (ns.zip vs))/\vs.length=ns.length/\RepL K F m xs vs
 | .loc n,v=>∃ a,v=.ref a/\m[n]?=some a
 | .exc n,v=>∃ a,v=.ref a/\F a=some (ExO (xAd K.K n) a)
 | .xcl n,v=>v=.ref (xAd K.K n)
noncomputable def RepL (K:Ck) (F:Hp) (m:List Addr):List PV->List V->Prop
 | [],vs=>vs=[]
 | x::xs,vs=>∃ v r,vs=v::r/\Rep K F m x v/\RepL K F m xs r
end
section
variable {K:Ck}{F F' H H':Hp}{m m':List Addr}
theorem yeA {n:Nat}{a:Addr}(p:m <+: m') (h:m[n]?=some a):m'[n]?=some a:=by obtain ⟨r,rfl⟩:=p;rw [getElem?_append_left (List.getElem?_eq_some_iff.mp h).1];exact h
mutual
theorem Rep.mono (s:Same F F') (p:m <+: m'):∀ (x:PV) (v:V),Rep K F m x v->Rep K F' m' x v
 | .non,_,h=>h
 | .bl _,_,h=>h
 | .int _,_,h=>h
 | .str _,_,h=>h
 | .ty _,_,h=>h
 | .cls _,_,h=>h
 | .scr _,_,⟨a,e,h⟩=>⟨a,e,s.seq h⟩
 | .lst xs,_,⟨a,vs,e,h,r⟩=>⟨a,vs,e,s _ _ h,RepL.mono s p xs vs r⟩
 | .tup xs,_,⟨a,vs,e,h,r⟩=>⟨a,vs,e,h.mono s,RepL.mono s p xs vs r⟩
 | .ins _ _ xs,_,⟨a,dx,vs,e,h,l,r⟩=>⟨a,dx,vs,e,s _ _ h,l,RepL.mono s p xs vs r⟩
 | .loc _,_,⟨a,e,h⟩=>⟨a,e,yeA p h⟩
 | .exc _,_,⟨a,e,h⟩=>⟨a,e,s _ _ h⟩
 | .xcl _,_,h=>h
theorem RepL.mono (s:Same F F') (p:m <+: m'):∀ (xs:List PV) (vs:List V),RepL K F m xs vs->RepL K F' m' xs vs
 | [],_,h=>h
 | x::xs,_,⟨v,r,e,h,l⟩=>⟨v,r,e,Rep.mono s p x v h,RepL.mono s p xs r l⟩
end
theorem RepL.len:∀ {xs:List PV}{vs:List V},RepL K F m xs vs->vs.length=xs.length
 | [],_,h=>by rw [h];rfl
 | x::xs,_,⟨v,r,e,h,l⟩=>by rw [e,length_cons,length_cons,RepL.len l]
theorem RepL.get:∀ {xs:List PV}{vs:List V}{i:Nat}{x:PV},RepL K F m xs vs->xs[i]?=some x->∃ v,vs[i]?=some v/\Rep K F m x v
 | x::xs,_,0,y,⟨v,r,e,h,l⟩,q=>by simp_all
 | x::xs,_,i+1,y,⟨v,r,e,h,l⟩,q=>by obtain ⟨w,h1,h2⟩:=RepL.get l (by simpa using q);simp_all
theorem RepL.get' {xs:List PV}{vs:List V}{i:Nat}{v:V}(h:RepL K F m xs vs) (e:vs[i]?=some v):∃ x,xs[i]?=some x/\Rep K F m x v:=by have hl:=h.len;have c:=(List.getElem?_eq_some_iff.mp e).1;have b:xs[i]?=some xs[i]:=List.getElem?_eq_getElem _;obtain ⟨w,h1,h2⟩:=h.get b;rw [e] at h1;cases h1;exact ⟨_,b,h2⟩
theorem RepL.app:∀ {xs ys:List PV}{vs us:List V},RepL K F m xs vs->RepL K F m ys us->RepL K F m (xs++ys) (vs++us)
 | [],_,_,_,h,k=>by rw [h];exact k
 | x::xs,ys,_,us,⟨v,r,e,h,l⟩,k=>by subst e;exact ⟨v,_,rfl,h,RepL.app l k⟩
theorem RepL.snoc (h:RepL K F m xs vs) (k:Rep K F m x v):RepL K F m (xs++[x]) (vs++[v]):=h.app ⟨v,[],rfl,k,rfl⟩
theorem RepL.drop:∀ {xs:List PV}{vs:List V} n,RepL K F m xs vs->RepL K F m (xs.drop n) (vs.drop n)
 | _,_,0,h=>by simpa using h
 | [],_,n+1,h=>by rw [h];rfl
 | x::xs,_,n+1,⟨v,r,e,h,l⟩=>by subst e;simpa using RepL.drop n l
theorem RepL.take:∀ {xs:List PV}{vs:List V} n,RepL K F m xs vs->RepL K F m (xs.take n) (vs.take n)
 | _,_,0,h=>rfl
 | [],_,n+1,h=>by rw [h];rfl
 | x::xs,_,n+1,⟨v,r,e,h,l⟩=>by subst e;exact ⟨v,_,rfl,h,RepL.take n l⟩
theorem RepL.set:∀ {xs:List PV}{vs:List V}{x:PV}{v:V} i,RepL K F m xs vs->Rep K F m x v->RepL K F m (xs.set i x) (vs.set i v)
 | [],_,_,_,_,h,_=>by rw [h];rfl
 | y::xs,_,x,v,0,⟨w,r,e,h,l⟩,k=>by subst e;exact ⟨v,r,rfl,k,l⟩
 | y::xs,_,x,v,i+1,⟨w,r,e,h,l⟩,k=>by subst e;exact ⟨w,_,rfl,h,RepL.set i l k⟩
theorem RepL.of_ints:∀ (ns:List Int),RepL K F m (ns.map PV.int) (ns.map V.int)
 | []=>rfl
 | n::ns=>⟨_,_,rfl,rfl,RepL.of_ints ns⟩
end
def NdAt (K:Ck) (F H:Hp) (m:List Addr):Nd->Addr->Prop
 | .dead,a=>∃ o,H a=some o
 | .lst xs,a=>F a=none/\∃ vs,H a=some (.lst vs)/\RepL K F m xs vs
 | .dct ks xs,a=>F a=none/\∃ vs,H a=some (.dK (ks.zip vs))/\vs.length=ks.length/\RepL K F m xs vs
 | .fz ks xs,a=>F a=none/\∃ o vs,H a=some (.frz o (.dK (ks.zip vs)))/\vs.length=ks.length/\RepL K F m xs vs
 | .ins k ns xs,a=>F a=none/\∃ dx vs,H a=some (.ins (K.A k) dx (ns.zip vs))/\vs.length=ns.length/\RepL K F m xs vs
structure Wd where
 F:Hp
 H:Hp
 m:List Addr
 h:AH
structure WOk (K:Ck) (W:Wd):Prop where
 le:Same W.F W.H
 len:W.m.length=W.h.length
 nd:W.m.Nodup
 at_:∀ (n:Nat) (d:Nd) (a:Addr),W.h[n]?=some d->W.m[n]?=some a->NdAt K W.F W.H W.m d a
structure Le (K:Ck) (W W':Wd):Prop where
 ok:WOk K W'
 fs:Same W.F W'.F
 pre:W.m <+: W'.m
 keep:∀ b o,W.H b=some o->b∉W.m->W'.H b=some o
 new:∀ b o,W.H b=some o->b∉W.m->W.F b=none->W'.F b=none
 mn:∀ b∈W'.m,b∉W.m->W.H b=none
 fz:∀ (n:Nat) (ks:List Key) (xs:List PV),W.h[n]?=some (.fz ks xs)->W'.h[n]?=some (.fz ks xs)/\∀ a,W.m[n]?=some a->W'.H a=W.H a
theorem Le.refl (h:WOk K W):Le K W W:=⟨h,Same.refl _,prefix_refl _,fun _ _ e _=>e,fun _ _ _ _ e=>e,fun _ h h'=>absurd h h',fun _ _ _ e=>⟨e,fun _ _=>rfl⟩⟩
theorem Le.trans (a:Le K W g) (b:Le K g h):Le K W h where
 ok:=b.ok
 fs:=a.fs.trans b.fs
 pre:=a.pre.trans b.pre
 keep:=fun c o e n=>b.keep c o (a.keep c o e n) fun z=>by rw [a.mn c z n] at e;cases e
 new:=fun c o e n f=>b.new c o (a.keep c o e n) (fun z=>by rw [a.mn c z n] at e;cases e) (a.new c o e n f)
 mn:=fun c z n=>by
  by_cases i:c∈g.m
  .exact a.mn c i n
  .have:=b.mn c z i
   cases e:W.H c with
   | none=>rfl
   | some o=>rw [a.keep c o e n] at this;cases this
 fz:=fun n ks xs e=>by obtain ⟨p,k⟩:=a.fz n ks xs e;obtain ⟨l,m⟩:=b.fz n ks xs p;exact ⟨l,fun c j=>(m c (yeA a.pre j)).trans (k c j)⟩
abbrev ycC (K:Ck) (W:Wd) (x:PV) (v:V):Prop:=Rep K W.F W.m x v
abbrev ycD (K:Ck) (W:Wd) (x:List PV) (v:List V):Prop:=RepL K W.F W.m x v
theorem Le.rep (l:Le K W a) (h:ycC K W x v):ycC K a x v:=Rep.mono l.fs l.pre x v h
theorem Le.repL (l:Le K W a) (h:ycD K W x v):ycD K a x v:=RepL.mono l.fs l.pre x v h
theorem NdAt.mono (s:Same F g) (p:m <+: m') (b:∀ o,H a=some o->i a=some o) (c:F a=none->g a=none) (h:NdAt K F H m d a):NdAt K g i m' d a:=by
 cases d with
 | dead=>obtain ⟨o,e⟩:=h;exact ⟨o,b _ e⟩
 | lst xs=>obtain ⟨f,vs,e,r⟩:=h;exact ⟨c f,vs,b _ e,RepL.mono s p _ _ r⟩
 | dct ks xs=>obtain ⟨f,vs,e,l,r⟩:=h;exact ⟨c f,vs,b _ e,l,RepL.mono s p _ _ r⟩
 | fz ks xs=>obtain ⟨f,o,vs,e,l,r⟩:=h;exact ⟨c f,o,vs,b _ e,l,RepL.mono s p _ _ r⟩
 | ins C ns xs=>obtain ⟨f,j,vs,e,l,r⟩:=h;exact ⟨c f,j,vs,b _ e,l,RepL.mono s p _ _ r⟩
theorem NdAt.some (h:NdAt K F H m d a):∃ o,H a=some o:=by
 cases d with
 | dead=>exact h
 | lst xs=>obtain ⟨f,vs,e,r⟩:=h;exact ⟨_,e⟩
 | dct ks xs=>obtain ⟨f,vs,e,r⟩:=h;exact ⟨_,e⟩
 | fz ks xs=>obtain ⟨f,o,vs,e,r⟩:=h;exact ⟨_,e⟩
 | ins C ns xs=>obtain ⟨f,b,vs,e,r⟩:=h;exact ⟨_,e⟩
structure Good (K:Ck) (W0 W:Wd) (ρ:PSt) (Z:St):Prop where
 le:Le K W0 W
 len:Z.length=ρ.length
 val:∀ (i:Nat) (x:PV),ρ[i]?=some (.val x)->∃ v,Z[i]?=some (some v)/\ycC K W x v
 own:∀ (i:Nat) (d:Nd),ρ[i]?=some (.own d)->∃ p,Z[i]?=some (some (.ref p))/\p∉W.m/\W0.H p=none/\d≠.dead/\NdAt K W.F W.H W.m d p
 ne:∀ (i j:Nat) (d d':Nd),i≠j->ρ[i]?=some (.own d)->ρ[j]?=some (.own d')->Z[i]?≠Z[j]?
theorem Good.ok (g:Good K a W ρ Z):WOk K W:=g.le.ok
theorem Good.step (g:Good K j W ρ Z) (l:Le K W b):Good K j b ρ Z where
 le:=g.le.trans l
 len:=g.len
 val:=fun i x e=>let ⟨v,h1,h2⟩:=g.val i x e;⟨v,h1,l.rep h2⟩
 own:=fun i d e=>by
  obtain ⟨p,h1,h2,k,m,h⟩:=g.own i d e;obtain ⟨o,c⟩:=h.some;have n:p∉b.m:=fun z=>by rw [l.mn p z h2] at c;cases c
  refine ⟨p,h1,n,k,m,h.mono l.fs l.pre (fun o e=>l.keep p o e h2) fun f=>l.new p o c h2 f⟩
 ne:=g.ne
theorem WOk.some (w:WOk K W) (h:a∈W.m):∃ o,W.H a=some o:=by
 obtain ⟨n,c,e⟩:=getElem_of_mem h;have hl:n<W.h.length:=by rw [<- w.len];exact c
 exact (w.at_ n _ a (List.getElem?_eq_getElem hl) (by simp_all)).some
theorem Le.fresh (l:Le K W b) (h:b.H p=none):W.H p=none:=by
 cases e:W.H p with
 | none=>rfl
 | some o =>
  by_cases c:p∈W.m
  .obtain ⟨o,q⟩:=l.ok.some (l.pre.subset c);rw [h] at q;cases q
  .rw [l.keep p o e c] at h;cases h
theorem WOk.out (w:WOk K W) (h:W.H p=none):p∉W.m:=fun z=>by obtain ⟨o,q⟩:=w.some z;rw [h] at q;cases q
theorem WOk.ff (w:WOk K W) (h:W.H p=none):W.F p=none:=Same.free w.le h
structure Lf (K:Ck) (W W':Wd):Prop where
 fs:Same W.F W'.F
 pre:W.m <+: W'.m
 fz:∀ (n:Nat) (ks:List Key) (xs:List PV),W.h[n]?=some (.fz ks xs)->W'.h[n]?=some (.fz ks xs)/\∀ a,W.m[n]?=some a->W'.H a=W.H a
theorem Le.lf (l:Le K W a):Lf K W a:=⟨l.fs,l.pre,l.fz⟩
theorem Lf.refl:Lf K W W:=⟨Same.refl _,prefix_refl _,fun _ _ _ e=>⟨e,fun _ _=>rfl⟩⟩
theorem Lf.trans (a:Lf K W g) (b:Lf K g h):Lf K W h:=⟨a.fs.trans b.fs,a.pre.trans b.pre,fun n ks xs e=>by obtain ⟨j,l⟩:=a.fz n ks xs e;obtain ⟨i,k⟩:=b.fz n ks xs j;exact ⟨i,fun c f=>(k c (yeA a.pre f)).trans (l c f)⟩⟩
theorem Lf.rep (l:Lf K W a) (h:ycC K W x v):ycC K a x v:=Rep.mono l.fs l.pre x v h
def ybH (K:Ck) (t:TE) (e:XE):Prop:=∀ (W0 W:Wd) (ρ:PSt) (Z:St) (Q:VK) (x:PV) (h':AH),Good K W0 W ρ Z->e ρ W.h=some (x,h') ->
 (∀ v W',W'.h=h'->Le K W W'->ycC K W' x v->Q v W'.H)->t Z W.H Q
def yjr (K:Ck) (t:TT) (e:XT):Prop:=∀ (W0 W:Wd) (ρ:PSt) (Z:St) (Q:Bool->Hp->Prop) (x:Bool) (h':AH),Good K W0 W ρ Z->e ρ W.h=some (x,h') ->
 (∀ W',W'.h=h'->Le K W W'->Q x W'.H)->t Z W.H Q
def ylY (K:Ck) (t:TA) (e:XA):Prop:=∀ (W0 W:Wd) (ρ:PSt) (Z:St) (Q:List V->Hp->Prop) (x:List PV) (h':AH),Good K W0 W ρ Z->e ρ W.h=some (x,h') ->
 (∀ v W',W'.h=h'->Le K W W'->ycD K W' x v->Q v W'.H)->t Z W.H Q
def ykg (K:Ck) (t:TE) (e:XO):Prop:=∀ (W0 W:Wd) (ρ:PSt) (Z:St) (Q:VK) (d:Nd) (h':AH),Good K W0 W ρ Z->e ρ W.h=some (d,h') ->
 (∀ p W',W'.h=h'->Le K W W'->p∉W'.m->W.H p=none->d≠.dead->NdAt K W'.F W'.H W'.m d p->Q (.ref p) W'.H)->t Z W.H Q
def Ends.Ok (K:Ck) (W0 W:Wd) (D:Ends) (h':AH):Out->Prop
 | .nx ρ'=>∀ W' Z',W'.h=h'->Lf K W W'->Good K W0 W' ρ' Z'->D.nx Z' W'.H
 | .bk ρ'=>∀ W' Z',W'.h=h'->Lf K W W'->Good K W0 W' ρ' Z'->D.bk Z' W'.H
 | .ct ρ'=>∀ W' Z',W'.h=h'->Lf K W W'->Good K W0 W' ρ' Z'->D.ct Z' W'.H
 | .rt x=>∀ W' v,W'.h=h'->Le K W0 W'->ycC K W' x v->D.rt v W'.H
def yeY (K:Ck) (t:TS) (s:XS):Prop:=∀ (W0 W:Wd) (ρ:PSt) (Z:St) (D:Ends) (o:Out) (h':AH),Good K W0 W ρ Z->s ρ W.h=some (o,h')->Ends.Ok K W0 W D h' o->t D Z W.H
noncomputable def ob {Y O:Type}(o:Option (Y×AH)) (f:Y->AH->Option O):Option O:=o.bind fun q=>f q.1 q.2
theorem yj {Y O:Type}{o:Option (Y×AH)}{f:Y->AH->Option O}{b:O}(h:ob o f=some b):∃ x h',o=some (x,h')/\f x h'=some b:=by obtain ⟨⟨x,h'⟩,e,k⟩:=Option.bind_eq_some_iff.mp h;exact ⟨x,h',e,k⟩
variable {K:Ck}
noncomputable def ye (i:Nat):XE:=fun ρ h=>match ρ[i]? with|some (.val x)=>some (x,h)|_=>none
def xC (x:PV):XE:=fun _ h=>some (x,h)
noncomputable abbrev P2:=PV->PV->AH->Option (PV×AH)
noncomputable abbrev P2O:=PV->PV->AH->Option (Nd×AH)
def xOp (p:P2) (a b:XE):XE:=fun ρ h=>ob (a ρ h) fun x h1=>ob (b ρ h1) fun y h2=>p x y h2
def yuC (p:P2O) (a b:XE):XO:=fun ρ h=>ob (a ρ h) fun x h1=>ob (b ρ h1) fun y h2=>p x y h2
def xUn (p:PV->AH->Option (PV×AH)) (a:XE):XE:=fun ρ h=>ob (a ρ h) fun x h1=>p x h1
noncomputable def oB (x:PV) (h:AH):Option (Bool×AH):=match x with|.bl b=>some (b,h)|_=>none
def yfM (p p':P2) (a b c:XE):XE:=fun ρ h=>ob (a ρ h) fun x h1=>ob (b ρ h1) fun y h2=>ob (p x y h2) fun z h3=>ob (oB z h3) fun k h3=>if k=true then ob (c ρ h3) fun w h4=>p' y w h4 else some (.bl false,h3)
def yt (a:XE):XT:=fun ρ h=>ob (a ρ h) oB
def ykh (a b:XE):XE:=fun ρ h=>ob (a ρ h) fun x h1=>ob (oB x h1) fun k h1=>if k=true then b ρ h1 else some (.bl false,h1)
def yyA (a:XE):XE:=fun ρ h=>ob (a ρ h) fun x h1=>ob (oB x h1) fun k h1=>some (.bl (!k),h1)
def yyB (a b:XT):XT:=fun ρ h=>ob (a ρ h) fun k h1=>if k=true then b ρ h1 else some (false,h1)
def xOr (a b:XT):XT:=fun ρ h=>ob (a ρ h) fun k h1=>if k=true then some (true,h1) else b ρ h1
def yjs (a:XT):XT:=fun ρ h=>ob (a ρ h) fun k h1=>some (!k,h1)
def xIf (c:XT) (a b:XE):XE:=fun ρ h=>ob (c ρ h) fun k h1=>if k=true then a ρ h1 else b ρ h1
def yh:XA:=fun _ h=>some ([],h)
def yb (a:XE) (r:XA):XA:=fun ρ h=>ob (a ρ h) fun x h1=>ob (r ρ h1) fun xs h2=>some (x::xs,h2)
def yen (a:XA):XE:=fun ρ h=>ob (a ρ h) fun xs h1=>if xs.length<=1000 then some (.tup xs,h1) else none
def yeU (a:XA):XO:=fun ρ h=>ob (a ρ h) fun xs h1=>if xs.length<=1000 then some (.lst xs,h1) else none
def xFz (e:XO):XE:=fun ρ h=>ob (e ρ h) fun d h1=>match d with|.lst xs=>some (.lst xs,h1)|.ins k ns xs=>some (.ins k ns xs,h1)|_=>none
def ylr (e:XO):XE:=fun ρ h=>ob (e ρ h) fun d h1=>some (.loc h1.length,h1++[d])
def yJ (f:Fn) (a:XA):XE:=fun ρ h=>ob (a ρ h) f
def xCB (p:List PV->AH->Option (PV×AH)) (a:XA):XE:=fun ρ h=>ob (a ρ h) p
def yhX (p:List PV->AH->Option (Nd×AH)) (a:XA):XO:=fun ρ h=>ob (a ρ h) p
noncomputable abbrev PM:=PV->List PV->AH->Option (PV×AH)
def xBM (c:PV->AH->Bool) (p:PM) (o:XE) (a:XA):XE:=fun ρ h=>ob (o ρ h) fun x h1=>if c x h1=true then ob (a ρ h1) fun xs h2=>p x xs h2 else none
def yeo (e:XE):PSt->AH->Option (Option Int×AH):=fun ρ h=>ob (e ρ h) fun x h1=>match x with|.int i=>some (some i,h1)|_=>none
def yqx (p:PV->Option Int->Option Int->AH->Option (Nd×AH)) (e:XE) (lo hi:PSt->AH->Option (Option Int×AH)):XO:=fun ρ h=>ob (e ρ h) fun x h1=>ob (lo ρ h1) fun l h2=>ob (hi ρ h2) fun u h3=>p x l u h3
def yck (K:Ck) (r:R2) (p:P2):Prop:=∀ (W:Wd) (x y:PV) (v u:V) (Q:VK) (z:PV) (h':AH),WOk K W->ycC K W x v->ycC K W y u->p x y W.h=some (z,h')->(∀ w W',W'.h=h'->Le K W W'->ycC K W' z w->Q w W'.H)->r v u W.H Q
def ypS (K:Ck) (W:Wd) (d:Nd) (h':AH) (Q:VK):Prop:=∀ p W',W'.h=h'->Le K W W'->p∉W'.m->W.H p=none->d≠.dead->NdAt K W'.F W'.H W'.m d p->Q (.ref p) W'.H
def yoI (K:Ck) (r:R2) (p:P2O):Prop:=∀ (W:Wd) (x y:PV) (v u:V) (Q:VK) (d:Nd) (h':AH),WOk K W->ycC K W x v->ycC K W y u->p x y W.h=some (d,h')->ypS K W d h' Q->r v u W.H Q
def yyC (K:Ck) (r:V->Hp->VK->Prop) (p:PV->AH->Option (PV×AH)):Prop:=∀ (W:Wd) (x:PV) (v:V) (Q:VK) (z:PV) (h':AH),WOk K W->ycC K W x v->p x W.h=some (z,h')->(∀ w W',W'.h=h'->Le K W W'->ycC K W' z w->Q w W'.H)->r v W.H Q
def yhY (K:Ck) (r:List V->Hp->VK->Prop) (p:List PV->AH->Option (PV×AH)):Prop:=∀ (W:Wd) (xs:List PV) (vs:List V) (Q:VK) (z:PV) (h':AH),WOk K W->ycD K W xs vs->p xs W.h=some (z,h')->(∀ w W',W'.h=h'->Le K W W'->ycC K W' z w->Q w W'.H)->r vs W.H Q
def yrm (K:Ck) (r:List V->Hp->VK->Prop) (p:List PV->AH->Option (Nd×AH)):Prop:=∀ (W:Wd) (xs:List PV) (vs:List V) (Q:VK) (d:Nd) (h':AH),WOk K W->ycD K W xs vs->p xs W.h=some (d,h')->ypS K W d h' Q->r vs W.H Q
def yiU (K:Ck) (T:String) (c:PV->AH->Bool) (r:V->List V->Hp->VK->Prop) (p:PM):Prop :=
 (∀ (W:Wd) (x:PV) (v:V),WOk K W->ycC K W x v->c x W.h=true->tyV K.K T v W.H) /\
 ∀ (W:Wd) (x:PV) (v:V) (xs:List PV) (vs:List V) (Q:VK) (z:PV) (h':AH),WOk K W->ycC K W x v->ycD K W xs vs->p x xs W.h=some (z,h')->(∀ w W',W'.h=h'->Le K W W'->ycC K W' z w->Q w W'.H)->r v vs W.H Q
theorem yyD i:ybH K (yqw i) (ye i):=by
 intro c W ρ Z Q x h' g e q;unfold ye at e;split at e
 .rename_i y b;cases e;obtain ⟨v,h1,h2⟩:=g.val i _ b;exact ⟨v,h1,q v W rfl (.refl g.ok) h2⟩
 .cases e
theorem ypT (h:∀ W,ycC K W x v):ybH K (tC v) (xC x):=by intro b W ρ Z Q y h' g e q;cases e;exact q v W rfl (.refl g.ok) (h W)
theorem yrn:ybH K (tC (.int i)) (xC (.int i)):=ypT fun _=>rfl
theorem yro:ybH K (tC (.str i)) (xC (.str i)):=ypT fun _=>rfl
theorem yCc:ybH K (tC (.bl i)) (xC (.bl i)):=ypT fun _=>rfl
theorem yyE:ybH K (tC .non) (xC .non):=ypT fun _=>rfl
theorem yCd:ybH K (tC (.ty n)) (xC (.ty n)):=ypT fun _=>rfl
theorem yyF:ybH K (tC (.ref (K.A k))) (xC (.cls k)):=ypT fun _=>rfl
section
variable {ta tb tc:TE}{ea eb ec:XE}{t:TA}{e:XA}
theorem yoJ (o:yck K r p) (a:ybH K ta ea) (b:ybH K tb eb):ybH K (tOp r ta tb) (xOp p ea eb):=by
 intro h W ρ Z Q z h' g e q;obtain ⟨x,h1,A,D⟩:=yj e;obtain ⟨y,h2,l,E⟩:=yj D;refine a h W ρ Z _ x h1 g A fun v F j f m=>?_
 subst j;refine b h F ρ Z _ y h2 (g.step f) l fun u s k d r2=>?_
 subst k;exact o s x y v u Q z h' d.ok (d.rep m) r2 E fun w B C i n=>q w B C (f.trans (d.trans i)) n
theorem ygX {Q:VK}(l:Le K W b) (q:ypS K W d h' Q):ypS K b d h' Q:=fun p c e l' n f=>q p c e (l.trans l') n (l.fresh f)
theorem yyG (o:yoI K r p) (a:ybH K ta ea) (b:ybH K tb eb):ykg K (tOp r ta tb) (yuC p ea eb):=by
 intro h W ρ Z Q z h' g e q;obtain ⟨x,h1,m,n⟩:=yj e;obtain ⟨y,h2,A,l⟩:=yj n;refine a h W ρ Z _ x h1 g m fun v k s f i=>?_
 subst s;refine b h k ρ Z _ y h2 (g.step f) A fun u j w d r2=>?_
 subst w;exact o j x y v u Q z h' d.ok (d.rep i) r2 l (ygX (f.trans d) q)
theorem yCe {r} {p} (o:yyC K r p) (a:ybH K ta ea):ybH K (tUn r ta) (xUn p ea):=by
 intro i W ρ Z Q z h' g e q;obtain ⟨x,h1,s,m⟩:=yj e;refine a i W ρ Z _ x h1 g s fun v k n c d=>?_
 subst n;exact o k x v Q z h' c.ok d m fun w f h j l=>q w f h (c.trans j) l
theorem yki (e:oB x h=some (k,h')):x=.bl k/\h'=h:=by unfold oB at e;grind
theorem ylZ (o:yck K r p) (X:yck K s D) (a:ybH K ta ea) (b:ybH K tb eb) (c:ybH K tc ec):ybH K (yqT r s ta tb tc) (yfM p D ea eb ec):=by
 intro m W ρ d Q z h' g e q;obtain ⟨x,h1,T,F⟩:=yj e;obtain ⟨y,h2,e2,f2⟩:=yj F;obtain ⟨z',h3,e3,f3⟩:=yj f2;obtain ⟨k,I,j,i⟩:=yj f3;obtain ⟨rfl,rfl⟩:=yki j;refine a m W ρ d _ x h1 g T fun v W1 G C J=>?_
 subst G;refine b m W1 ρ d _ y h2 (g.step C) e2 fun u O H h r2=>?_
 subst H;refine o O x y v u _ _ _ h.ok (h.rep J) r2 e3 fun w n R A N=>⟨k,N,?_⟩
 subst R;have l:=C.trans (h.trans A);cases k with
 | false =>
  rw [if_neg (by decide)] at i ⊢;cases i;exact q _ n rfl l rfl
 | true =>
  obtain ⟨B,S,Z,M⟩:=yj i;refine c m n ρ d _ B S (g.step l) Z fun Y P w4 f r4=>?_
  subst w4;exact X P y B u Y Q z h' f.ok ((A.trans f).rep r2) r4 M fun w W5 E L U=>q w W5 E (l.trans (f.trans L)) U
theorem yhH (a:ybH K ta ea):yjr K (yyk ta) (yt ea):=by intro d W ρ Z Q k h' g e q;obtain ⟨x,h1,l,i⟩:=yj e;obtain ⟨rfl,rfl⟩:=yki i;exact a d W ρ Z _ _ _ g l fun v f j h c=>⟨k,c,q f j h⟩
theorem yCf (a:ybH K ta ea):yjr K (tB ta) (yt ea):=yhH a
theorem yuD (a:ybH K ta ea) (b:ybH K tb eb):ybH K (yBF ta tb) (ykh ea eb):=by
 intro i W ρ Z Q z h' g e q;obtain ⟨x,h1,u,p⟩:=yj e;obtain ⟨k,n,f,h⟩:=yj p;obtain ⟨rfl,rfl⟩:=yki f;refine a i W ρ Z _ _ _ g u fun v j r d l=>⟨k,l,?_⟩
 subst r;cases k with
 | false =>
  cases h;exact q _ j rfl d rfl
 | true =>
  exact b i j ρ Z _ z h' (g.step d) h fun v o s m r2=>q v o s (d.trans m) r2
theorem yuE (a:ybH K ta ea):ybH K (yBG ta) (yyA ea):=by intro h W ρ Z Q z h' g e q;obtain ⟨x,h1,f,m⟩:=yj e;obtain ⟨k,o,c,j⟩:=yj m;obtain ⟨rfl,rfl⟩:=yki c;cases j;exact a h W ρ Z _ _ _ g f fun v i n l d=>⟨k,d,q _ i n l rfl⟩
section
variable {tA tB':TT}{eA eB:XT}
theorem yyH (a:yjr K tA eA) (b:yjr K tB' eB):yjr K (yHc tA tB') (yyB eA eB):=by
 intro d W ρ Z Q z h' g e q;obtain ⟨k,h1,l,m⟩:=yj e;refine a d W ρ Z _ _ _ g l fun j n f=>?_
 subst n;cases k with
 | false =>
  grind
 | true =>
  exact b d j ρ Z _ z h' (g.step f) m fun i o h=>q i o (f.trans h)
theorem yCg (a:yjr K tA eA) (b:yjr K tB' eB):yjr K (tOr tA tB') (xOr eA eB):=by
 intro d W ρ Z Q z h' g e q;obtain ⟨k,h1,l,m⟩:=yj e;refine a d W ρ Z _ _ _ g l fun j n f=>?_
 subst n;cases k with
 | true =>
  grind
 | false =>
  exact b d j ρ Z _ z h' (g.step f) m fun i o h=>q i o (f.trans h)
theorem yyI (a:yjr K tA eA):yjr K (yFe tA) (yjs eA):=by intro W0 W ρ Z Q z h' g e q;obtain ⟨k,h1,e1,f1⟩:=yj e;cases f1;exact a W0 W ρ Z _ _ _ g e1 fun W1 w1 l1=>q W1 w1 l1
theorem yCh (c:yjr K tA eA) (a:ybH K ta ea) (b:ybH K tb eb):ybH K (tIf tA ta tb) (xIf eA ea eb):=by
 intro j W ρ Z Q z h' g e q;obtain ⟨k,h1,o,m⟩:=yj e;refine c j W ρ Z _ _ _ g o fun n p f=>?_
 subst p;cases k with
 | true =>
  exact a j n ρ Z _ z h' (g.step f) m fun v i l h r2=>q v i l (f.trans h) r2
 | false =>
  exact b j n ρ Z _ z h' (g.step f) m fun v i l h r2=>q v i l (f.trans h) r2
end
theorem ykj:ylY K ywR yh:=by intro b W ρ Z Q z h' g e q;cases e;exact q [] W rfl (.refl g.ok) rfl
theorem yuF (a:ybH K ta ea) (r:ylY K t e):ylY K (yng ta t) (yb ea e):=by
 intro d W ρ Z Q z h' g e q;obtain ⟨x,h1,o,l⟩:=yj e;obtain ⟨xs,h2,k,j⟩:=yj l;cases j;refine a d W ρ Z _ x h1 g o fun v i m c h=>?_
 subst m;exact r d i ρ Z _ xs _ (g.step c) k fun vs W2 n f r2=>q _ W2 n (c.trans f) ⟨v,vs,rfl,f.rep h,r2⟩
def yyJ (W:Wd) (p:Addr) (o:HO):Wd:=⟨upd W.F p o,upd W.H p o,W.m,W.h⟩
theorem yrp (w:WOk K W) (h:W.H p=none):Le K W (yyJ W p o):=by
 have k:=w.out h;have q:=w.ff h;have m:=ydT q o;refine ⟨⟨?_,w.len,w.nd,fun n d a i g=>?_⟩,m,prefix_refl _,fun b u e _=>ydT h o b u e,fun b u e _ f=>?_,fun b z n=>absurd z n,fun n ks xs i=>⟨i,fun a g=>yL fun z=>k (z ▸ mem_of_getElem? g)⟩⟩
 .intro b u e;show upd W.H p o b=some u
  by_cases j:b=p
  .subst j;rw [show (yyJ W b o).F b=upd W.F b o b from rfl,yK] at e;rw [yK];exact e
  .rw [show (yyJ W p o).F b=upd W.F p o b from rfl,yL j] at e;rw [yL j];exact w.le _ _ e
 .have l:a≠p:=fun z=>k (z ▸ mem_of_getElem? g)
  exact (w.at_ n d a i g).mono m (prefix_refl _) (fun u e=>by rw [show (yyJ W p o).H a=upd W.H p o a from rfl,yL l];exact e) fun f=>(yL l).trans f
 .have:=yby e h
  rw [show (yyJ W p o).F b=upd W.F p o b from rfl,yL this];exact f
def yjt (W:Wd) (p:Addr) (o:HO):Wd:=⟨W.F,upd W.H p o,W.m,W.h⟩
theorem ydt (w:WOk K W) (h:W.H p=none):Le K W (yjt W p o):=by
 have j:=w.out h;refine ⟨⟨?_,w.len,w.nd,fun n d a g i=>?_⟩,Same.refl _,prefix_refl _,fun b u e _=>ydT h o b u e,fun b u e _ f=>f,fun b z n=>absurd z n,fun n ks xs g=>⟨g,fun a i=>yL fun z=>j (z ▸ mem_of_getElem? i)⟩⟩
 .exact fun b u e=>ydT h o b u (w.le _ _ e)
 .exact (w.at_ n d a g i).mono (Same.refl _) (prefix_refl _) (fun u e=>ydT h o _ _ e) id
theorem small (h:n<=1000):n<=sizeLine:=le_of_lt (ylF h)
theorem yyK (a:ylY K t e):ybH K (yHk t) (yen e):=by
 intro i W ρ Z Q z h' g e q;obtain ⟨xs,h1,l,c⟩:=yj e;split at c
 .rename_i hl;cases c;refine a i W ρ Z _ xs _ g l fun vs j k f d=>⟨small (by rw [d.len];exact hl),fun p hp=>?_⟩
  have h:=yrp (o:=.tup vs) f.ok hp;exact q _ (yyJ j p _) k (f.trans h) ⟨p,vs,rfl,.inl yK,h.repL d⟩
 .cases c
theorem yyL (a:ylY K t e):ykg K (yHl t) (yeU e):=by
 intro l W ρ Z Q z h' g e q;obtain ⟨xs,h1,j,d⟩:=yj e;split at d
 .rename_i hl;cases d;refine a l W ρ Z _ xs _ g j fun vs h k c f=>⟨small (by rw [f.len];exact hl),fun p hp=>?_⟩
  have i:=ydt (o:=.lst vs) c.ok hp;exact q p (yjt h p _) k (c.trans i) (c.ok.out hp) (c.fresh hp) (fun z=>by cases z) ⟨c.ok.ff hp,vs,yK,f⟩
 .cases d
def yuG (W:Wd) (p:Addr) (o:HO):Wd:=⟨upd W.F p o,W.H,W.m,W.h⟩
theorem yrq (w:WOk K W) (h:W.H p=some o) (l:p∉W.m) (m:W.F p=none):WOk K (yuG W p o)/\Same W.F (upd W.F p o):=by
 have i:=ydT m o;refine ⟨⟨?_,w.len,w.nd,fun n d a q j=>?_⟩,i⟩
 .intro b u e
  by_cases g:b=p
  .subst g;rw [show (yuG W b o).F b=upd W.F b o b from rfl,yK] at e;cases e;exact h
  .rw [show (yuG W p o).F b=upd W.F p o b from rfl,yL g] at e;exact w.le _ _ e
 .have k:a≠p:=fun z=>l (z ▸ mem_of_getElem? j)
  exact (w.at_ n d a q j).mono i (prefix_refl _) (fun u e=>e) fun f=>(yL k).trans f
theorem ynC (l:Le K W c) (h:c.H p=some o) (j:p∉c.m) (g:c.F p=none) (d:W.H p=none):Le K W (yuG c p o):=by obtain ⟨k,i⟩:=yrq l.ok h j g;refine ⟨k,l.fs.trans i,l.pre,l.keep,fun b u e n f=>?_,l.mn,l.fz⟩;have:=yby e d;rw [show (yuG c p o).F b=upd c.F p o b from rfl,yL this];exact l.new b u e n f
theorem yCi (a:ykg K ta o):ybH K ta (xFz o):=by
 intro u W ρ Z Q z h' g e q;obtain ⟨d,h1,v,h⟩:=yj e;refine a u W ρ Z _ d h1 g v fun p l m k n j w f=>?_
 split at h
 .cases h;obtain ⟨c,vs,hp,r⟩:=f;have i:=ynC k hp n c j;exact q _ (yuG l p _) m i ⟨p,vs,rfl,yK,RepL.mono (ydT c _) (prefix_refl _) _ _ r⟩
 .cases h;obtain ⟨c,s,vs,hp,hl,r⟩:=f;have i:=ynC k hp n c j;exact q _ (yuG l p _) m i ⟨p,s,vs,rfl,yK,hl,RepL.mono (ydT c _) (prefix_refl _) _ _ r⟩
 .cases h
theorem yyM (a:ykg K ta o):ybH K ta (ylr o):=by
 intro y W ρ Z Q z h' g e q;obtain ⟨d,h1,i,l⟩:=yj e;cases l;refine a y W ρ Z _ d h1 g i fun p f x h A w hd r=>?_
 subst x;have pre:f.m <+: f.m++[p]:=List.prefix_append _ _;refine q (.ref p) ⟨f.F,f.H,f.m++[p],f.h++[d]⟩ rfl ⟨⟨h.ok.le,?_,?_,fun n d' a i j=>?_⟩,h.fs,h.pre.trans pre,h.keep,h.new,fun b z n=>?_,fun n ks xs i=>⟨by have:=(h.fz n ks xs i).1;show (f.h++[d])[n]?=_;rw [getElem?_append_left (List.getElem?_eq_some_iff.mp this).1];exact this,(h.fz n ks xs i).2⟩⟩ ⟨p,rfl,?_⟩
 .show (f.m++[p]).length=(f.h++[d]).length;rw [length_append,length_append,h.ok.len];rfl
 .show (f.m++[p]).Nodup;rw [List.nodup_append];refine ⟨h.ok.nd,by simp,?_⟩;intro a v b u;simp at u;subst u;exact fun z=>A (z ▸ v)
 .have i:(f.h++[d])[n]?=some d':=i;have j:(f.m++[p])[n]?=some a:=j
  by_cases m:n<f.h.length
  .rw [getElem?_append_left m] at i;rw [getElem?_append_left (by rw [h.ok.len];exact m)] at j;exact (h.ok.at_ n d' a i j).mono (Same.refl _) pre (fun _ l=>l) id
  .rw [getElem?_append_right (by omega)] at i;rw [getElem?_append_right (by rw [h.ok.len];omega)] at j;rw [h.ok.len] at j;cases s:n-f.h.length with
   | zero =>
    rw [s] at i j;simp at i j;subst i j;exact r.mono (Same.refl _) pre (fun _ l=>l) id
   | succ k=>rw [s] at i;simp at i
 .have z:b∈f.m++[p]:=z;rcases List.mem_append.mp z with z|z
  .exact h.mn b z n
  .simp at z;subst z;exact w
 .show (f.m++[p])[f.h.length]?=some p;rw [<- h.ok.len];simp
def spE (K:Ck) (n:Nat) (f:Fn):Sp:=fun vs H Q _=>∃ (W:Wd) (xs:List PV) (x:PV) (h':AH),W.H=H/\WOk K W/\ycD K W xs vs/\xs.length=n/\f xs W.h=some (x,h')/\∀ v W',W'.h=h'->Le K W W'->ycC K W' x v->Q v W'.H
theorem yuH (a:ylY K t e) (l:∀ ρ h xs h',e ρ h=some (xs,h')->xs.length=n):ybH K (yup (spE K n f) [] r t) (yJ f e):=by
 intro o W ρ Z Q z h' g j q;obtain ⟨xs,h1,d,m⟩:=yj j;refine a o W ρ Z _ xs h1 g d fun vs p s c i=>?_
 subst s;rw [append_nil];exact ⟨p,xs,z,h',rfl,c.ok,i,l _ _ _ _ d,m,fun v w u k r2=>q v w u (c.trans k) r2⟩
theorem ynD:∀ ρ h xs h',yh ρ h=some (xs,h')->xs.length=0:=fun ρ h xs h' e=>by cases e;rfl
theorem yuI (l:∀ ρ h xs h',e ρ h=some (xs,h')->xs.length=n):∀ ρ h xs h',yb ea e ρ h=some (xs,h')->xs.length=n+1:=fun ρ h xs h' q=>by obtain ⟨x,h1,c,q⟩:=yj q;obtain ⟨ys,h2,b,q⟩:=yj q;grind
theorem ywY {r} {p} (o:yhY K r p) (a:ylY K t e):ybH K (tCB r t) (xCB p e):=by
 intro j W ρ Z Q z h' g f q;obtain ⟨xs,h1,h,i⟩:=yj f;refine a j W ρ Z _ xs h1 g h fun vs k m c d=>?_
 subst m;exact o k xs vs Q z h' c.ok d i fun v s n l r2=>q v s n (c.trans l) r2
theorem yyN {r} {p} (o:yrm K r p) (a:ylY K t e):ykg K (tCB r t) (yhX p e):=by
 intro h W ρ Z Q z h' g j q;obtain ⟨xs,h1,l,f⟩:=yj j;refine a h W ρ Z _ xs h1 g l fun vs i k c d=>?_
 subst k;exact o i xs vs Q z h' c.ok d f (ygX c q)
theorem ywZ {c} {r} {p} (o:yiU K T c r p) (b:ybH K ta ea) (a:ylY K t e):ybH K (tBM K.K T r ta t) (xBM c p ea e):=by
 intro l W ρ Z Q z h' g n q;obtain ⟨x,h1,A,i⟩:=yj n;split at i
 .rename_i D;obtain ⟨xs,h2,G,F⟩:=yj i;refine b l W ρ Z _ x h1 g A fun v m k f j=>⟨o.1 m x v f.ok j (by rw [k];exact D),?_⟩
  subst k;refine a l m ρ Z _ xs h2 (g.step f) G fun vs y E h r2=>?_
  subst E;exact o.2 y x v xs vs Q z h' h.ok (h.rep j) r2 F fun w B C s u=>q w B C (f.trans (h.trans s)) u
 .cases i
theorem yyO {c} {r} {p} (o:yiU K T c r p) (b:ybH K ta ea):ybH K (yFr K.K T r ta) (xBM c p ea yh):=ywZ o b ykj
end
def yCj (K:Ck) (t:TO) (e:PSt->AH->Option (Option Int×AH)):Prop:=∀ (W0 W:Wd) (ρ:PSt) (Z:St) (Q:Option Int->Hp->Prop) (x:Option Int) (h':AH),Good K W0 W ρ Z->e ρ W.h=some (x,h') ->
 (∀ W',W'.h=h'->Le K W W'->Q x W'.H)->t Z W.H Q
theorem yuJ (a:ybH K f d):yCj K (yBU f) (yeo d):=by
 intro n W ρ Z Q z h' g e q;obtain ⟨x,h1,l,c⟩:=yj e;split at c
 .rename_i i;cases c;exact a n W ρ Z _ _ _ g l fun v j m k h=>⟨i,h,q j m k⟩
 .cases c
def yrr (K:Ck) (r:V->Option Int->Option Int->Hp->VK->Prop) (p:PV->Option Int->Option Int->AH->Option (Nd×AH)):Prop:=∀ (W:Wd) (x:PV) (v:V) (lo hi:Option Int) (Q:VK) (d:Nd) (h':AH),WOk K W->ycC K W x v->p x lo hi W.h=some (d,h')->ypS K W d h' Q->r v lo hi W.H Q
theorem yyP {r} {p} {s m} (o:yrr K r p) (a:ybH K t k) (b:yCj K tl s) (c:yCj K n m):ykg K (tSl r t tl n) (yqx p k s m):=by
 intro h W ρ Z Q z h' g e q;obtain ⟨x,h1,D,G⟩:=yj e;obtain ⟨l,h2,F,J⟩:=yj G;obtain ⟨u,C,y,w⟩:=yj J;refine a h W ρ Z _ x h1 g D fun v L I j A=>?_
 subst I;refine b h L ρ Z _ l h2 (g.step j) F fun B M f=>?_
 subst M;refine c h B ρ Z _ u C (g.step (j.trans f)) y fun E H i=>?_
 subst H;exact o E x v l u Q z h' i.ok ((f.trans i).rep A) w (ygX (j.trans (f.trans i)) q)
end PX
namespace PX
open PySem L2
variable {K:Ck}
def yS:XS:=fun ρ h=>some (.nx ρ,h)
def ym (s u:XS):XS:=fun ρ h=>ob (s ρ h) fun o h1=>match o with|.nx ρ'=>u ρ' h1|.rt x=>some (.rt x,h1)|.bk ρ'=>some (.bk ρ',h1)|.ct ρ'=>some (.ct ρ',h1)
def ybf (e:XE):XS:=fun ρ h=>ob (e ρ h) fun _ h1=>some (.nx ρ,h1)
def yO (e:XE):XS:=fun ρ h=>ob (e ρ h) fun x h1=>some (.rt x,h1)
def ybG (c:XT) (s u:XS):XS:=fun ρ h=>ob (c ρ h) fun k h1=>if k=true then s ρ h1 else u ρ h1
abbrev XG:=PV->PSt->Option PSt
noncomputable abbrev XGs:=List PV->PSt->Option PSt
noncomputable def yv (i:Nat):XG:=fun x ρ=>some (ρ.set i (.val x))
def yEN:XGs:=fun xs ρ=>match xs with|[]=>some ρ|_=>none
noncomputable def yrs (g:XG) (r:XGs):XGs:=fun xs ρ=>match xs with|[]=>none|x::xs=>(g x ρ).bind fun ρ'=>r xs ρ'
noncomputable def yCk (n:Nat) (g:XGs):XG:=fun x ρ=>match x with|.tup xs=>if xs.length=n then g xs ρ else none|_=>none
def ybs (e:XE) (g:XG):XS:=fun ρ h=>ob (e ρ h) fun x h1=>(g x ρ).bind fun ρ'=>some (.nx ρ',h1)
def ygb (e:XO) (i:Nat):XS:=fun ρ h=>ob (e ρ h) fun d h1=>some (.nx (ρ.set i (.own d)),h1)
noncomputable def yuK:PVar->PVar
 | .own (.lst xs)=>.val (.lst xs)
 | .own (.ins k ns xs)=>.val (.ins k ns xs)
 | v=>v
def ynE (i:Nat) (ρ:PSt):PSt:=ρ.modify i yuK
def yrt (i:Nat) (s:XS):XS:=fun ρ h=>s (ynE i ρ) h
def yeV (i:Nat) (e:XE):XS:=fun ρ h=>match ρ[i]? with
 | some (.own (.lst xs))=>ob (e ρ h) fun x h1=>if xs.length<100000 then some (.nx (ρ.set i (.own (.lst (xs++[x])))),h1) else none
 | _=>none
def ygc (g:XG) (s:XS):List PV->PSt->AH->Option (Out×AH)
 | [],ρ,h=>some (.nx ρ,h)
 | x::xs,ρ,h=>(g x ρ).bind fun ρ1=>ob (s ρ1 h) fun o h1=>match o with|.nx ρ'=>ygc g s xs ρ' h1|.ct ρ'=>ygc g s xs ρ' h1|.bk ρ'=>some (.nx ρ',h1)|.rt y=>some (.rt y,h1)
def yiV (it:XA) (g:XG) (s:XS):XS:=fun ρ h=>ob (it ρ h) fun xs h1=>ygc g s xs ρ h1
def whl (c:XT) (s:XS):Nat->PSt->AH->Option (Out×AH)
 | 0,_,_=>none
 | n+1,ρ,h=>ob (c ρ h) fun k h1=>if k=true then ob (s ρ h1) fun o h2=>(match o with|.nx ρ'=>whl c s n ρ' h2|.ct ρ'=>whl c s n ρ' h2|.bk ρ'=>some (.nx ρ',h2)|.rt y=>some (.rt y,h2)) else some (.nx ρ,h1)
def ydy (fuel:Nat) (c:XT) (s:XS):XS:=fun ρ h=>whl c s fuel ρ h
def ybg (N:Nat) (s:XS):Fn:=fun xs h=>ob (s (xs.map .val++replicate (N-xs.length) .no) h) fun o h1=>match o with|.rt x=>some (x,h1)|.nx _=>some (.non,h1)|_=>none
noncomputable def yoK (ρ:PSt) (i:Nat):PVar:=match ρ[i]? with|some (.val y)=>.val y|_=>.no
def ygU (ix:List Nat) (ρ:PSt) (x:PV):PSt:=.val x::ix.map (yoK ρ)
def yls (e:XE) (inn:PV->PSt):List PV->AH->Option (List PV×AH)
 | [],h=>some ([],h)
 | x::xs,h=>ob (e (inn x) h) fun y h1=>ob (yls e inn xs h1) fun ys h2=>some (y::ys,h2)
def yfd (it:XA) (ix:List Nat) (e:XE):XO:=fun ρ h=>ob (it ρ h) fun xs h1=>if xs.length<=100000 then ob (yls e (ygU ix ρ) xs h1) fun ys h2=>some (.lst ys,h2) else none
theorem Ends.Ok.from_ (l:Lf K W f) (k:Ends.Ok K d W D h' o):Ends.Ok K d f D h' o:=by
 cases o with
 | nx ρ=>exact fun c b e l' g=>k c b e (l.trans l') g
 | bk ρ=>exact fun c b e l' g=>k c b e (l.trans l') g
 | ct ρ=>exact fun c b e l' g=>k c b e (l.trans l') g
 | rt x=>exact k
section
variable {ta tb:TE}{ea eb:XE}{t u:TS}{s s':XS}{tA:TT}{eA:XT}
theorem yuL:yeY K yBK yS:=by intro a W ρ Z D o h' g e q;cases e;exact q W Z rfl .refl g
theorem yyQ (a:yeY K t s) (b:yeY K u s'):yeY K (yFg t u) (ym s s'):=by
 intro h W ρ Z D o h' g e q;obtain ⟨o1,h1,i,d⟩:=yj e;refine a h W ρ Z _ o1 h1 g i ?_;cases o1 with
 | nx ρ'=>exact fun j f w l g'=>b h j ρ' f D o h' g' (by rw [w];exact d) (q.from_ l)
 | rt x=>cases d;exact q
 | bk ρ'=>cases d;exact q
 | ct ρ'=>cases d;exact q
theorem yuM (a:ybH K ta ea):yeY K (yqF ta) (ybf ea):=by intro j W ρ Z D o h' g e q;obtain ⟨x,h1,d,i⟩:=yj e;cases i;exact a j W ρ Z _ x _ g d fun v f h c k=>q f Z h c.lf (g.step c)
theorem yyR (a:ybH K ta ea):yeY K (yHd ta) (yO ea):=by intro d W ρ Z D o h' g e q;obtain ⟨x,h1,k,i⟩:=yj e;cases i;exact a d W ρ Z _ x _ g k fun v f j h c=>q f v j (g.le.trans h) c
theorem yyS (c:yjr K tA eA) (a:yeY K t s) (b:yeY K u s'):yeY K (yHe tA t u) (ybG eA s s'):=by
 intro h W ρ Z D o h' g e q;obtain ⟨k,h1,l,j⟩:=yj e;refine c h W ρ Z _ k h1 g l fun i m f=>?_
 subst m;cases k with
 | true =>
  exact a h i ρ Z D o h' (g.step f) j (q.from_ f.lf)
 | false =>
  exact b h i ρ Z D o h' (g.step f) j (q.from_ f.lf)
theorem Good.set (g:Good K h W ρ Z) i {x:PV}{v:V}(r:ycC K W x v):Good K h W (ρ.set i (.val x)) (Z.set i (some v)) where
 le:=g.le
 len:=by simp [g.len]
 val:=fun j y e=>by
  by_cases b:i=j
  .subst b
   by_cases hl:i<ρ.length
   .rw [getElem?_set_self hl] at e;cases e;exact ⟨v,getElem?_set_self (by rw [g.len];exact hl),r⟩
   .simp_all
  .rw [getElem?_set_ne b] at e;obtain ⟨w,h1,h2⟩:=g.val j y e;exact ⟨w,by rw [getElem?_set_ne b];exact h1,h2⟩
 own:=fun j d e=>by
  by_cases b:i=j
  .subst b
   by_cases hl:i<ρ.length
   .simp_all
   .simp_all
  .rw [getElem?_set_ne b] at e;obtain ⟨p,h1,h2⟩:=g.own j d e;exact ⟨p,by rw [getElem?_set_ne b];exact h1,h2⟩
 ne:=fun j k d d' c m o=>by
  have f:∀ {j:Nat}{d:Nd},(ρ.set i (.val x))[j]?=some (.own d)->i≠j/\ρ[j]?=some _:=fun {j d} e=>by
   by_cases b:i=j
   .subst b
    by_cases hl:i<ρ.length
    .simp_all
    simp_all
   .rw [getElem?_set_ne b] at e;exact ⟨b,e⟩
  obtain ⟨a1,a2⟩:=f m;obtain ⟨n,l⟩:=f o;rw [getElem?_set_ne a1,getElem?_set_ne n];exact g.ne j k d d' c a2 l
theorem Good.setO (g:Good K o W ρ Z) (i:Nat) (q:p∉W.m) (r:o.H p=none) (hd:d≠.dead) (n:NdAt K W.F W.H W.m d p)
  (ne:∀ j d',i≠j->ρ[j]?=some (.own d')->Z[j]?≠some (some (.ref p))):Good K o W (ρ.set i (.own d)) (Z.set i (some (.ref p))) where
 le:=g.le
 len:=by simp [g.len]
 val:=fun j y e=>by
  by_cases b:i=j
  .subst b
   by_cases hl:i<ρ.length
   .simp_all
   simp_all
  .rw [getElem?_set_ne b] at e;obtain ⟨w,h1,h2⟩:=g.val j y e;exact ⟨w,by rw [getElem?_set_ne b];exact h1,h2⟩
 own:=fun j d' e=>by
  by_cases b:i=j
  .subst b
   by_cases hl:i<ρ.length
   .rw [getElem?_set_self hl] at e;cases e;exact ⟨p,getElem?_set_self (by rw [g.len];exact hl),q,r,hd,n⟩
   simp_all
  .rw [getElem?_set_ne b] at e;obtain ⟨p,h1,h2⟩:=g.own j d' e;exact ⟨p,by rw [getElem?_set_ne b];exact h1,h2⟩
 ne:=fun j k d1 d2 h m l=>by
  have c:∀ {j:Nat}{d':Nd},i=j->(ρ.set i (.own d))[j]?=some (.own d')->(Z.set i (some (.ref p)))[j]?=some (some (.ref p)):=fun {j d'} b e=>by
   subst b
   by_cases hl:i<ρ.length
   .exact getElem?_set_self (by rw [g.len];exact hl)
   simp_all
  by_cases b:i=j
  .have f:i≠k:=fun z=>h (b.symm.trans z)
   rw [c b m,getElem?_set_ne f];rw [getElem?_set_ne f] at l;exact (ne k d2 f l).symm
  .rw [getElem?_set_ne b];rw [getElem?_set_ne b] at m
   by_cases f:i=k
   .rw [c f l];exact ne j d1 b m
   .rw [getElem?_set_ne f] at l ⊢;exact g.ne j k d1 d2 h m l
def ypU (K:Ck) (g:TG) (y:XG):Prop:=∀ (W0 W:Wd) (ρ ρ':PSt) (Z:St) (x:PV) (v:V) (Q:St->Hp->Prop),Good K W0 W ρ Z->ycC K W x v->y x ρ=some ρ'->(∀ Z',Good K W0 W ρ' Z'->Q Z' W.H)->g v Z W.H Q
def ypV (K:Ck) (g:TGs) (y:XGs):Prop:=∀ (W0 W:Wd) (ρ ρ':PSt) (Z:St) (x:List PV) (v:List V) (Q:St->Hp->Prop),Good K W0 W ρ Z->ycD K W x v->y x ρ=some ρ'->(∀ Z',Good K W0 W ρ' Z'->Q Z' W.H)->g v Z W.H Q
theorem yma i:ypU K (ynd i) (yv i):=by intro b W ρ ρ' Z x v Q g r e q;cases e;exact q _ (g.set i r)
theorem yuN:ypV K yFj yEN:=by
 intro W0 W ρ ρ' Z x v Q g r e q;cases x with
 | nil=>cases e;exact ⟨r,q _ g⟩
 | cons _ _=>cases e
theorem yru (a:ypU K g y) (b:ypV K f ys):ypV K (yug g f) (yrs y ys):=by
 intro h W ρ ρ' Z x v Q j r e q;cases x with
 | nil=>cases e
 | cons x xs =>
  obtain ⟨v1,vs,rfl,i,r2⟩:=r;obtain ⟨ρ1,l,k⟩:=Option.bind_eq_some_iff.mp e;exact ⟨v1,vs,rfl,a h W ρ ρ1 Z x v1 _ j i l fun d g'=>b h W ρ1 ρ' d xs vs Q g' r2 k q⟩
theorem yuO (b:ypV K f ys):ypU K (yEJ K.K n f) (yCk n ys):=by
 intro i W ρ ρ' Z x v Q g r e q;unfold yCk at e;split at e
 .rename_i xs;split at e
  .rename_i hl;obtain ⟨a,vs,rfl,hs,d⟩:=r;exact ⟨a,vs,rfl,hs.elim (fun h=>SqT.of (g.ok.le _ _ h)) .inr,by rw [d.len];exact hl,b i W ρ ρ' Z xs vs Q g d e q⟩
  .cases e
 .cases e
theorem yrv (a:ybH K ta ea) (b:ypU K g y):yeY K (yBN ta g) (ybs ea y):=by intro h W ρ Z D o h' f e q;obtain ⟨x,h1,r,n⟩:=yj e;obtain ⟨ρ',m,l⟩:=Option.bind_eq_some_iff.mp n;cases l;exact a h W ρ Z _ x _ f r fun v j p i k=>b h j ρ ρ' Z x v _ (f.step i) k m fun d g'=>q j d p i.lf g'
theorem yuP i (a:ykg K ta o):yeY K (yBN ta (ynd i)) (ygb o i):=by
 intro l W ρ Z D o h' c e q;obtain ⟨d,h1,n,v⟩:=yj e;cases v;refine a l W ρ Z _ d _ c n fun p r w g h x m f=>q r _ w g.lf ((c.step g).setO i h (c.le.fresh x) m f fun j d' y e hs=>?_)
 obtain ⟨z,h1,h2,_,_,k⟩:=c.own j d' e;rw [h1] at hs;have ⟨o,A⟩:=k.some;grind
theorem Good.frz {n W:Wd}{ρ:PSt}{Z:St}(g:Good K n W ρ Z) (i:Nat):∃ h,h.h=W.h/\h.H=W.H/\Lf K W h/\Good K n h (ynE i ρ) Z:=by
 unfold ynE;cases e:ρ[i]? with
 | none=>exact ⟨W,rfl,rfl,.refl,by rw [List.modify_eq_self (by simpa using e)];exact g⟩
 | some v =>
  have hl:i<ρ.length:=(List.getElem?_eq_some_iff.mp e).1;have A:ρ.modify i yuK=ρ.set i (yuK v):=by
   apply List.ext_getElem?;intro j;rw [List.getElem?_modify,List.getElem?_set]
   by_cases b:i=j
   .subst b;obtain ⟨_,ev⟩:=List.getElem?_eq_some_iff.mp e;simp [hl,ev]
   .simp [b]
  have c:yuK v=v->∃ h,h.h=W.h/\h.H=W.H/\Lf K W h/\Good K n h (ρ.modify i yuK) Z:=fun z=>⟨W,rfl,rfl,.refl,by
   rw [A,z];have:ρ.set i v=ρ:=by
    apply List.ext_getElem?;intro j
    by_cases b:i=j
    .subst b;rw [getElem?_set_self hl,e]
    .rw [getElem?_set_ne b]
   rw [this];exact g⟩
  have H:∀ (d:Nd) (x:PV) (p:Addr) (o:HO),v=.own d->yuK v=.val x->Z[i]?=some (some (.ref p))->p∉W.m->n.H p=none->W.H p=some o->W.F p=none->(∀ (m:Hp),Same W.F m->m p=some o->Rep K m W.m x (.ref p)) ->
    ∃ h,h.h=W.h/\h.H=W.H/\Lf K W h/\Good K n h (ρ.modify i yuK) Z:=fun d x p o L B hs F I hp l P=>by
   obtain ⟨k,C⟩:=yrq (K:=K) g.ok hp F l;have lf:Lf K W (yuG W p o):=⟨C,prefix_refl _,fun _ _ _ e=>⟨e,fun _ _=>rfl⟩⟩
   refine ⟨yuG W p o,rfl,rfl,lf,⟨ynC g.le hp F l I,by rw [List.length_modify];exact g.len,fun j y e'=>?_,fun j d' e'=>?_,fun M O d1 d2 b G E=>?_⟩⟩
   .rw [A,B] at e'
    by_cases b:i=j
    .subst b;rw [getElem?_set_self hl] at e';cases e';exact ⟨_,hs,P _ C yK⟩
    .rw [getElem?_set_ne b] at e';obtain ⟨w,a1,a2⟩:=g.val j y e';exact ⟨w,a1,lf.rep a2⟩
   .rw [A,B] at e'
    by_cases b:i=j
    .subst b;rw [getElem?_set_self hl] at e';cases e'
    .rw [getElem?_set_ne b] at e';obtain ⟨q,a1,a2,a3,a4,a5⟩:=g.own j d' e';have N:q≠p:=fun z=>g.ne j i d' d (fun z=>b z.symm) e' (L ▸ e) (by rw [a1,hs,z])
     exact ⟨q,a1,a2,a3,a4,a5.mono C (prefix_refl _) (fun _ e=>e) fun f=>(yL N).trans f⟩
   .rw [A,B] at G E;have f:∀ {j:Nat}{d:Nd},(ρ.set i (.val x))[j]?=some (.own d)->ρ[j]?=some (.own d):=fun {j d} e=>by
     by_cases b:i=j
     .subst b;rw [getElem?_set_self hl] at e;cases e
     .rw [getElem?_set_ne b] at e;exact e
    exact g.ne M O d1 d2 b (f G) (f E)
  cases v with
  | no=>exact c rfl
  | val x=>exact c rfl
  | own d =>
   obtain ⟨p,a1,a2,a3,a4,a5⟩:=g.own i d e;cases d with
   | lst xs =>
    obtain ⟨l,vs,hp,r⟩:=a5;exact H _ (.lst xs) p _ rfl rfl a1 a2 a3 hp l fun m s D=>⟨p,vs,rfl,D,RepL.mono s (prefix_refl _) _ _ r⟩
   | dct ks xs=>exact c rfl
   | fz ks xs=>exact c rfl
   | ins k ns xs =>
    obtain ⟨l,J,vs,hp,hl,r⟩:=a5;exact H _ (.ins k ns xs) p _ rfl rfl a1 a2 a3 hp l fun m s D=>⟨p,J,vs,rfl,D,hl,RepL.mono s (prefix_refl _) _ _ r⟩
   | dead=>exact c rfl
theorem yyT i (a:yeY K t s):yeY K t (yrt i s):=by intro d W ρ Z D o h' g e q;obtain ⟨h,f,c,l,g'⟩:=g.frz i;rw [<- c];exact a d h _ Z D o h' g' (by rw [f];exact e) (q.from_ l)
end
end PX
namespace PX
open PySem L2
variable {K:Ck}
section
variable {ta tb:TE}{ea eb:XE}{t u:TS}{s s':XS}{tA:TT}{eA:XT}
def yyU (W:Wd) (p:Addr) (o:HO):Wd:=⟨W.F,upd W.H p o,W.m,W.h⟩
theorem yyV (w:WOk K W) (h:p∉W.m) (j:W.F p=none):WOk K (yyU W p o):=by
 refine ⟨fun b u e=>?_,w.len,w.nd,fun n d a g f=>?_⟩
 .have:=yby e j
  exact (yL this).trans (w.le _ _ e)
 .have i:a≠p:=fun z=>h (z ▸ mem_of_getElem? f)
  exact (w.at_ n d a g f).mono (Same.refl _) (prefix_refl _) (fun u e=>(yL i).trans e) id
theorem yrw (l:Le K W d) (g:p∉d.m) (i:d.F p=none) (j:W.H p=none):Le K W (yyU d p o) :=
 ⟨yyV l.ok g i,l.fs,l.pre,fun b u e n=>(yL (yby e j)).trans (l.keep b u e n),l.new,l.mn,fun n ks xs f=>⟨(l.fz n ks xs f).1,fun a h=>(yL fun (z:a=p)=>g (z ▸ mem_of_getElem? (yeA l.pre h))).trans ((l.fz n ks xs f).2 a h)⟩⟩
theorem yrx (l:Le K W c) (f:p∉c.m):Lf K W (yyU c p o) :=
 ⟨l.fs,l.pre,fun n ks xs e=>⟨(l.fz n ks xs e).1,fun a d=>(yL fun (z:a=p)=>f (z ▸ mem_of_getElem? (yeA l.pre d))).trans ((l.fz n ks xs e).2 a d)⟩⟩
theorem Good.mut (g:Good K h W ρ Z) (e:ρ[i]?=some (.own d)) (hs:Z[i]?=some (some (.ref p))) (l:p∉W.m) (k:h.H p=none) (x:W.F p=none) (hd:d'≠.dead)
  (c:NdAt K W.F (upd W.H p o) W.m d' p):Good K h (yyU W p o) (ρ.set i (.own d')) Z:=by
 have hl:=(List.getElem?_eq_some_iff.mp e).1;refine ⟨yrw g.le l x k,by rw [length_set];exact g.len,fun j y e'=>?_,fun j d1 e'=>?_,fun A v d1 d2 b w r=>?_⟩
 .by_cases b:i=j
  .subst b;simp_all
  .rw [getElem?_set_ne b] at e';exact g.val j y e'
 .by_cases b:i=j
  .subst b;rw [getElem?_set_self hl] at e';cases e';exact ⟨p,hs,l,k,hd,c⟩
  .rw [getElem?_set_ne b] at e';obtain ⟨q,a1,a2,a3,a4,a5⟩:=g.own j d1 e';have n:q≠p:=fun z=>g.ne j i d1 d (fun z=>b z.symm) e' e (by rw [a1,hs,z])
   exact ⟨q,a1,a2,a3,a4,a5.mono (Same.refl _) (prefix_refl _) (fun u e=>(yL n).trans e) id⟩
 .have f:∀ {j:Nat}{d1:Nd},(ρ.set i (.own d'))[j]?=some (.own d1)->∃ d2,ρ[j]?=some (.own d2):=fun {j d1} e'=>by
   by_cases b:i=j
   .subst b;exact ⟨d,e⟩
   .rw [getElem?_set_ne b] at e';exact ⟨_,e'⟩
  obtain ⟨_,m⟩:=f w;obtain ⟨_,B⟩:=f r;exact g.ne A v _ _ b m B
theorem big (h:n<100000):n<sizeLine:=lt_of_lt_of_le h (by decide)
theorem yyW (h:n<=100000):n<=sizeLine:=Nat.le_trans h (by decide)
theorem yuQ i (a:ybH K ta ea):yeY K (yqF (tBM K.K "list" ynl (yqw i) (yng ta ywR))) (yeV i ea):=by
 intro y W ρ Z D o h' g e q;unfold yeV at e;split at e
 .rename_i E h;obtain ⟨x,h1,C,f⟩:=yj e;split at f
  .rename_i c;cases f;obtain ⟨p,a1,a2,a3,a4,J,vs,hp,r⟩:=g.own i _ h;refine ⟨_,a1,.inl ⟨rfl,_,SqL.of hp⟩,?_⟩;refine a y W ρ Z _ x _ g C fun v F w d A=>⟨p,vs,v,rfl,rfl,d.keep _ _ hp a2,by rw [r.len];exact big c,?_⟩
   have j:=g.step d;obtain ⟨I,m,l,H,L,n,G,k,B⟩:=j.own i _ h;rw [a1] at m;cases m;rw [d.keep _ _ hp a2] at k;cases k;exact q (yyU F p _) Z w (yrx d l) (j.mut h a1 l H n (fun z=>by cases z) ⟨n,_,yK,B.snoc A⟩)
  .cases f
 .cases e
structure ItOk (K:Ck) (W:Wd) (J:It) (xs:List PV):Prop where
 go:∀ (i:Nat) (W':Wd),Lf K W W'->WOk K W'->i<xs.length->J.go i W'.H
 yld:∀ (i:Nat) (W':Wd) (v:V) (H2:Hp),Lf K W W'->WOk K W'->i<xs.length->J.yld i W'.H v H2->H2=W'.H/\∃ x,xs[i]?=some x/\ycC K W' x v
 stop:∀ (W':Wd),Lf K W W'->WOk K W'->J.stop xs.length W'.H
def SndI (K:Ck) (wi:TI) (e:XA):Prop:=∀ (W0 W:Wd) (ρ:PSt) (Z:St) (R:It->Hp->Prop) (xs:List PV) (h':AH),Good K W0 W ρ Z->e ρ W.h=some (xs,h')->(∀ J W',W'.h=h'->Le K W W'->ItOk K W' J xs->R J W'.H)->wi Z W.H R
def xIL (e:XE):XA:=fun ρ h=>ob (e ρ h) fun x h1=>match x with|.lst xs=>some (xs,h1)|.scr ns=>some (ns.map .int,h1)|_=>none
noncomputable def sgn (c:Nat):PV:=.str ⟨#[c]⟩
def xIS (e:XE):XA:=fun ρ h=>ob (e ρ h) fun x h1=>match x with|.str z=>if z.length<=100000 then some (z.cps.toList.map sgn,h1) else none|_=>none
noncomputable def yiS (lo:Int) (n:Nat):List PV:=(List.range n).map fun (k:Nat)=>.int (lo+(k:Int))
def yhI (a:XA):XA:=fun ρ h=>ob (a ρ h) fun xs h1=>match xs with|[.int j]=>if -1000000000<=j/\j<=1000000000 then some (yiS 0 j.toNat,h1) else none|_=>none
theorem ygd (w:WOk K W) (h:SqL K.K W.F a vs):SqL K.K W.H a vs:=Same.seq w.le h
theorem ydu (w:WOk K W) (h:TpAt K.K W.F a vs):SqT K.K W.H a vs:=h.elim (fun h=>SqT.of (w.le _ _ h)) .inr
theorem yry (a:ybH K ta ea):SndI K (yuj K.K ta) (xIL ea):=by
 intro A W ρ Z R xs h' g e q;obtain ⟨x,h1,r,f⟩:=yj e;refine a A W ρ Z _ x h1 g r fun v c z n h=>?_
 have key:∀ a vs,v=.ref a->SqL K.K c.F a vs->RepL K c.F c.m xs vs->h1=h'->∃ a,v=.ref a/\(∃ xs,SqL K.K c.H a xs)/\R (Itl K.K a) c.H:=fun a vs ev hs d o=>by
  subst o;refine ⟨a,ev,⟨vs,ygd n.ok hs⟩,q _ c z n ⟨fun i m l w k=>?_,fun i m j C l w k y=>?_,fun m l w=>?_⟩⟩
  .obtain ⟨j,h1,_⟩:=d.get (List.getElem?_eq_getElem k);exact ⟨vs,j,ygd w (Same.seq l.fs hs),h1⟩
  .obtain ⟨h1,h2⟩:=y;have:=h2 vs (ygd w (Same.seq l.fs hs));obtain ⟨x,B,p⟩:=d.get' this;exact ⟨h1,x,B,l.rep p⟩
  .exact ⟨vs,ygd w (Same.seq l.fs hs),by rw [d.len];exact Nat.le_refl _⟩
 split at f
 .cases f;obtain ⟨a,vs,ev,hs,d⟩:=h;exact key a vs ev (SqL.of hs) d rfl
 .rename_i ns;cases f;obtain ⟨a,ev,hs⟩:=h;exact key a _ ev hs (RepL.of_ints ns) rfl
 .cases f
theorem yuR (a:ybH K ta ea):SndI K (yHx ta) (xIS ea):=by
 intro n W ρ Z R xs h' g e q;obtain ⟨x,h1,m,d⟩:=yj e;refine a n W ρ Z _ x h1 g m fun v o p k h=>?_
 split at d
 .rename_i z;split at d
  .rename_i hz;cases d;have hl:z.length=z.cps.toList.length:=by simp [Str.length]
   refine ⟨z,h,yyW hz,q _ o p k ⟨fun i f l w y=>?_,fun i f A B l w y r=>?_,fun f l w=>?_⟩⟩
   .show i<z.length;simp_all
   .obtain ⟨h1,c,h2,j⟩:=r;exact ⟨h1,sgn c,by rw [getElem?_map,h2];rfl,j⟩
   .show _=z.length;rw [hl];simp
  .cases d
 .cases d
theorem yCl W d n:ItOk K W (Itr d n) (yiS d n):=by
 refine ⟨fun i c l w b=>?_,fun i c f g l w b e=>?_,fun c l w=>?_⟩
 .show i<n;simpa [yiS] using b
 .obtain ⟨h1,h2⟩:=e;have b:=by simpa [yiS] using b
  exact ⟨h1,.int _,by simp [yiS,b],h2⟩
 .show n<=_;simp [yiS]
theorem yrz {t:TA}(a:ylY K t e):SndI K (yBO t) (yhI e):=by
 intro n W ρ Z R xs h' g e q;obtain ⟨ys,h1,h,c⟩:=yj e;split at c
 .rename_i j;split at c
  .cases c;refine a n W ρ Z _ _ _ g h fun vs d l i f=>?_
   obtain ⟨v,r,rfl,m,k⟩:=f;obtain rfl:r=[]:=k;exact ⟨j,by rw [m],by omega,by omega,q _ d l i (yCl d 0 _)⟩
  .cases c
 .cases c
structure yyX (K:Ck) (W:Wd) (J:It) (xs:List PV):Prop where
 go:∀ (i:Nat) (W':Wd),Lf K W W'->WOk K W'->i<xs.length->J.go i W'.H
 yld:∀ (i:Nat) (W':Wd) (v:V) (H2:Hp),Lf K W W'->WOk K W'->i<xs.length->J.yld i W'.H v H2->∃ W2,W2.H=H2/\W2.h=W'.h/\Le K W' W2/\∃ x,xs[i]?=some x/\ycC K W2 x v
 stop:∀ (W':Wd),Lf K W W'->WOk K W'->J.stop xs.length W'.H
def yCm (K:Ck) (wi:TI) (e:XA):Prop:=∀ (W0 W:Wd) (ρ:PSt) (Z:St) (R:It->Hp->Prop) (xs:List PV) (h':AH),Good K W0 W ρ Z->e ρ W.h=some (xs,h')->(∀ J W',W'.h=h'->Le K W W'->yyX K W' J xs->R J W'.H)->wi Z W.H R
noncomputable def FNext (P:PSt->AH->Prop) (o:Out) (h':AH) (o1:Out) (h:AH):Prop:=match o1 with
 | .nx ρ=>P ρ h|.ct ρ=>P ρ h|.bk ρ=>some (Out.nx ρ,h)=some (o,h')|.rt y=>some (Out.rt y,h)=some (o,h')
theorem yrA {J:It}(b:ypU K g y) (c:yeY K t s)  n (P:Nat->PSt->AH->Prop) (L:Good K C h ρ a) (F:Ends.Ok K C h D h' o) (Y:P 0 ρ h.h)
  (X:∀ i d ρ',Lf K h d->WOk K d->i<n->P i ρ' d.h->J.go i d.H/\∃ x ρ1 o1 h2,y x ρ'=some ρ1/\s ρ1 d.h=some (o1,h2)/\FNext (P (i+1)) o h' o1 h2/\∀ v q,J.yld i d.H v q->∃ W2,W2.H=q/\W2.h=d.h/\Le K d W2/\ycC K W2 x v)
  (st:∀ d ρ',Lf K h d->WOk K d->P n ρ' d.h->J.stop n d.H/\some (Out.nx ρ',d.h)=some (o,h')) :
  ∃ Z:Nat->Nat->St->Hp->Prop,(∃ m,Z 0 m a h.H)/\∀ i m a H,Z i m a H ->
   J.stop i H/\D.nx a H\/J.go i H/\∃ N:St->Hp->Prop,(∀ E A,N E A->∃ m',m'<m/\Z (i+1) m' E A)/\∀ x A,J.yld i H x A->g x a A fun j q=>t { D with nx:=N,ct:=N,bk:=D.nx } j q:=by
 refine ⟨fun i m a H=>m=n-i/\i<=n/\∃ d ρ',d.H=H/\Lf K h d/\Good K C d ρ' a/\P i ρ' d.h,⟨_,rfl,zero_le _,h,ρ,rfl,.refl,L,Y⟩,?_⟩;rintro i m a _ ⟨rfl,U,d,ρ',rfl,l,g',p⟩
 by_cases e:i<n
 .obtain ⟨M,x,ρ1,o1,h2,k1,k2,f,W⟩:=X i d ρ' l g'.ok e p;refine .inr ⟨M,_,fun _ _ z=>⟨_,Nat.sub_succ_lt_self n i e,rfl,e,z⟩,fun v q z=>?_⟩;obtain ⟨I,rfl,S,G,O⟩:=W v q z;refine b C I ρ' ρ1 a _ v _ (g'.step G) O k1 fun j R=>c C I ρ1 j _ o1 h2 R (S ▸ k2) ?_
  have l:=l.trans G.lf;cases o1 with
  | nx ρ2=>exact fun W2 k B r w=>⟨W2,ρ2,rfl,l.trans r,w,B ▸ f⟩
  | ct ρ2=>exact fun W2 k B r w=>⟨W2,ρ2,rfl,l.trans r,w,B ▸ f⟩
  | bk ρ2=>cases f;exact fun W2 k B r w=>F W2 k B (l.trans r) w
  | rt x=>cases f;exact F
 .cases Nat.le_antisymm U (Nat.le_of_not_lt e);obtain ⟨T,Q⟩:=st d ρ' l g'.ok p;cases Q;exact .inl ⟨T,F d a rfl l g'⟩
theorem FNext.of {P:PSt->AH->Prop}{F:PSt->AH->Option _}{o o1:Out}{h h':AH}(f:(match o1 with|.nx ρ'=>F ρ' h|.ct ρ'=>F ρ' h|.bk ρ'=>some (.nx ρ',h)|.rt y=>some (.rt y,h))=some (o,h')) (e:∀ ρ,F ρ h=some (o,h')->P ρ h):FNext P o h' o1 h:=by cases o1<;>first|exact e _ f|exact f
theorem yrB (b:ypU K g y) (c:yeY K t s) (C:Good K A j ρ Y) (F:Ends.Ok K A j D h' o) (p:yyX K j J xs) (E:ygc y s xs ρ j.h=some (o,h')) :
  ∃ Z:Nat->Nat->St->Hp->Prop,(∃ m,Z 0 m Y j.H)/\∀ i m Y H,Z i m Y H ->
   J.stop i H/\D.nx Y H\/J.go i H/\∃ N:St->Hp->Prop,(∀ k e,N k e->∃ m',m'<m/\Z (i+1) m' k e)/\∀ x e,J.yld i H x e->g x Y e fun q r=>t { D with nx:=N,ct:=N,bk:=D.nx } q r:=by
 refine yrA b c xs.length (fun i ρ h=>ygc y s (xs.drop i) ρ h=some _) C F E (fun i n ρ' l w d f=>?_) fun n ρ' l w f=>⟨p.stop n l w,by rw [List.drop_length] at f;exact f⟩
 rw [List.drop_eq_getElem_cons d] at f;obtain ⟨ρ1,k1,f⟩:=Option.bind_eq_some_iff.mp f;obtain ⟨o1,h2,k2,B⟩:=yj f;refine ⟨p.go i n l w d,_,ρ1,o1,h2,k1,k2,.of B fun _=>id,fun v r L=>?_⟩;obtain ⟨O,P,M,G,x,z,I⟩:=p.yld i n v r l w d L;rw [List.getElem?_eq_getElem d] at z;cases z;exact ⟨O,P,M,G,I⟩
theorem ItOk.z (j:ItOk K W J xs):yyX K W J xs:=⟨j.go,fun i W' v H2 l w hi hy=>by obtain ⟨rfl,z⟩:=j.yld i W' v H2 l w hi hy;exact ⟨W',rfl,rfl,.refl w,z⟩,j.stop⟩
theorem yuS (a:yCm K i h) (b:ypU K g y) (c:yeY K t s):yeY K (yBP i g t) (yiV h y s):=by intro n W ρ Z D o h' f e q;obtain ⟨xs,h1,l,m⟩:=yj e;exact a n W ρ Z _ xs h1 f l fun J r p j k=>yrB b c (f.step j) (q.from_ j.lf) k (p ▸ m)
theorem SndI.z (a:SndI K wi it):yCm K wi it:=fun W0 W ρ Z R xs h g e q=>a W0 W ρ Z R xs h g e fun J W' w l j=>q J W' w l j.z
theorem yyY (a:SndI K wi it) (b:ypU K g y) (c:yeY K t s):yeY K (yBP wi g t) (yiV it y s):=yuS a.z b c
theorem yrC n (c:yjr K tA eA) (a:yeY K t s):yeY K (ywO tA t) (ydy n eA s):=by
 intro y W ρ Z D o h' F e q;refine ⟨fun m Z H=>∃ g ρ',g.H=H/\Lf K W g/\Good K y g ρ' Z/\whl eA s m ρ' g.h=some _,⟨n,W,ρ,rfl,.refl,F,e⟩,?_⟩;rintro m Z _ ⟨g,ρ',rfl,l,g',f⟩;cases m with
 | zero=>cases f
 | succ m =>
  obtain ⟨k,h1,E,r⟩:=yj f;refine c y g ρ' Z _ k h1 g' E fun A C v=>?_
  subst C;cases k with
  | false =>
   rw [if_neg (by decide)] at r ⊢;cases r;exact q A Z rfl (l.trans v.lf) (g'.step v)
  | true =>
   rw [if_pos rfl] at r ⊢;obtain ⟨o1,h2,k2,w⟩:=yj r;refine ⟨_,fun B G z=>⟨m,Nat.lt_succ_self _,z⟩,?_⟩;refine a y A ρ' Z _ o1 h2 (g'.step v) k2 ?_;have l':=l.trans v.lf;cases o1 with
   | nx ρ2=>exact fun h d i p j=>⟨h,ρ2,rfl,l'.trans p,j,by rw [i];exact w⟩
   | ct ρ2=>exact fun h d i p j=>⟨h,ρ2,rfl,l'.trans p,j,by rw [i];exact w⟩
   | bk ρ2=>cases w;exact fun h d i p j=>q h d i (l'.trans p) j
   | rt x=>cases w;exact q
theorem yhJ (g:Good K c W ρ Z) (l:Le K W b) ix {x:PV}{v:V}(r:ycC K b x v):Good K b b (ygU ix ρ x) (inner ix Z v) where
 le:=.refl l.ok
 len:=by simp [ygU,inner]
 val:=fun j y e=>by
  cases j with
  | zero=>simp [ygU] at e;subst e;exact ⟨v,rfl,r⟩
  | succ j =>
   have e:(ix.map (yoK ρ))[j]?=some _:=e;rw [getElem?_map] at e;cases ei:ix[j]? with
   | none=>simp_all
   | some i =>
    rw [ei] at e;have e:=Option.some.inj e;unfold yoK at e;split at e
    .rename_i z hz;cases e;obtain ⟨w,h1,h2⟩:=g.val i _ hz;exact ⟨w,by show (ix.map _)[j]?=_;simp_all,l.rep h2⟩
    .cases e
 own:=fun j d e=>by
  cases j with
  | zero=>simp [ygU] at e
  | succ j =>
   have e:(ix.map (yoK ρ))[j]?=some _:=e;rw [getElem?_map] at e;cases ei:ix[j]? with
   | none=>simp_all
   | some i =>
    rw [ei] at e;have e:=Option.some.inj e;unfold yoK at e;split at e<;>cases e
 ne:=fun j k d d' _ e _=>by
  cases j with
  | zero=>simp [ygU] at e
  | succ j =>
   have e:(ix.map (yoK ρ))[j]?=some _:=e;rw [getElem?_map] at e;cases ei:ix[j]? with
   | none=>simp_all
   | some i =>
    rw [ei] at e;have e:=Option.some.inj e;unfold yoK at e;split at e<;>cases e
def yxa (J:It) (tc:TT) (te:TE) (inn:V->St) (D:Addr) (Q:VK) (H:Hp):Prop:=∃ W:Nat->Nat->Hp->Prop,(∃ m,W 0 m H)/\∀ i m H,W i m H ->
 (J.stop i H/\Q (.ref D) H)\/(J.go i H/\∀ x H',J.yld i H x H'->tc (inn x) H' fun b H1=>if b=true then te (inn x) H1 fun y H2=>∃ acc,H2 D=some (.lst acc)/\acc.length<sizeLine/\∃ m',m'<m/\W (i+1) m' (upd H2 D (.lst (acc++[y]))) else ∃ m',m'<m/\W (i+1) m' H1)
def ymb (wi:TI) (ix:List Nat) (tc:TT) (te:TE):TE:=fun Z H Q=>wi Z H fun J H1=>∀ D,H1 D=none->yxa J tc te (inner ix Z) D Q (upd H1 D (.lst []))
def yxb (c:XT) (e:XE) (inn:PV->PSt):List PV->AH->Option (List PV×AH)
 | [],h=>some ([],h)
 | x::xs,h=>ob (c (inn x) h) fun b h1=>if b=true then ob (e (inn x) h1) fun y h2=>ob (yxb c e inn xs h2) fun ys h3=>some (y::ys,h3) else yxb c e inn xs h1
def yxc (J:It) (ST:V->Hp->VK->(Hp->Prop)->Prop) (D:Addr) (Q:VK) (H:Hp):Prop:=∃ W:Nat->Nat->Hp->Prop,(∃ m,W 0 m H)/\∀ i m H,W i m H ->
 (J.stop i H/\Q (.ref D) H)\/(J.go i H/\∀ x H',J.yld i H x H'->ST x H' (fun y H2=>∃ acc,H2 D=some (.lst acc)/\acc.length<sizeLine/\∃ m',m'<m/\W (i+1) m' (upd H2 D (.lst (acc++[y])))) fun H1=>∃ m',m'<m/\W (i+1) m' H1)
theorem ykk {J:It}{ST:V->Hp->VK->(Hp->Prop)->Prop}{D:Addr}{Q:VK}{W1:Wd} n {x:List PV}(P:Nat->AH->List PV->Prop) (w:WOk K W1) (S:n<=100000) (A:W1.H D=none) (N:P 0 W1.h x)
  (R:∀ i b rest,Le K W1 b->i<n->P i b.h rest->J.go i b.H/\∀ v j,J.yld i b.H v j->∀ k g,(∀ u y r W2,Le K b W2->rest=y::r->ycC K W2 y u->P (i+1) W2.h r->k u W2.H)->(∀ W2,Le K b W2->P (i+1) W2.h rest->g W2.H)->ST v j k g)
  (st:∀ b rest,Le K W1 b->P n b.h rest->rest=[]/\J.stop n b.H)
  (q:∀ b c,Le K W1 b->P n b.h []->D∉b.m->b.F D=none->b.H D=some (.lst c)->ycD K b x c->Q (.ref D) b.H):yxc J ST D Q (upd W1.H D (.lst [])):=by
 refine ⟨fun i m H=>m=n-i/\i<=n/\∃ b c d rest,b.H=H/\Le K W1 b/\D∉b.m/\b.F D=none/\b.H D=some (.lst c)/\ycD K b d c/\d.length<=i/\x=d++rest/\P i b.h rest,⟨_,rfl,zero_le _,_,[],[],x,rfl,ydt w A,w.out A,w.ff A,yK,rfl,Nat.le_refl _,rfl,N⟩,?_⟩;rintro i m _ ⟨rfl,O,b,c,d,rest,rfl,l,h,B,hd,o,F,C,p⟩
 by_cases f:i<n
 .obtain ⟨M,L⟩:=R i b rest l f p;have nm:∀ {W2},Le K b W2->D∉W2.m:=fun e z=>by rw [e.mn D z h] at hd;cases hd
  refine .inr ⟨M,fun v j I=>L v j I _ _ (fun u y r W2 e T r2 E=>?_) fun W2 e E=>?_⟩
  .have G:=e.new D _ hd h B;exact ⟨c,e.keep _ _ hd h,by rw [o.len];exact big (by omega),_,Nat.sub_succ_lt_self n i f,rfl,f,_,_,_,r,rfl,yrw (l.trans e) (nm e) G A,nm (W2:=W2) e,G,yK,(e.repL o).snoc r2,by rw [length_append];exact Nat.succ_le_succ F,by simp_all,E⟩
  .exact ⟨_,Nat.sub_succ_lt_self n i f,rfl,f,W2,c,d,rest,rfl,l.trans e,nm e,e.new D _ hd h B,e.keep _ _ hd h,e.repL o,Nat.le_succ_of_le F,C,E⟩
 .cases Nat.le_antisymm O (Nat.le_of_not_lt f);obtain ⟨rfl,g⟩:=st b rest l p;rw [append_nil] at C;exact .inl ⟨g,q b c l p h B hd (C ▸ o)⟩
theorem ymc {ta:TE}{ea:XE}{tA:TT}{eA:XT}{M:TI}{S:XA} B [DecidablePred B] (hB:∀ n,B n->n<=100000) ix (a:SndI K M S) (c:yjr K tA eA) (b:ybH K ta ea):ykg K (ymb M ix tA ta) fun ρ h=>ob (S ρ h) fun xs h1=>if B xs.length then ob (yxb eA ea (ygU ix ρ) xs h1) fun ys h2=>some (.lst ys,h2) else none:=by
 intro U W ρ j Q d h' F e q;obtain ⟨xs,h1,e1,G⟩:=yj e;split at G
 .rename_i A;obtain ⟨zs,h2,T,X⟩:=yj G;cases X;refine a U W ρ j _ xs h1 F e1 fun J W1 w1 p L D N=>ykk (ST:=fun v H k g=>tA _ H fun b R=>if b=true then ta _ R k else g R) xs.length (fun i h r=>yxb eA ea _ (xs.drop i) h=some (r,h')) p.ok (hB _ A) N (w1 ▸ T) (fun i o r l m f=>?_) (fun o r l f=>?_) fun o E l f n1 n2 hd rd=>?_
  .refine ⟨L.go i o l.lf l.ok m,fun v H2 hy k g hk hg=>?_⟩;obtain ⟨rfl,x,P,O⟩:=L.yld i o v H2 l.lf l.ok m hy;rw [List.getElem?_eq_getElem m] at P;cases P;rw [List.drop_eq_getElem_cons m] at f;obtain ⟨k0,h0,I,f0⟩:=yj f;refine c o o _ _ _ k0 h0 (yhJ F (p.trans l) ix O) I fun W2 Y C=>?_
   subst Y;cases k0 with
   | false=>exact hg W2 C f0
   | true =>
    rw [if_pos rfl] at f0 ⊢;obtain ⟨y,h3,k1,f3⟩:=yj f0;obtain ⟨ys,h4,k2,Z⟩:=yj f3;cases Z;exact b W2 W2 _ _ _ y h3 (yhJ F (p.trans (l.trans C)) ix (C.rep O)) k1 fun w W3 w3 l3 r3=>hk w y ys W3 (C.trans l3) rfl r3 (w3 ▸ k2)
  .rw [List.drop_length] at f;cases f;exact ⟨rfl,L.stop o l.lf l.ok⟩
  .rw [List.drop_length] at f;cases f;exact q D o rfl (p.trans l) n1 (p.fresh N) (fun z=>by cases z) ⟨n2,E,hd,rd⟩
 .cases G
theorem yxd:∀ {xs:List PV}{h:AH},yxb (fun _ h=>some (true,h)) e inn xs h=yls e inn xs h
 | [],_=>rfl
 | x::xs,h=>by unfold yxb yls;simp only [yxd];rfl
theorem yuT {ta:TE}{ea:XE} ix (a:SndI K d f) (b:ybH K ta ea):ykg K (yri d ix ta) (yfd f ix ea):=by have:=ymc (tA:=fun _ H k=>k true H) (eA:=fun _ h=>some (true,h)) _ (fun _ h=>h) ix a (fun _ W _ _ _ _ _ g e q=>by cases e;exact q W rfl (.refl g.le.ok)) b;simp only [yxd] at this;exact this
theorem yCn {Q:VK}(h:yxc J (fun v H k _=>te (inn v) H k) D Q H):yBY J te inn D Q H:=h
theorem ygY (w:WOk K W) {N:List Str}(r:ycD K W xs vs):Good K W W (xs.map .val++replicate (N.length-xs.length) .no) (L2.start N vs) where
 le:=.refl w
 len:=by simp [L2.start,r.len]
 val:=fun j y e=>by
  by_cases b:j<xs.length
  .rw [getElem?_append_left (by simpa using b),getElem?_map,List.getElem?_eq_getElem b] at e;cases e;obtain ⟨v,h1,h2⟩:=r.get (List.getElem?_eq_getElem b);refine ⟨v,?_,h2⟩;unfold L2.start;rw [getElem?_append_left (by simp [r.len,b]),getElem?_map,h1];rfl
  .rw [getElem?_append_right (by simp;omega),getElem?_replicate] at e;split at e<;>cases e
 own:=fun j d e=>by
  by_cases b:j<xs.length
  .rw [getElem?_append_left (by simpa using b),getElem?_map,List.getElem?_eq_getElem b] at e;cases e
  .rw [getElem?_append_right (by simp;omega),getElem?_replicate] at e;split at e<;>cases e
 ne:=fun j k d d' _ e _=>by
  by_cases b:j<xs.length
  .rw [getElem?_append_left (by simpa using b),getElem?_map,List.getElem?_eq_getElem b] at e;cases e
  .rw [getElem?_append_right (by simp;omega),getElem?_replicate] at e;split at e<;>cases e
theorem yuU {N:List Str}{Q:VK}(a:yeY K t s) (h:spE K n (ybg N.length s) vs H Q E):t ⟨fun _ k=>Q .non k,Q,bk,ct⟩ (L2.start N vs) H:=by
 obtain ⟨W,xs,x,h',rfl,w,r,_,e,q⟩:=h;obtain ⟨o,h1,m,c⟩:=yj e;refine a W W _ _ _ o h1 (ygY w r) m ?_;cases o with
 | rt y=>cases c;exact fun f v d l i=>q v f d l i
 | nx ρ=>cases c;exact fun f j d _ g=>q _ f d g.le rfl
 | bk ρ=>cases c
 | ct ρ=>cases c
theorem yyZ {Q:VK}(h:spE K n f vs H Q E):vs.length=n:=by obtain ⟨W,xs,x,h',rfl,w,r,a,_⟩:=h;rw [r.len,a]
end
end PX
namespace PX
open PySem L2
variable {K:Ck}
noncomputable def oI (g:Int->Int->PV):P2:=fun x y h=>match x,y with|.int i,.int j=>some (g i j,h)|_,_=>none
noncomputable def oIc (C:Int->Int->Prop) [∀ i j,Decidable (C i j)] (g:Int->Int->PV):P2:=fun x y h=>match x,y with|.int i,.int j=>if C i j then some (g i j,h) else none|_,_=>none
abbrev yeP:P2:=oI fun i j=>.int (i+j)
abbrev ytU:P2:=oI fun i j=>.int (i-j)
noncomputable def MulOk (i j:Int):Prop:=(-18446744073709551616<i/\i<18446744073709551616)\/(-18446744073709551616<j/\j<18446744073709551616)
instance (i j:Int):Decidable (MulOk i j):=by unfold MulOk;infer_instance
noncomputable def PowOk (i j:Int):Prop:=(0<=i/\i<18446744073709551616)/\0<=j/\j<=1000000
instance (i j:Int):Decidable (PowOk i j):=by unfold PowOk;infer_instance
abbrev yBl:P2:=oIc MulOk fun i j=>.int (i*j)
abbrev oDiv:P2:=oIc (fun _ j=>0<j/\j<1073741824) fun i j=>.int (i/j)
abbrev oMod:P2:=oIc (fun _ j=>0<j) fun i j=>.int (i%j)
abbrev yBm:P2:=oIc PowOk fun i j=>.int (i ^ j.toNat)
abbrev oLt:P2:=oI fun i j=>.bl (decide (i<j))
abbrev oLe:P2:=oI fun i j=>.bl (decide (i<=j))
abbrev oGt:P2:=oI fun i j=>.bl (decide (j<i))
abbrev oGe:P2:=oI fun i j=>.bl (decide (j<=i))
noncomputable abbrev yCo:PV->AH->Option (PV×AH):=fun x h=>match x with|.int i=>some (.int (-i),h)|_=>none
theorem yBn (h:∀ W i j,ycC K W (g i j) (b i j)):yck K (rI0 b) (oI g):=by
 intro W x y v u Q z h' w d c e q;unfold oI at e;split at e
 .rename_i i j;cases e;exact ⟨i,j,d,c,q _ W rfl (.refl w) (h W i j)⟩
 .cases e
theorem yuV {C:Int->Int->Prop} [∀ i j,Decidable (C i j)] {b:Int->Int->Prop}{g:Int->Int->PV}{d:Int->Int->V}(f:∀ i j,C i j->b i j) (h:∀ W i j,ycC K W (g i j) (d i j)):yck K (rI b d) (oIc C g):=by
 intro W x y v u Q z h' w l k e q;unfold oIc at e;split at e
 .rename_i i j;split at e
  .rename_i c;cases e;exact ⟨i,j,l,k,f i j c,q _ W rfl (.refl w) (h W i j)⟩
  .cases e
 .cases e
theorem ydA:yck K yFt yeP:=yBn fun _ _ _=>rfl
theorem ynF:yck K yFu ytU:=yBn fun _ _ _=>rfl
theorem yza:yck K yFv yBl:=yuV (fun i j h=>by exact h) fun _ _ _=>rfl
theorem yfH:yck K yFw oDiv:=yuV (fun i j h=>h) fun _ _ _=>rfl
theorem ydv:yck K yFx oMod:=yuV (fun i j h=>h) fun _ _ _=>rfl
theorem yzb:yck K yFy yBm:=yuV (fun i j h=>by unfold yFm;unfold PowOk at h;omega) fun _ _ _=>rfl
theorem yxe:yck K yIj oLt:=yBn fun _ _ _=>rfl
theorem ytV:yck K yIk oLe:=yBn fun _ _ _=>rfl
theorem yCp:yck K yIl oGt:=yBn fun _ _ _=>rfl
theorem yIo:yck K yIm oGe:=yBn fun _ _ _=>rfl
theorem yzc:yyC K yFz yCo:=by
 intro W x v Q z h' w b e q;unfold yCo at e;split at e
 .rename_i i;cases e;exact ⟨i,b,q _ W rfl (.refl w) rfl⟩
 .cases e
noncomputable def sv:PV->Option V
 | .non=>some .non
 | .bl b=>some (.bl b)
 | .int i=>some (.int i)
 | .str s=>some (.str s)
 | _=>none
theorem yfN (e:sv x=some u) (r:ycC K W x v):v=u:=by cases x<;>cases e<;>exact r
def oEq:P2:=fun x y h=>match sv x,sv y with|some v,some u=>if yEL v u=true then some (.bl (decide (v=u)),h) else none|_,_=>none
def oNe:P2:=fun x y h=>match sv x,sv y with|some v,some u=>if yEL v u=true then some (.bl (!decide (v=u)),h) else none|_,_=>none
theorem ycP:yck K rEq oEq:=by
 intro W x y v u Q z h' w f d e q;unfold oEq at e;split at e
 .rename_i h i b g;obtain rfl:=yfN b f;obtain rfl:=yfN g d;split at e
  .rename_i c;cases e;exact ⟨c,q _ W rfl (.refl w) rfl⟩
  .cases e
 .cases e
theorem yzd:yck K rNe oNe:=by
 intro W x y v u Q z h' w f d e q;unfold oNe at e;split at e
 .rename_i h i b g;obtain rfl:=yfN b f;obtain rfl:=yfN g d;split at e
  .rename_i c;cases e;exact ⟨c,q _ W rfl (.refl w) rfl⟩
  .cases e
 .cases e
noncomputable def isN:PV->Bool
 | .non=>true
 | _=>false
def yze:P2:=fun x y h=>match y with|.non=>some (.bl (isN x),h)|_=>none
def yuW:P2:=fun x y h=>match y with|.non=>some (.bl (!isN x),h)|_=>none
theorem yrD (r:ycC K W x v):decide (v=.non)=isN x:=by
 cases x with
 | non=>rw [r];rfl
 | bl b=>rw [r];rfl
 | int b=>rw [r];rfl
 | str b=>rw [r];rfl
 | ty b=>rw [r];rfl
 | cls b=>rw [r];rfl
 | scr b=>obtain ⟨a,e,_⟩:=r;rw [e];rfl
 | lst b=>obtain ⟨a,_,e,_⟩:=r;rw [e];rfl
 | tup b=>obtain ⟨a,_,e,_⟩:=r;rw [e];rfl
 | ins k n b=>obtain ⟨a,_,_,e,_⟩:=r;rw [e];rfl
 | loc n=>obtain ⟨a,e,_⟩:=r;rw [e];rfl
 | exc n=>obtain ⟨a,e,_⟩:=r;rw [e];rfl
 | xcl n=>rw [r];rfl
theorem yuX:yck K yIn yze:=by
 intro W x y v u Q z h' w c b e q;unfold yze at e;split at e
 .cases e;exact ⟨b,by rw [yrD c];exact q _ W rfl (.refl w) rfl⟩
 .cases e
theorem yCq:yck K yFB yuW:=by
 intro W x y v u Q z h' w c b e q;unfold yuW at e;split at e
 .cases e;exact ⟨b,by rw [yrD c];exact q _ W rfl (.refl w) rfl⟩
 .cases e
noncomputable def yhZ:P2:=fun x y h=>match x,y with|.str i,.str j=>if i.length+j.length<=100000 then some (.str (i++j),h) else none|_,_=>none
theorem ymd:yck K yFA yhZ:=by
 intro W x y v u Q z h' w d b e q;unfold yhZ at e;split at e
 .rename_i i j;split at e
  .rename_i c;cases e;exact ⟨i,j,d,b,yyW c,q _ W rfl (.refl w) rfl⟩
  .cases e
 .cases e
noncomputable def yEO:P2:=fun x y h=>match x,y with|.str s,.str j=>(match s.cps.toList with|[c]=>some (.bl (decide (c∈j.cps.toList)),h)|_=>none)|_,_=>none
theorem one_sign {s:Str}(h:s.cps.toList=[c]):s=⟨#[c]⟩:=by obtain ⟨⟨l⟩⟩:=s;have:l=[c]:=h;rw [this]
theorem yCr:yck K yHu yEO:=by
 intro W x y v u Q z h' w f d e q;unfold yEO at e;split at e
 .rename_i s j;split at e
  .rename_i c b;cases e;exact ⟨c,j,by rw [<- one_sign b];exact f,d,q _ W rfl (.refl w) rfl⟩
  .cases e
 .cases e
def ycM:P2:=fun x y h=>match y with
 | .int i=>(match x with
  | .lst xs=>(match atI xs i with|some v=>some (v,h)|none=>none)
  | .scr ns=>(match atI ns i with|some v=>some (.int v,h)|none=>none)
  | .loc n=>(match h[n]? with|some (.lst xs)=>(match atI xs i with|some v=>some (v,h)|none=>none)|_=>none)
  | _=>none)
 | _=>none
def ybO:P2:=fun x y h=>match x,y with|.tup xs,.int i=>(match atI xs i with|some v=>some (v,h)|none=>none)|_,_=>none
def yrE:P2:=fun x y h=>match x,y with|.str s,.int i=>(match atI s.cps.toList i with|some c=>if s.length<=100000 then some (sgn c,h) else none|none=>none)|_,_=>none
theorem RepL.at (r:RepL K F m xs vs) (e:atI xs i=some x):∃ v,atI vs i=some v/\Rep K F m x v:=by unfold atI at e ⊢;rw [r.len];obtain ⟨j,b,a⟩:=Option.bind_eq_some_iff.mp e;rw [b];exact r.get a
theorem WOk.loc (w:WOk K W) (e:W.h[n]?=Option.some d) (r:ycC K W (.loc n) v):∃ a,v=.ref a/\W.m[n]?=Option.some a/\NdAt K W.F W.H W.m d a:=by obtain ⟨a,c,h⟩:=r;exact ⟨a,c,h,w.at_ n d a e h⟩
theorem ydB:yck K (yHm K.K) ycM:=by
 intro W x y v u Q z h' w h d e q;unfold ycM at e;split at e
 .rename_i i;split at e
  .split at e
   .rename_i y c;cases e;obtain ⟨a,vs,ev,hs,f⟩:=h;obtain ⟨g,h1,h2⟩:=f.at c;exact ⟨a,vs,i,g,ev,d,SqL.of (w.le _ _ hs),h1,q _ W rfl (.refl w) h2⟩
   .cases e
  .rename_i ns;split at e
   .rename_i y c;cases e;obtain ⟨a,ev,hs⟩:=h;refine ⟨a,_,i,_,ev,d,ygd w hs,?_,q _ W rfl (.refl w) rfl⟩;unfold atI at c ⊢;rw [length_map];obtain ⟨j,k,n⟩:=Option.bind_eq_some_iff.mp c;rw [k];show (ns.map V.int)[j]?=_;simp_all
   .cases e
  .split at e
   .rename_i xs l;split at e
    .rename_i y c;cases e;obtain ⟨a,ev,o,m,vs,hp,f⟩:=w.loc l h;obtain ⟨g,h1,h2⟩:=f.at c;exact ⟨a,vs,i,g,ev,d,SqL.of hp,h1,q _ W rfl (.refl w) h2⟩
    .cases e
   .cases e
  .cases e
 .cases e
theorem ybh:yck K (yHn K.K) ybO:=by
 intro W x y v u Q z h' w h g e q;unfold ybO at e;split at e
 .rename_i xs i;split at e
  .rename_i y d;cases e;obtain ⟨a,vs,ev,hs,c⟩:=h;obtain ⟨f,h1,h2⟩:=c.at d;exact ⟨a,vs,i,f,ev,g,ydu w hs,h1,q _ W rfl (.refl w) h2⟩
  .cases e
 .cases e
theorem yrF:yck K yHo yrE:=by
 intro W x y v u Q z h' w f d e q;unfold yrE at e;split at e
 .rename_i s i;split at e
  .rename_i c b;split at e
   .rename_i hl;cases e;exact ⟨s,i,c,f,d,yyW hl,b,q _ W rfl (.refl w) rfl⟩
   .cases e
  .cases e
 .cases e
def yoL {Y:Type}(xs:List Y) (lo hi:Option Int):List Y:=(xs.drop (HT.sIx xs.length 0 lo)).take (HT.sIx xs.length xs.length hi-HT.sIx xs.length 0 lo)
noncomputable def listOf (x:PV) (h:AH):Option (List PV):=match x with|.lst xs=>some xs|.scr ns=>some (ns.map .int)|.loc n=>(match h[n]? with|some (.lst xs)=>some xs|_=>none)|_=>none
theorem ygZ (w:WOk K W) (e:listOf x W.h=some xs) (r:ycC K W x v):∃ a vs,v=.ref a/\SqL K.K W.H a vs/\ycD K W xs vs:=by
 unfold listOf at e;split at e
 .cases e;obtain ⟨a,vs,ev,hs,c⟩:=r;exact ⟨a,vs,ev,SqL.of (w.le _ _ hs),c⟩
 .rename_i ns;cases e;obtain ⟨a,ev,hs⟩:=r;exact ⟨a,_,ev,ygd w hs,RepL.of_ints ns⟩
 .split at e
  .rename_i ys d;cases e;obtain ⟨a,ev,f,g,vs,hp,c⟩:=w.loc d r;exact ⟨a,vs,ev,SqL.of hp,c⟩
  .cases e
 .cases e
noncomputable def ybM (x:PV) (h:AH):Option (List PV):=match x with|.lst xs=>some xs|.loc n=>(match h[n]? with|some (.lst xs)=>some xs|_=>none)|_=>none
theorem yZ (w:WOk K W) (e:ybM x W.h=some xs) (r:ycC K W x v):∃ a vs,v=.ref a/\W.H a=some (.lst vs)/\ycD K W xs vs:=by
 unfold ybM at e;split at e
 .cases e;obtain ⟨a,vs,ev,hs,c⟩:=r;exact ⟨a,vs,ev,w.le _ _ hs,c⟩
 .split at e
  .rename_i ys d;cases e;obtain ⟨a,ev,f,g,vs,hp,c⟩:=w.loc d r;exact ⟨a,vs,ev,hp,c⟩
  .cases e
 .cases e
theorem yCs (w:WOk K W) (hp:W.H p=none) (r:ycD K W xs vs) {Q:VK}(q:ypS K W (.lst xs) W.h Q):Q (.ref p) (upd W.H p (.lst vs)) :=
 q p (yjt W p _) rfl (ydt w hp) (w.out hp) hp (fun z=>by cases z) ⟨w.ff hp,vs,yK,r⟩
def yoM:PV->Option Int->Option Int->AH->Option (Nd×AH):=fun x lo hi h=>match listOf x h with|some xs=>some (.lst (yoL xs lo hi),h)|none=>none
theorem yzf:yrr K (yHp K.K) yoM:=by
 intro W x v f i Q d h' w h e q;unfold yoM at e;split at e
 .rename_i xs g;cases e;obtain ⟨a,vs,ev,hs,c⟩:=ygZ w g h;refine ⟨a,vs,ev,hs,fun p hp=>yCs w hp ?_ q⟩;have:=(c.drop (HT.sIx xs.length 0 f)).take (HT.sIx xs.length xs.length i-HT.sIx xs.length 0 f);unfold yoL yEM;rw [c.len];exact this
 .cases e
def yrG:P2O:=fun x y h=>match ybM x h,ybM y h with|some xs,some ys=>if xs.length+ys.length<=100000 then some (.lst (xs++ys),h) else none|_,_=>none
theorem yuY:yoI K yHr yrG:=by
 intro W x y v u Q d h' w k j e q;unfold yrG at e;split at e
 .rename_i xs ys h i;split at e
  .rename_i hl;cases e;obtain ⟨a,vs,ev,hs,f⟩:=yZ w h k;obtain ⟨b,us,l,m,g⟩:=yZ w i j;refine ⟨a,b,vs,us,ev,l,hs,m,by rw [f.len,g.len];exact yyW hl,fun p hp=>yCs w hp (f.app g) q⟩
  .cases e
 .cases e
noncomputable def repL {Y:Type}(k:Nat) (xs:List Y):List Y:=(replicate k xs).flatten
theorem RepL.rep (r:RepL K F m xs vs):∀ k,RepL K F m (repL k xs) (repL k vs)
 | 0=>rfl
 | k+1=>by show RepL K F m _ _;exact r.app (RepL.rep r k)
def yCt:P2O:=fun x y h=>match ybM x h,y with|some xs,.int k=>if -1000000<=k/\k<=100000/\xs.length*k.toNat<=100000 then some (.lst (repL k.toNat xs),h) else none|_,_=>none
theorem yCu:yoI K yHs yCt:=by
 intro W x y v u Q d h' w h g e q;unfold yCt at e;split at e
 .rename_i xs k f;split at e
  .rename_i hl;cases e;obtain ⟨a,vs,ev,hs,c⟩:=yZ w f h;refine ⟨a,k,vs,ev,g,hs,by omega,by omega,by rw [c.len];exact yyW hl.2.2,fun p hp=>yCs w hp (c.rep _) q⟩
  .cases e
 .cases e
noncomputable def yrH (x:PV) (h:AH):Option Nat:=match x with|.tup xs=>some xs.length|.lst xs=>some xs.length|.scr ns=>some ns.length|.loc n=>(match h[n]? with|some (.lst xs)=>some xs.length|_=>none)|_=>none
def ybW:List PV->AH->Option (PV×AH):=fun xs h=>match xs with|[x]=>(match yrH x h with|some n=>some (.int n,h)|none=>none)|_=>none
noncomputable def ynG:List PV->AH->Option (PV×AH):=fun xs h=>match xs with|[.str z]=>if z.length<=100000 then some (.int z.length,h) else none|_=>none
theorem yoN (r:ycD K W [x] vs):∃ v,vs=[v]/\ycC K W x v:=by obtain ⟨v,a,e,h,l⟩:=r;exact ⟨v,by rw [e,l],h⟩
theorem yHy (r:ycD K W [x,y] vs):∃ v u,vs=[v,u]/\ycC K W x v/\ycC K W y u:=by obtain ⟨v,b,e,h,l⟩:=r;obtain ⟨u,a,h2⟩:=yoN l;exact ⟨v,u,by rw [e,a],h,h2⟩
theorem ydl:yhY K (yBW K.K) ybW:=by
 intro W xs vs Q z h' w r e q;unfold ybW at e;split at e
 .split at e
  .rename_i n d;cases e;obtain ⟨v,rfl,g⟩:=yoN r;have c:∀ (ys:List V),ys.length=n->Q (.int ys.length) W.H:=fun ys hl=>by rw [hl];exact q _ W rfl (.refl w) rfl
   unfold yrH at d;split at d
   .cases d;obtain ⟨a,us,rfl,hs,f⟩:=g;exact ⟨a,us,rfl,.inr (ydu w hs),c _ f.len⟩
   .cases d;obtain ⟨a,us,rfl,hs,f⟩:=g;exact ⟨a,us,rfl,.inl (SqL.of (w.le _ _ hs)),c _ f.len⟩
   .cases d;obtain ⟨a,rfl,hs⟩:=g;exact ⟨a,_,rfl,.inl (ygd w hs),c _ (by simp)⟩
   .split at d
    .rename_i ys h;cases d;obtain ⟨a,rfl,i,j,us,hp,f⟩:=w.loc h g;exact ⟨a,us,rfl,.inl (SqL.of hp),c _ f.len⟩
    .cases d
   .cases d
  .cases e
 .cases e
theorem yoO:yhY K yFC ynG:=by
 intro W xs vs Q z h' w r e q;unfold ynG at e;split at e
 .rename_i s;split at e
  .rename_i hl;cases e;obtain ⟨v,rfl,b⟩:=yoN r;exact ⟨s,by rw [b],yyW hl,q _ W rfl (.refl w) rfl⟩
  .cases e
 .cases e
def yrI:List PV->AH->Option (PV×AH):=fun xs h=>match xs with|[.str z]=>if z.cps.toList≠[]/\(∀ c∈z.cps.toList,48<=c/\c<=57)/\z.length<=640 then some (.int (yyv z.cps.toList),h) else none|_=>none
theorem yCv:yhY K yBX yrI:=by
 intro W xs vs Q z h' w r e q;unfold yrI at e;split at e
 .rename_i i;split at e
  .rename_i hl;cases e;obtain ⟨v,rfl,b⟩:=yoN r;exact ⟨i,by rw [b],hl.1,hl.2.1,hl.2.2,q _ W rfl (.refl w) rfl⟩
  .cases e
 .cases e
def ybc:List PV->AH->Option (Nd×AH):=fun xs h=>match xs with|[.tup ys]=>some (.lst ys,h)|[x]=>(match listOf x h with|some ys=>some (.lst ys,h)|none=>none)|_=>none
theorem ybq:yrm K (yyw K.K) ybc:=by
 intro W xs vs Q d h' w r e q;unfold ybc at e;split at e
 .cases e;obtain ⟨v,rfl,a,us,rfl,hs,c⟩:=yoN r;exact ⟨a,us,rfl,.inr (ydu w hs),fun p hp=>yCs w hp c q⟩
 .split at e
  .rename_i ys f;cases e;obtain ⟨v,rfl,g⟩:=yoN r;obtain ⟨a,us,rfl,hs,c⟩:=ygZ w f g;exact ⟨a,us,rfl,.inl hs,fun p hp=>yCs w hp c q⟩
  .cases e
 .cases e
noncomputable def strsOf:List PV->Option (List Str)
 | []=>some []
 | .str s::r=>(strsOf r).map (s::·)
 | _=>none
noncomputable def intsOf:List PV->Option (List Int)
 | []=>some []
 | .int s::r=>(intsOf r).map (s::·)
 | _=>none
noncomputable def ygv:List PV->Option (List Bool)
 | []=>some []
 | .bl s::r=>(ygv r).map (s::·)
 | _=>none
theorem yju:∀ ss,intsOf (ss.map .int)=some ss
 | []=>rfl
 | s::ss=>by show (intsOf _).map _=_;rw [yju ss];rfl
theorem yme:∀ ss,ygv (ss.map .bl)=some ss
 | []=>rfl
 | s::ss=>by show (ygv _).map _=_;rw [yme ss];rfl
theorem yjv:∀ {xs:List PV}{ss:List Str}{vs:List V},strsOf xs=some ss->RepL K F m xs vs->vs=ss.map V.str
 | [],_,_,e,r=>by cases e;exact r
 | x::xs,ss,_,e,⟨v,c,ev,h,l⟩=>by
  cases x<;>try cases e
  obtain ⟨ts,b,a⟩:=Option.map_eq_some_iff.mp e;subst a;rw [ev,h,yjv b l];rfl
theorem yjw:∀ {xs:List PV}{ss:List Int}{vs:List V},intsOf xs=some ss->RepL K F m xs vs->vs=ss.map V.int
 | [],_,_,e,r=>by cases e;exact r
 | x::xs,ss,_,e,⟨v,r',ev,h,l⟩=>by
  cases x<;>try cases e
  obtain ⟨ts,b,a⟩:=Option.map_eq_some_iff.mp e;subst a;rw [ev,h,yjw b l];rfl
theorem yia:∀ {xs:List PV}{ss:List Bool}{vs:List V},ygv xs=some ss->RepL K F m xs vs->vs=ss.map V.bl
 | [],_,_,e,r=>by cases e;exact r
 | x::xs,ss,_,e,⟨v,c,ev,h,l⟩=>by
  cases x<;>try cases e
  obtain ⟨ts,b,a⟩:=Option.map_eq_some_iff.mp e;subst a;rw [ev,h,yia b l];rfl
def yEP:List PV->AH->Option (PV×AH):=fun xs h=>match xs with|[x]=>(match ybM x h with|some ys=>(match intsOf ys with|some ns=>some (.int ns.sum,h)|none=>none)|none=>none)|_=>none
theorem yFD:yhY K yHw yEP:=by
 intro W xs vs Q z h' w r e q;unfold yEP at e;split at e
 .split at e
  .rename_i ys f;split at e
   .rename_i ns d;cases e;obtain ⟨v,rfl,g⟩:=yoN r;obtain ⟨a,us,rfl,hs,c⟩:=yZ w f g;have:=yjw d c;subst this;exact ⟨a,ns,rfl,hs,q _ W rfl (.refl w) rfl⟩
   .cases e
  .cases e
 .cases e
def ytW:List PV->AH->Option (PV×AH):=fun xs h=>match xs with|[x]=>(match ybM x h with|some ys=>(match ygv ys with|some ns=>some (.bl (ns.all id),h)|none=>none)|none=>none)|_=>none
theorem yzg:yhY K yHv ytW:=by
 intro W xs vs Q z h' w r e q;unfold ytW at e;split at e
 .split at e
  .rename_i ys f;split at e
   .rename_i ns d;cases e;obtain ⟨v,rfl,g⟩:=yoN r;obtain ⟨a,us,rfl,hs,c⟩:=yZ w f g;have:=yia d c;subst this;exact ⟨a,ns,rfl,hs,q _ W rfl (.refl w) rfl⟩
   .cases e
  .cases e
 .cases e
noncomputable def isStr:PV->AH->Bool:=fun x _=>match x with|.str _=>true|_=>false
def yrJ:PM:=fun x xs h=>match x,xs with|.str sep,[y]=>(match ybM y h with|some ys=>(match strsOf ys with|some ts=>if sep.length<=16/\(ts.map (·.length)).sum+ts.length<=1048576 then some (.str (Str.join sep ts),h) else none|none=>none)|none=>none)|_,_=>none
theorem yCw:yiU K "str" isStr rJoin yrJ:=by
 refine ⟨fun W x v w r c=>?_,fun W x v xs vs Q z h' w h r e q=>?_⟩
 .unfold isStr at c;split at c
  .rw [r];rfl
  .cases c
 .unfold yrJ at e;split at e
  .rename_i sep y;split at e
   .rename_i ys f;split at e
    .rename_i ts i;split at e
     .rename_i c;cases e;obtain ⟨u,rfl,g⟩:=yoN r;obtain ⟨a,us,rfl,hs,d⟩:=yZ w f g;have:=yjv i d;subst this;exact ⟨sep,a,ts,h,rfl,hs,c.1,c.2,q _ W rfl (.refl w) rfl⟩
     .cases e
    .cases e
   .cases e
  .cases e
noncomputable def ynH:PM:=fun x xs h=>match x,xs with|.str z,[.str s]=>(match s.cps.toList with|[c]=>if z.length<=1000/\c∈z.cps.toList then some (.int (z.cps.toList.idxOf c),h) else none|_=>none)|_,_=>none
theorem yuZ:yiU K "str" isStr yrh ynH:=by
 refine ⟨fun W x v w r c=>?_,fun W x v xs vs Q z h' w f r e q=>?_⟩
 .unfold isStr at c;split at c
  .rw [r];rfl
  .cases c
 .unfold ynH at e;split at e
  .rename_i z s;split at e
   .rename_i c d;split at e
    .rename_i hl;cases e;obtain ⟨u,rfl,b⟩:=yoN r;exact ⟨z,c,f,by rw [b,one_sign d],hl.1,hl.2,q _ W rfl (.refl w) rfl⟩
    .cases e
   .cases e
  .cases e
end PX
namespace PX
open PySem L2
variable {K:Ck}
noncomputable def putN (f:Str) (x:PV) (ns:List Str) (xs:List PV):List Str×List PV:=if f∈ns then (ns,xs.set (ns.idxOf f) x) else (ns++[f],xs++[x])
theorem yoP f y:∀ ns vs,vs.length=ns.length->yjU f y (ns.zip vs)=if f∈ns then ns.zip (vs.set (ns.idxOf f) y) else (ns++[f]).zip (vs++[y])
 | [],[],_=>by simp [yjU]
 | n::ns,v::vs,hl=>by
  have d:=yoP f y ns vs (by simpa using hl);show (if n=f then (n,y)::ns.zip vs else (n,v)::yjU f y (ns.zip vs))=_
  by_cases h:n=f
  .simp_all
  .have h':¬ f=n:=fun z=>h z.symm
   have c:(n == f)=false:=by simpa using h
   rw [if_neg h,d]
   by_cases b:f∈ns
   .simp [b,h',List.idxOf_cons,c]
   .simp [b,h']
theorem yjx:∀ {ns:List Str}{vs:List V},vs.length=ns.length->f∈ns->(ns.zip vs).lookup f=vs[ns.idxOf f]?
 | [],_,_,h=>by simp at h
 | n::ns,v::vs,hl,h=>by
  show List.lookup f ((n,v)::ns.zip vs)=_
  by_cases b:f=n
  .simp_all
  .rw [yBZ b,yjx (by simpa using hl) (by simpa [b] using h)];have c:(n == f)=false:=by simpa using fun z=>b z.symm
   simp [List.idxOf_cons,c]
theorem ydG:∀ {ns:List Str}{vs:List V},f∉ns->(ns.zip vs).lookup f=none
 | [],_,_=>by simp
 | n::ns,[],_=>by simp
 | n::ns,v::vs,h=>by show List.lookup f ((n,v)::ns.zip vs)=_;rw [yBZ (fun z=>h (by simp_all)),ydG fun z=>h (mem_cons_of_mem _ z)]
noncomputable def yha (x:PV) (h:AH):Option (Nat×List Str×List PV):=match x with|.ins k ns xs=>some (k,ns,xs)|.loc n=>(match h[n]? with|some (.ins k ns xs)=>some (k,ns,xs)|_=>none)|_=>none
theorem ygw (w:WOk K W) (e:yha x W.h=some (k,ns,xs)) (r:ycC K W x v):∃ a c vs,v=.ref a/\W.H a=some (.ins (K.A k) c (ns.zip vs))/\vs.length=ns.length/\ycD K W xs vs:=by
 unfold yha at e;split at e
 .cases e;obtain ⟨a,c,vs,ev,hs,hl,d⟩:=r;exact ⟨a,c,vs,ev,w.le _ _ hs,hl,d⟩
 .split at e
  .rename_i f;cases e;obtain ⟨a,ev,g,h,c,vs,hp,hl,d⟩:=w.loc f r;exact ⟨a,c,vs,ev,hp,hl,d⟩
  .cases e
 .cases e
def yY (cs:List Nat) (f:Str) (e:XE):XE:=fun ρ h=>ob (e ρ h) fun x h1=>match yha x h1 with|some (k,ns,xs)=>if k∈cs/\f∈ns then (match xs[ns.idxOf f]? with|some y=>some (y,h1)|none=>none) else none|none=>none
theorem yzh (l:∀ k∈cs,Cls K.K (K.A k)/\NoAttr K.K (K.A k) f) (a:ybH K j i):ybH K (yHj K.K j f) (yY cs f i):=by
 intro A W ρ Z Q z h' g e q;obtain ⟨x,h1,t,d⟩:=yj e;refine a A W ρ Z _ x h1 g t fun v B w h p=>?_
 subst w;split at d
 .rename_i k ns xs n;split at d
  .rename_i c;split at d
   .rename_i y o;cases d;obtain ⟨a,m,vs,ev,hp,hl,r⟩:=ygw h.ok n p;obtain ⟨u,h2,s⟩:=r.get o;exact ⟨a,_,m,_,u,ev,hp,(l k c.1).1,(l k c.1).2,by rw [yjx hl c.2];exact h2,q _ B rfl h s⟩
   .cases d
  .cases d
 .cases d
def ycy (cs:List Nat) (i:Nat) (f:Str) (e:XE):XS:=fun ρ h=>ob (e ρ h) fun x h1=>match ρ[i]? with
 | some (.own (.ins k ns xs))=>if k∈cs/\ns.length<1000 then some (.nx (ρ.set i (.own (.ins k (putN f x ns xs).1 (putN f x ns xs).2))),h1) else none
 | _=>none
theorem RepL.putN {ns:List Str}(r:RepL K F m xs vs) (hl:vs.length=ns.length) (b:Rep K F m x v) :
  ∃ us,yjU f v (ns.zip vs)=(PX.putN f x ns xs).1.zip us/\us.length=(PX.putN f x ns xs).1.length/\RepL K F m (PX.putN f x ns xs).2 us:=by
 rw [yoP f v ns vs hl];unfold PX.putN
 by_cases h:f∈ns
 .rw [if_pos h,if_pos h];exact ⟨_,rfl,by simp_all,r.set _ b⟩
 .rw [if_neg h,if_neg h];exact ⟨_,rfl,by simp_all,r.snoc b⟩
def ytX (K:Ck) (t:TS) (s:XS):Prop:=∀ (W0 W:Wd) (ρ ρ':PSt) (Z:St) (D:Ends) (h':AH),Good K W0 W ρ Z->s ρ W.h=some (.nx ρ',h')->(∀ W',W'.h=h'->Lf K W W'->Good K W0 W' ρ' Z->D.nx Z W'.H)->t D Z W.H
theorem yva (t:∀ k∈cs,Cls K.K (K.A k)/\NoAttr K.K (K.A k) f) (a:ybH K l r):ytX K (yFo K.K (yqw i) l f) (ycy cs i f r):=by
 intro H W ρ ρ' Z D h' g e q;obtain ⟨x,h1,F,d⟩:=yj e;split at d
 .rename_i k ns xs s;split at d
  .rename_i c;cases d;refine a H W ρ Z _ x _ g F fun v I G u A=>?_
   have m:=g.step u;obtain ⟨p,j,o,L,M,h,n,vs,B,E,w⟩:=m.own i _ s;obtain ⟨us,J,C,y⟩:=w.putN E A;refine ⟨_,j,p,_,n,_,rfl,B,(t k c.1).1,(t k c.1).2,by simp_all,?_⟩;rw [J];exact q (yyU I p _) G (yrx u o) (m.mut s j o L h (fun z=>by cases z) ⟨h,n,us,yK,C,y⟩)
  .cases d
 .cases d
theorem yvb (a:ytX K t s) (b:ytX K u s'):ytX K (yFg t u) (ym s s'):=by
 intro f W ρ ρ' Z D h' g e q;obtain ⟨o1,h1,p,d⟩:=yj e;cases o1 with
 | nx ρ1=>exact a f W ρ ρ1 Z _ h1 g p fun j n l h=>b f j ρ1 ρ' Z D h' h (by rw [n];exact d) fun m o i k=>q m o (l.trans i) k
 | rt y=>cases d
 | bk y=>cases d
 | ct y=>cases d
def ymY (N:Nat) (k:Nat) (s:XS):List PV->AH->Option (Nd×AH):=fun xs h=>ob (s (.own (.ins k [] [])::(xs.map .val++replicate (N-(xs.length+1)) .no)) h) fun o h1=>match o with|.nx ρ=>(match ρ[0]? with|some (PVar.own d)=>some (d,h1)|_=>none)|_=>none
def spI (K:Ck) (n k:Nat) (f:List PV->AH->Option (Nd×AH)):Sp:=fun vs H Q _=>∃ (W:Wd) (x dx:Addr) (args:List V) (xs:List PV) (d:Nd) (h':AH),vs=.ref x::args/\W.H x=none/\W.H dx=none/\dx≠x/\H=upd (upd W.H dx (.own x)) x (.ins (K.A k) dx []) /\
 WOk K W/\ycD K W xs args/\xs.length=n/\f xs W.h=some (d,h')/\∀ W',W'.h=h'->Le K W W'->x∉W'.m->d≠.dead->NdAt K W'.F W'.H W'.m d x->Q .non W'.H
theorem yzi {f} {Q:VK}(h:spI K n k f vs H Q E):vs.length=n+1:=by obtain ⟨W,x,b,args,xs,d,h',rfl,_,_,_,_,w,r,a,_⟩:=h;rw [length_cons,r.len,a]
theorem yvc {N:List Str}{Q:VK}(hN:n+1<=N.length) (a:ytX K t s) (h:spI K n k (ymY N.length k s) vs H Q E):t ⟨fun _ S=>Q .non S,Q,bk,ct⟩ (L2.start N vs) H:=by
 obtain ⟨W,x,f,args,xs,d,h',rfl,u,hd,A,rfl,w,r,hn,e,q⟩:=h;obtain ⟨o,h1,O,m⟩:=yj e;have J:Le K W (yjt W f (.own x)):=ydt w hd;have F:(yjt W f (.own x)).H x=none:=(yL A.symm).trans u;have Z:Le K (yjt W f (.own x)) (yjt (yjt W f (.own x)) x (.ins (K.A k) f [])):=ydt J.ok F;have l:=J.trans Z;have I:=ygY (K:=K) (N:=N.drop 1) w r;have g:Good K W (yjt (yjt W f (.own x)) x (.ins (K.A k) f [])) (.own (.ins k [] [])::(xs.map .val++replicate (N.length-(xs.length+1)) .no)) (L2.start N (.ref x::args)):=by
  have es:L2.start N (.ref x::args)=some (.ref x)::L2.start (N.drop 1) args:=by
   have T:N.length-(args.length+1)=(N.drop 1).length-args.length:=by rw [length_drop];omega
   unfold L2.start;rw [map_cons,List.cons_append,length_cons,T]
  have L:N.length-(xs.length+1)=(N.drop 1).length-xs.length:=by rw [length_drop];omega
  rw [es,L];have D:=I.step l;have c:∀ (j:Nat) (d:Nd),(xs.map PVar.val++replicate ((N.drop 1).length-xs.length) .no)[j]?≠some (.own d):=fun j d z=>by
   by_cases G:j<xs.length
   .rw [getElem?_append_left (by simpa using G),getElem?_map,List.getElem?_eq_getElem G] at z;cases z
   .rw [getElem?_append_right (by simp;omega),getElem?_replicate] at z;split at z<;>cases z
  refine ⟨l,by rw [length_cons,length_cons,I.len],fun j y z=>?_,fun j d z=>?_,fun i j d d' v z R=>?_⟩
  .cases j with
   | zero=>cases z
   | succ j=>exact D.val j y z
  .cases j with
   | zero=>cases z;exact ⟨x,rfl,w.out u,u,(fun z=>by cases z),w.ff u,f,[],yK,rfl,rfl⟩
   | succ j=>exact absurd z (c j d)
  .cases i with
   | zero =>
    cases j with
    | zero=>exact absurd rfl v
    | succ j=>exact absurd R (c j d')
   | succ i=>exact absurd z (c i d)
 cases o with
 | rt y=>cases m
 | bk ρ=>cases m
 | ct ρ=>cases m
 | nx ρ =>
  refine a W _ _ ρ _ _ h1 g O fun U P lf g'=>?_
  dsimp only at m;split at m
  .rename_i d' C;cases m;obtain ⟨p,B,M,b3,Y,X⟩:=g'.own 0 _ C;have B:some (some (V.ref x))=some (some (V.ref p)):=B;cases B;exact q U P g'.le M Y X
  .cases m
def yge (f:List PV->AH->Option (Nd×AH)) (a:XA):XO:=fun ρ h=>ob (a ρ h) f
theorem yoQ {f} (a:ylY K t e) (B:∀ ρ h xs h',e ρ h=some (xs,h')->xs.length=n):ykg K (yuq (K.A k) (spI K n k f) [] y t) (yge f e):=by
 intro D W ρ Z Q d h' g C q;obtain ⟨xs,h1,o,r⟩:=yj C;refine a D W ρ Z _ xs h1 g o fun vs E s l w=>?_
 subst s;intro x F m p i;rw [append_nil];exact ⟨E,x,F,vs,xs,d,h',rfl,m,p,i,rfl,l.ok,w,B _ _ _ _ o,r,fun z u v A j c=>⟨rfl,q x z u (l.trans v) A (l.fresh m) j c⟩⟩
def yrK (k:Nat):XO:=fun _ h=>some (.ins k [] [],h)
theorem yrL:ykg K (ywW (K.A k)) (yrK k):=by intro m W ρ Z Q d h' g e q;cases e;intro x b c l f;have w:=g.ok;have i:Le K W (yjt W b (.own x)):=ydt w l;have h:(yjt W b (.own x)).H x=none:=(yL f.symm).trans c;have j:Le K _ (yjt _ x (.ins (K.A k) b [])):=ydt i.ok h;exact q x (yjt (yjt W b _) x _) rfl (i.trans j) (w.out c) c (fun z=>by cases z) ⟨w.ff c,b,[],yK,rfl,rfl⟩
def ynI (m:Str) (f:Nat->Fn) (e:XE):XE:=fun ρ h=>ob (e ρ h) fun x h1=>match yha x h1 with|some (k,ns,_)=>if m∈ns then none else f k [x] h1|none=>none
theorem yvd (a:ybH K i j):ybH K (ywX K.A m (fun k=>spE K 1 (f k)) i) (ynI m f j):=by
 intro y W ρ Z Q z h' g e q;obtain ⟨x,h1,A,d⟩:=yj e;refine a y W ρ Z _ x h1 g A fun v B o h l=>?_
 subst o;split at d
 .rename_i k ns xs p;split at d
  .cases d
  .rename_i t;obtain ⟨b,s,vs,ev,hp,hl,C⟩:=ygw h.ok p l;exact ⟨b,k,s,_,ev,hp,ydG t,B,[x],z,h',rfl,h.ok,⟨v,[],rfl,l,rfl⟩,rfl,d,fun u w r n r2=>q u w r (h.trans n) r2⟩
 .cases d
def yCx (tb:List (Nat×Nat×Bool)) (x c:PV) (h:AH):Option Bool:=match c with
 | .ty n=>(match x with
  | .int _=>if n = "int" then some true else if n = "bool"\/n = "str"\/n = "list"\/n = "tuple"\/n = "dict" then some false else none
  | .bl _=>if n = "int"\/n = "bool" then some true else if n = "str"\/n = "list"\/n = "tuple"\/n = "dict" then some false else none
  | .str _=>if n = "str" then some true else if n = "int"\/n = "bool"\/n = "list"\/n = "tuple"\/n = "dict" then some false else none
  | .non=>if n = "int"\/n = "bool"\/n = "str"\/n = "list"\/n = "tuple"\/n = "dict" then some false else none
  | .tup _=>if n = "tuple" then some true else if n = "int"\/n = "bool"\/n = "str"\/n = "list"\/n = "dict" then some false else none
  | _=>(match ybM x h with|some _=>if n = "list" then some true else if n = "int"\/n = "bool"\/n = "str"\/n = "tuple"\/n = "dict" then some false else none|none=>none))
 | .cls c'=>(match yha x h with|some (k,_)=>(tb.find? fun r=>r.1 == k && r.2.1 == c').map (·.2.2)|none=>none)
 | _=>none
def yiW (tb:List (Nat×Nat×Bool)):List PV->AH->Option (PV×AH):=fun xs h=>match xs with|[x,c]=>(match yCx tb x c h with|some b=>some (.bl b,h)|none=>none)|_=>none
theorem yfI (C:∀ r∈tb,∀ (H:Hp) (a j:Addr) (fs:List (Str×V)),H a=some (.ins (K.A r.1) j fs)->IsI K.K H (.ref a) (.ref (K.A r.2.1)) r.2.2):yhY K (yHt K.K) (yiW tb):=by
 intro W xs vs Q z h' w r e q;unfold yiW at e;split at e
 .rename_i x c;split at e
  .rename_i b f;cases e;obtain ⟨v,u,rfl,i,l⟩:=yHy r;refine ⟨v,u,b,rfl,?_,q _ W rfl (.refl w) rfl⟩;unfold yCx at f;split at f
   .rename_i n;obtain rfl:u=.ty n:=l;split at f
    .rw [show v=_ from i]
     repeat' split at f
     all_goals cases f
     .rename_i g;subst g;exact ynn
     .rename_i g;rcases g with rfl|rfl|rfl|rfl|rfl
      .exact ylG
      .exact ynt
      .exact ylK
      .exact ykb
      .exact ylL
    .rw [show v=_ from i]
     repeat' split at f
     all_goals cases f
     .rename_i g;rcases g with rfl|rfl
      .exact ypQ
      .exact ynp
     .rename_i g;rcases g with rfl|rfl|rfl|rfl
      .exact ypR
      .exact ynu
      .exact ylM
      .exact ynv
    .rw [show v=_ from i]
     repeat' split at f
     all_goals cases f
     .rename_i g;subst g;exact ynq
     .rename_i g;rcases g with rfl|rfl|rfl|rfl|rfl
      .exact ynw
      .exact ylN
      .exact ylO
      .exact ykc
      .exact ylP
    .rw [show v=_ from i]
     repeat' split at f
     all_goals cases f
     .rename_i g;rcases g with rfl|rfl|rfl|rfl|rfl|rfl
      .exact yno
      .exact ylQ
      .exact ynx
      .exact ylR
      .exact ykd
      .exact ylS
    .obtain ⟨a,us,rfl,hs,_⟩:=i;have hp:(∃ xs,W.H a=some (.tup xs))\/∃ o,K.K.lookup a=some o/\o.cls=.type "tuple":=hs.elim (fun h=>.inl ⟨_,w.le _ _ h⟩) fun ⟨o,its,n,s,A,_⟩=>.inr ⟨o,s,A⟩
     repeat' split at f
     all_goals cases f
     .rename_i g;subst g;exact ykf hp
     .rename_i g;rcases g with rfl|rfl|rfl|rfl|rfl
      .exact ynA hp
      .exact ylV hp
      .exact ynB hp
      .exact ylW hp
      .exact ylX hp
    .split at f
     .rename_i ys y;obtain ⟨a,us,rfl,hp,_⟩:=yZ w y i
      repeat' split at f
      all_goals cases f
      .rename_i g;subst g;exact ylH hp
      .rename_i g;rcases g with rfl|rfl|rfl|rfl|rfl
       .exact yny hp
       .exact ylT hp
       .exact ynz hp
       .exact yke hp
       .exact ylU hp
     .cases f
   .rename_i c';obtain rfl:u=.ref (K.A c'):=l;split at f
    .rename_i k p B;obtain ⟨r',h1,h2⟩:=Option.map_eq_some_iff.mp f;have m:=List.mem_of_find?_eq_some h1;have hp:=List.find?_some h1;simp only [and_eq_true,beq_iff_eq] at hp;obtain ⟨a,j,us,rfl,hs,_⟩:=ygw w B i;obtain ⟨t,D⟩:=hp;have:=C r' m W.H a j (p.1.zip us) (by rw [t];exact hs);rw [D,h2] at this;exact this
    .cases f
   .cases f
  .cases e
 .cases e
end PX
namespace PX
open PySem L2
section
variable {ρ:PSt}{h h1:AH}{x y z:PV}{a b c:XE}{ca cb:XT}{aa:XA}{eo:XO}{s u:XS}{i:Nat}{p:P2}
theorem ybo {Y e:Type}{x:Y}{h:AH}{f:Y->AH->Option e}:ob (some (x,h)) f=f x h:=id rfl
theorem yFE {Y d:Type}{f:Y->AH->Option d}:ob none f=none:=id rfl
theorem yCy {Y e j:Type}{o:Option _}{f:Y->AH->Option _}{g:e->AH->Option j}:ob (ob o f) g=ob o fun x h=>ob (f x h) g:=by cases o<;>rfl
theorem yFF {Y g:Type}{q:Prop} [Decidable q] {o e:Option _}{f:Y->AH->Option g}:ob (if q then o else e) f=if q then ob o f else ob e f:=by split<;>rfl
theorem yrM:ye 0 (.val x::ρ) h=some (x,h):=id rfl
theorem yCz:ye (n+1) (v::ρ) h=ye n ρ h:=by simp [ye]
theorem x_c:xC x ρ h=some (x,h):=id rfl
theorem yEQ:xOp p a b ρ h=ob (a ρ h) fun x h1=>ob (b ρ h1) fun y h2=>p x y h2:=id rfl
theorem yFG {p:P2O}:yuC p a b ρ h=ob (a ρ h) fun x h1=>ob (b ρ h1) fun y h2=>p x y h2:=id rfl
theorem yIp {p}:xUn p a ρ h=ob (a ρ h) fun x h1=>p x h1:=id rfl
theorem yHz:oB (.bl k) h=some (k,h):=id rfl
theorem yzj {p f:P2}:yfM p f a b c ρ h=ob (a ρ h) fun x h1=>ob (b ρ h1) fun y h2=>ob (p x y h2) fun z e=>ob (oB z e) fun k e=>if k=true then ob (c ρ e) fun w g=>f y w g else some (.bl false,e):=id rfl
theorem yxf:yt a ρ h=ob (a ρ h) oB:=id rfl
theorem yCA:ykh a b ρ h=ob (a ρ h) fun x h1=>ob (oB x h1) fun k h1=>if k=true then b ρ h1 else some (.bl false,h1):=id rfl
theorem yFH:yyB ca cb ρ h=ob (ca ρ h) fun k h1=>if k=true then cb ρ h1 else some (false,h1):=id rfl
theorem yIq:xOr ca cb ρ h=ob (ca ρ h) fun k h1=>if k=true then some (true,h1) else cb ρ h1:=id rfl
theorem yFI:yjs ca ρ h=ob (ca ρ h) fun k h1=>some (!k,h1):=id rfl
theorem yIr:xIf ca a b ρ h=ob (ca ρ h) fun k h1=>if k=true then a ρ h1 else b ρ h1:=id rfl
theorem yve:yh ρ h=some ([],h):=id rfl
theorem yCB:yb a aa ρ h=ob (a ρ h) fun x h1=>ob (aa ρ h1) fun xs h2=>some (x::xs,h2):=id rfl
theorem yFJ:yen aa ρ h=ob (aa ρ h) fun xs h1=>if xs.length<=1000 then some (.tup xs,h1) else none:=id rfl
theorem yFK:yeU aa ρ h=ob (aa ρ h) fun xs h1=>if xs.length<=1000 then some (.lst xs,h1) else none:=id rfl
noncomputable def fzN:Nd->AH->Option (PV×AH)
 | .lst xs,h=>some (.lst xs,h)
 | .ins k ns xs,h=>some (.ins k ns xs,h)
 | _,_=>none
theorem yzk:xFz eo ρ h=ob (eo ρ h) fzN:=by unfold xFz;congr;funext d h1;cases d<;>rfl
theorem yzl:fzN (.lst xs) h=some (.lst xs,h):=id rfl
theorem yFL:ylr eo ρ h=ob (eo ρ h) fun d h1=>some (.loc h1.length,h1++[d]):=id rfl
theorem x_call:yJ f aa ρ h=ob (aa ρ h) f:=id rfl
theorem yIs {f}:xCB f aa ρ h=ob (aa ρ h) f:=id rfl
theorem yFM {f}:yhX f aa ρ h=ob (aa ρ h) f:=id rfl
theorem yER {q} {p:PM}:xBM q p a aa ρ h=ob (a ρ h) fun x h1=>if q x h1=true then ob (aa ρ h1) fun xs h2=>p x xs h2 else none:=id rfl
theorem yzm {s:Str}:isStr (.str s) h=true:=id rfl
theorem yCC {f}:yge f aa ρ h=ob (aa ρ h) f:=id rfl
theorem yCD:yS ρ h=some (.nx ρ,h):=id rfl
def sqK (u:XS):Out->AH->Option (Out×AH)
 | .nx ρ,h=>u ρ h
 | .rt x,h=>some (.rt x,h)
 | .bk ρ,h=>some (.bk ρ,h)
 | .ct ρ,h=>some (.ct ρ,h)
theorem yeB:ym s u ρ h=ob (s ρ h) (sqK u):=by unfold ym;congr;funext o h1;cases o<;>rfl
theorem yib:sqK u (.nx ρ) h=u ρ h:=id rfl
theorem yFN:sqK u (.rt x) h=some (.rt x,h):=id rfl
theorem yrN:ybf a ρ h=ob (a ρ h) fun _ h1=>some (.nx ρ,h1):=id rfl
theorem yrO:yO a ρ h=ob (a ρ h) fun x h1=>some (.rt x,h1):=id rfl
theorem yzn:ybG ca s u ρ h=ob (ca ρ h) fun k h1=>if k=true then s ρ h1 else u ρ h1:=id rfl
theorem yrP:ybs a g ρ h=ob (a ρ h) fun x h1=>(g x ρ).bind fun ρ'=>some (.nx ρ',h1):=id rfl
theorem yCE:ygb eo i ρ h=ob (eo ρ h) fun d h1=>some (.nx (ρ.set i (.own d)),h1):=id rfl
theorem yCF:yv i x ρ=some (ρ.set i (.val x)):=id rfl
theorem yCG:yEN [] ρ=some ρ:=id rfl
theorem yzo:yrs g r (x::xs) ρ=(g x ρ).bind fun ρ'=>r xs ρ':=id rfl
theorem yCH:yCk n g (.tup xs) ρ=if xs.length=n then g xs ρ else none:=id rfl
theorem yFO:yrt i s ρ h=s (ynE i ρ) h:=id rfl
theorem yFP:ynE 0 (v::ρ)=yuK v::ρ:=id rfl
theorem yFQ:ynE (n+1) (v::ρ)=v::ynE n ρ:=id rfl
theorem yFR:yuK (.own (.lst xs))=.val (.lst xs):=id rfl
theorem ynJ:yiV e g s ρ h=ob (e ρ h) fun xs h1=>ygc g s xs ρ h1:=id rfl
theorem yxg:ygc g s [] ρ h=some (.nx ρ,h):=id rfl
def frK (g:XG) (s:XS) (xs:List PV):Out->AH->Option (Out×AH)
 | .nx ρ,h=>ygc g s xs ρ h
 | .ct ρ,h=>ygc g s xs ρ h
 | .bk ρ,h=>some (.nx ρ,h)
 | .rt y,h=>some (.rt y,h)
theorem yrQ:ygc g s (x::xs) ρ h=(g x ρ).bind fun ρ1=>ob (s ρ1 h) (frK g s xs):=by unfold ygc;congr;funext ρ1;congr;funext o h1;cases o<;>rfl
theorem yzp:frK g s xs (.nx ρ) h=ygc g s xs ρ h:=id rfl
noncomputable def fnK:Out->AH->Option (PV×AH)
 | .rt x,h=>some (x,h)
 | .nx _,h=>some (.non,h)
 | _,_=>none
theorem yo:ybg N s xs h=ob (s (xs.map .val++replicate (N-xs.length) .no) h) fnK:=by unfold ybg;congr;funext o h1;cases o<;>rfl
theorem yFS:fnK (.rt x) h=some (x,h):=id rfl
theorem yFT:fnK (.nx ρ) h=some (.non,h):=id rfl
def yeZ (cs:List Nat) (f:Str) (x:PV) (h:AH):Option (PV×AH):=match yha x h with|some (k,ns,xs)=>if k∈cs/\f∈ns then (match xs[ns.idxOf f]? with|some y=>some (y,h)|none=>none) else none|none=>none
theorem ykl:yY cs f a ρ h=ob (a ρ h) (yeZ cs f):=id rfl
def yvf (m:Str) (f:Nat->Fn) (x:PV) (h:AH):Option (PV×AH):=match yha x h with|some (k,ns,_)=>if m∈ns then none else f k [x] h|none=>none
theorem yCI:ynI m f a ρ h=ob (a ρ h) (yvf m f):=id rfl
theorem x_i {i j:Int}:oI g (.int i) (.int j) h=some (g i j,h):=id rfl
theorem yIt {C:Int->Int->Prop} [∀ i j,Decidable (C i j)] {g:Int->Int->PV}{i j:Int}:oIc C g (.int i) (.int j) h=if C i j then some (g i j,h) else none:=id rfl
theorem yCJ {i j:Int}(h1:-18446744073709551616<j) (h2:j<18446744073709551616):MulOk i j=True:=eq_true (.inr ⟨h1,h2⟩)
theorem yFU {i j:Int}(h1:0<=i) (h2:i<18446744073709551616) (e:0<=j) (d:j<=1000000):PowOk i j=True:=eq_true ⟨⟨h1,h2⟩,e,d⟩
theorem yFV {i j:Int}:oEq (.int i) (.int j) h=some (.bl (decide (i=j)),h):=by show ite (true=true) (some (PV.bl (decide (V.int i=V.int j)),h)) none=_;simp
theorem yFW {i j:Str}:oEq (.str i) (.str j) h=some (.bl (decide (i=j)),h):=by show ite (true=true) (some (PV.bl (decide (V.str i=V.str j)),h)) none=_;simp
theorem yFX {i j:Int}:oNe (.int i) (.int j) h=some (.bl (!decide (i=j)),h):=by show ite (true=true) (some (PV.bl (!decide (V.int i=V.int j)),h)) none=_;simp
theorem yFY {i j:Str}:oNe (.str i) (.str j) h=some (.bl (!decide (i=j)),h):=by show ite (true=true) (some (PV.bl (!decide (V.str i=V.str j)),h)) none=_;simp
theorem yFZ:yze x .non h=some (.bl (isN x),h):=id rfl
theorem yCK:yuW x .non h=some (.bl !isN x,h):=id rfl
theorem yxh {i j:Str}:yhZ (.str i) (.str j) h=if i.length+j.length<=100000 then some (.str (i++j),h) else none:=id rfl
theorem yCL {i:Int}:ycM (.lst xs) (.int i) h=(atI xs i).bind fun v=>some (v,h):=by simp only [ycM];cases atI xs i<;>rfl
theorem yGa {i:Int}:ycM (.scr xs) (.int i) h=(atI xs i).bind fun v=>some (.int v,h):=by simp only [ycM];cases atI xs i<;>rfl
theorem yzq {i:Int}:ybO (.tup xs) (.int i) h=(atI xs i).bind fun v=>some (v,h):=by simp only [ybO];cases atI xs i<;>rfl
theorem yGb {s:Str}{i:Int}:yrE (.str s) (.int i) h=(atI s.cps.toList i).bind fun c=>if s.length<=100000 then some (sgn c,h) else none:=by simp only [yrE];cases atI s.cps.toList i<;>rfl
theorem yGc:yoM (.lst xs) f e h=some (.lst (yoL xs f e),h):=id rfl
theorem yCM:yoM (.scr xs) f e h=some (.lst (yoL (xs.map .int) f e),h):=id rfl
theorem yzr:yrG (.lst xs) (.lst ys) h=if xs.length+ys.length<=100000 then some (.lst (xs++ys),h) else none:=id rfl
theorem yGd:yCt (.lst xs) (.int k) h=if -1000000<=k/\k<=100000/\xs.length*k.toNat<=100000 then some (.lst (repL k.toNat xs),h) else none:=id rfl
theorem yGe {p} {lo hi}:yqx p a lo hi ρ h=ob (a ρ h) fun x h1=>ob (lo ρ h1) fun l h2=>ob (hi ρ h2) fun u h3=>p x l u h3:=id rfl
theorem yCN:yeo a ρ h=ob (a ρ h) fun x h1=>match x with|.int i=>some (some i,h1)|_=>none:=id rfl
theorem ymf:ybW [.lst xs] h=some (.int xs.length,h):=id rfl
theorem yCO:ybW [.scr xs] h=some (.int xs.length,h):=id rfl
theorem yCP {z:Str}:ynG [.str z] h=if z.length<=100000 then some (.int z.length,h) else none:=id rfl
theorem yzs:ybc [.lst xs] h=some (.lst xs,h):=id rfl
theorem yES (e:a ρ h=some (.lst xs,h1)):xIL a ρ h=some (xs,h1):=by unfold xIL;rw [e];rfl
theorem yrR:yfd e ix a ρ h=ob (e ρ h) fun xs h1=>if xs.length<=100000 then ob (yls a (ygU ix ρ) xs h1) fun ys h2=>some (.lst ys,h2) else none:=id rfl
end
end PX
namespace L2
open PySem PySem.Spec PyProof.Rows
section
variable {κ:Type} [DecidableEq κ]
noncomputable def ymg (kvs:List (κ×V)) (k:κ):Option V:=(kvs.find? fun kv=>decide (kv.1=k)).map (·.2)
noncomputable def putK (kvs:List (κ×V)) (k:κ) (v:V):List (κ×V) :=
 if (kvs.any fun kv=>decide (kv.1=k))=true then kvs.map (fun kv=>if kv.1=k then (kv.1,v) else kv) else kvs++[(k,v)]
theorem ykm {p:κ×V}{r:List _}{k:κ}(e:p.1=k):ymg (p::r) k=some p.2:=by simp [ymg,find?_cons,e]
theorem ykn {p:κ×V}{r:List _}{k:κ}(e:¬ p.1=k):ymg (p::r) k=ymg r k:=by simp [ymg,find?_cons,e]
theorem yoR (k:κ):∀ kvs,(kvs.any fun b=>decide (b.1=k))=(ymg kvs k).isSome
 | []=>rfl
 | p::r=>by
  rw [any_cons]
  by_cases e:p.1=k
  .simp only [ykm e,decide_eq_true e,Bool.true_or,Option.isSome_some]
  .rw [ykn e,decide_eq_false e];exact yoR k r
theorem ygf (kvs:List (κ×V)) (k:κ) (v:V):(putK kvs k v).length<=kvs.length+1:=by
 unfold putK;split
 .rw [length_map];omega
 .rw [length_append,length_cons,length_nil];omega
theorem RelO.isSome_eq (r:RelO o u):o.isSome=u.isSome:=by
 cases o with
 | none=>cases u with
  | none=>rfl
  | some _=>exact (r).elim
 | some _=>cases u with
  | none=>exact (r).elim
  | some _=>rfl
theorem KV.val (r:KV kvs vs) (k:κ):RelO (ymg kvs k) (valueAt vs k):=by
 induction r with
 | nil=>exact True.intro
 | @cons p q ps qs h t ih =>
  obtain ⟨h1,h2⟩:=h
  by_cases e:p.1=k
  .have c:=h1.symm.trans e;have b:valueAt (q::qs) k=some q.2:=by simp [valueAt,find?_cons,c]
   rw [ykm e,b];exact h2
  .have c:¬ q.1=k:=fun z=>e (h1.trans z)
   have b:valueAt (q::qs) k=valueAt qs k:=by simp [valueAt,find?_cons,c]
   rw [ykn e,b];exact ih
theorem KV.any (r:KV kvs vs) (k:κ):(kvs.any fun b=>decide (b.1=k))=vs.any fun b=>decide (b.1=k):=by
 induction r with
 | nil=>rfl
 | cons h t ih=>simp_all
theorem KV.repl {kvs:List _}{vs:List _}(r:KV kvs vs) (k:κ) {y:V}{u:Value}(c:RelV y u) :
  KV (kvs.map fun b=>if b.1=k then (b.1,y) else b) (vs.map fun b=>if b.1=k then (b.1,u) else b):=by
 induction r with
 | nil=>exact .nil
 | @cons p q ps qs h t ih =>
  rw [map_cons,map_cons];refine .cons ?_ ih;obtain ⟨h1,h2⟩:=h
  by_cases e:p.1=k
  .rw [if_pos e,if_pos (h1.symm.trans e)];exact ⟨h1,c⟩
  .rw [if_neg e,if_neg fun z=>e (h1.trans z)];exact ⟨h1,h2⟩
theorem KV.put {kvs:List _}{vs:List _}(r:KV kvs vs) (k:κ) {y:V}{u:Value}(b:RelV y u):KV (putK kvs k y) (stored vs k u):=by
 unfold putK stored;rw [r.any k]
 by_cases e:(vs.any fun c=>decide (c.1=k))=true
 .rw [if_pos e,if_pos e];exact r.repl k b
 .rw [if_neg e,if_neg e];exact Paired.snoc r ⟨rfl,b⟩
theorem KV.length {kvs:List (κ×V)}{vs:List _}(r:KV kvs vs):kvs.length=vs.length:=Paired.length r
end
theorem yvg (r:RelV (kV k) u):(ycN P w).is k u=true:=by
 cases k with
 | inl i=>obtain ⟨t,e⟩:=(r);subst e;exact yna P w i t
 | inr x=>obtain ⟨t,e⟩:=(r);subst e;exact ynb P w x t
theorem ymh:∀ {ks:List Key}{us:List Value},Vals (ks.map kV) us->ItemsAre (ycN P w) ks us
 | [],_,r=>by cases r;exact .nil
 | k::ks,_,r=>by
  cases r with
  | cons h t=>exact .cons (yvg h) (ymh t)
abbrev KT (H:Hp):List (List Key×V)->List (List Key×Addr×Value)->Prop:=Paired fun p q=>p.1=q.1/\H q.2.1=some (.tup (p.1.map kV))/\RelV p.2 q.2.2
theorem KT.val (r:KT H kvs xs) k:RelO (ymg kvs k) ((atKey xs k).map (·.2)):=by
 induction r with
 | nil=>exact True.intro
 | @cons p q ps qs h t ih =>
  obtain ⟨h1,_,h2⟩:=h
  by_cases e:p.1=k
  .have c:=h1.symm.trans e;have b:atKey (q::qs) k=some q.2:=by simp [atKey,find?_cons,c]
   rw [ykm e,b];exact h2
  .have c:¬ q.1=k:=fun z=>e (h1.trans z)
   have b:atKey (q::qs) k=atKey qs k:=by simp [atKey,find?_cons,c]
   rw [ykn e,b];exact ih
theorem KT.repl (r:KT H kvs xs) k {y:V}{u:Value}(d:RelV y u) :
  KT H (kvs.map fun b=>if b.1=k then (b.1,y) else b) (xs.map (putAt k u)):=by
 induction r with
 | nil=>exact .nil
 | @cons p q ps qs h t ih =>
  rw [map_cons];refine .cons ?_ ih;obtain ⟨h1,h2,c⟩:=h;unfold putAt
  by_cases e:p.1=k
  .rw [if_pos e,if_pos (h1.symm.trans e)];exact ⟨h1,h2,d⟩
  .rw [if_neg e,if_neg fun z=>e (h1.trans z)];exact ⟨h1,h2,c⟩
theorem KT.put (r:KT H kvs xs) k {b:Addr}{y:V}{u:Value}(d:H b=some (.tup (k.map kV))) (c:RelV y u) :
  KT H (putK kvs k y) (storedH xs k b u):=by
 have e:(kvs.any fun f=>decide (f.1=k))=(atKey xs k).isSome:=by rw [yoR,(r.val k).isSome_eq,isSome_map]
 unfold putK storedH;rw [e]
 by_cases q:(atKey xs k).isSome=true
 .rw [if_pos q,if_pos q];exact r.repl k c
 .rw [if_neg q,if_neg q];exact Paired.snoc r ⟨rfl,d,c⟩
theorem KT.keeps (r:KT H kvs xs) (d:∀ b ys,H b=some (.tup ys)->c b=some (.tup ys)):KT c kvs xs :=
 Paired.mapP r fun _ _ z=>⟨z.1,d _ _ z.2.1,z.2.2⟩
section
variable {P:Program}{w:World}{H:Hp}{h:Heap}{a:Addr}
theorem yCQ (b:HOk P w H h) (e:Rd H a u):ObjOk P w H h a u:=e.ok b
theorem yvh (c:HOk P w H h) (e:Rd H a (.dK kvs)):kvs.length<=sizeLine/\(a == sysModules)=false/\∃ vs,KV kvs vs/\h.DictOf (ycN P w) a vs :=
 yCQ c e
theorem yzt (c:HOk P w H h) (e:H a=some (.dK kvs)):kvs.length<=sizeLine/\(a == sysModules)=false/\∃ vs,KV kvs vs/\h.DictOf (ycN P w) a vs:=yvh c (.inl e)
theorem yoS {ks:List Key}(d:HOk P w H h) (e:H a=some (.tup (ks.map kV))):(tupleKind (ycN P w)).is h ks a:=by
 obtain ⟨_,its,r,o,h1,h2,n,c⟩:=(d a _ e)
 exact ⟨o,its.toArray,n,h1,h2,c,by simpa using ymh r⟩
theorem yvi (f:HOk P w H h) (e:Rd H a (.dT kvs)):kvs.length<=sizeLine/\(a == sysModules)=false /\
  ∃ xs,KT H kvs xs/\h.DictOfH (tupleKind (ycN P w)) a xs:=by
 obtain ⟨z,y,xs,r,o,es,ep,h1,h2,g,i,j⟩:=(yCQ f e)
 refine ⟨z,y,xs,r,o,es,ep,h1,h2,g,i,fun x c=>?_,j⟩;have d:∀ {l:List _}{m:List _},KT H l m->∀ x∈m,(tupleKind (ycN P w)).is h x.1 x.2.1:=by
  intro l m q
  induction q with
  | nil=>grind
  | @cons p q ps qs hq t ih =>
   intro x c;rcases mem_cons.mp c with e|c
   .exact yoS f (by simp_all)
   .exact ih x c
 exact d r x c
theorem yGf (c:HOk P w H h) (e:H a=some (.dT kvs)):kvs.length<=sizeLine/\(a == sysModules)=false /\
  ∃ xs,KT H kvs xs/\h.DictOfH (tupleKind (ycN P w)) a xs:=yvi c (.inl e)
end
def DGet (H:Hp) (a:Addr) (y:V) (r:Option V):Prop :=
 (∃ kvs k,Rd H a (.dK kvs)/\y=kV k/\r=ymg kvs k)\/∃ kvs k b,Rd H a (.dT kvs)/\y=.ref b/\H b=some (.tup (k.map kV))/\r=ymg kvs k
def DPut (H:Hp) (a:Addr) (y v:V) (H':Hp):Prop :=
 (∃ kvs k,H a=some (.dK kvs)/\y=kV k/\kvs.length<sizeLine/\H'=upd H a (.dK (putK kvs k v))) \/
 ∃ kvs k b,H a=some (.dT kvs)/\y=.ref b/\H b=some (.tup (k.map kV))/\kvs.length<sizeLine/\H'=upd H a (.dT (putK kvs k v))
theorem DPut.k {H:Hp}{a:Addr}{kvs:List _}{k:Key}{v:V}(e:H a=some (.dK kvs)) (hl:kvs.length<sizeLine):DPut H a (kV k) v (upd H a (.dK (putK kvs k v))):=.inl ⟨kvs,k,e,rfl,hl,rfl⟩
section
variable {X:Cx}{pins:List (Addr×Obj)}{Z:St}{H:Hp}{s:Shared}{a:Addr}{y v:V}{u r:Value}{o:Option V}{A:Around}{E:Value->Shared->Prop}
theorem Inv.big (I:Inv X pins Z H s):sysModules<s.heap.objs.size:=by have h:=(I.mod.glob.keeps I.bk).lt;exact Nat.lt_trans (by decide) h
theorem yrS {Q:Value->Shared->Prop}(t:A.units+1<cLine) (I:Inv X pins Z H s) (g:DGet H a y (some v)) (n:RelV y u) (h:∀ f s',Inv X pins Z H s'->RelV v f->Q f s') :
  wpAny (model X.prog X.w) A (getItem (.ref a) u) Q E s:=by
 rcases g with ⟨kvs,k,e,m,l⟩|⟨kvs,k,b,e,m,q,l⟩
 .subst m;obtain ⟨z,w,vs,d,dd⟩:=yvh I.hok e;obtain ⟨f,j,c⟩:=RelO.some_of (by rw [l];exact d.val k);exact wpAny_getItem_of (yvg n) dd.mapOf j (h f _ (I.tok _) c)
 .subst m;cases (n);obtain ⟨z,w,xs,d,dd⟩:=yvi I.hok e;obtain ⟨f,j,c⟩:=RelO.some_of (by rw [l];exact d.val k);obtain ⟨p,hp,i⟩:=Option.map_eq_some_iff.mp j;refine wpAny_getItem_heap (tupleKind_room_in1 t) (yoS I.hok q) dd hp ?_;rw [i];exact h f _ (I.tok _) c
theorem yIu {Q:Value->Shared->Prop}(i:A.units+1<cLine) (I:Inv X pins Z H s) (g:DGet H a y o) (f:RelV y u) (h:∀ s',Inv X pins Z H s'->Q (.bool o.isSome) s') :
  wpAny (model X.prog X.w) A (compareOp .In u (.ref a)) Q E s:=by
 rcases g with ⟨kvs,k,e,d,l⟩|⟨kvs,k,b,e,d,j,l⟩
 .subst d;obtain ⟨z,hd,vs,c,dd⟩:=yvh I.hok e;refine wpAny_in_of (yvg f) hd dd.mapOf ?_;rw [<- (c.val k).isSome_eq,<- l];exact h _ (I.tok _)
 .subst d;cases (f);obtain ⟨z,hd,xs,c,dd⟩:=yvi I.hok e;refine wpAny_in_heap (tupleKind_room_in1 i) (yoS I.hok j) hd dd ?_;have q:=(c.val k).isSome_eq;rw [isSome_map] at q;rw [<- q,<- l];exact h _ (I.tok _)
theorem ynK (I:Inv X pins Z H s) (e:Mut (H a)) (hs:Heap.SameBut a s.heap h') (g:∃ q,h'.get? a=some q) (d:ObjOk X.prog X.w (upd H a c) h' a c) :
  Inv X pins Z (upd H a c) { s with heap:=h',toks:=t' } :=
 I.write e (.inl rfl) (fun b q f z=>(hs.2 b f).trans z) g d
theorem yxi {h':Heap}{kvs:List _}(z:kvs.length<=sizeLine) (c:(a == sysModules)=false) (b:KV kvs vs) (dd:h'.DictOf (ycN P w) a vs) :
  ObjOk P w d h' a (.dK kvs):=⟨z,c,vs,b,dd⟩
theorem yrT {Q:Unit->Shared->Prop}(C:A.units+1<cLine) (I:Inv X pins Z H s) (g:DPut H a y v t) (B:RelV y u) (p:RelV v r) (h:∀ s',Inv X pins Z t s'->Q () s') :
  wpAny (model X.prog X.w) A (setItem (.ref a) u r) Q E s:=by
 rcases g with ⟨kvs,k,e,n,l,j⟩|⟨kvs,k,b,e,n,w,l,j⟩
 .subst n j;obtain ⟨z,m,vs,d,dd⟩:=yzt I.hok e;have hz:vs.length<=sizeLine:=by rw [<- d.length];exact z
  have hl:(putK kvs k v).length<=sizeLine:=by have:=ygf kvs k v;omega
  refine wpAny_setItem_pairs (yvg B) dd fun h' f hs=>h _ ?_
  have D:∃ q,h'.get? a=some q:=let ⟨q,_,_,i,_⟩:=f;⟨q,i⟩
  exact ynK I (by rw [e];exact True.intro) hs D (yxi hl m (d.put k p) f)
 .subst n j;cases (B);obtain ⟨z,m,xs,d,dd⟩:=yGf I.hok e;have hz:xs.length<=sizeLine:=by rw [<- Paired.length d];exact z
  have hl:(putK kvs k v).length<=sizeLine:=by have:=ygf kvs k v;omega
  refine wpAny_setItem_heap (tupleKind_room_in1 C) (yoS I.hok w) dd fun h' f hs=>h _ ?_
  obtain ⟨q,es,ep,i,h2,F,G,_,J⟩:=f;refine ynK I (by rw [e];exact True.intro) hs ⟨q,i⟩ ⟨hl,m,_,(d.put k w p).keeps fun c ys x=>?_,q,es,ep,i,h2,F,G,J⟩;rw [yL (yFc x e fun z=>nomatch z)];exact x
end
noncomputable def yGg (i:Expr):Prop:=∀ ov iv,subscripted i false ov iv=operate [ov,iv] (getItem ov iv)
theorem yzu {prog:Program}{w:World}{A:Around}{E:Value->Shared->Prop}{s:Shared}{env:Env}{value slice:Expr}{pos:Pos}{T id:String}{Q:Value->Shared->Prop}
  (hl:typeLookup (.type T) "__getitem__" = pure (some (.builtin id))) (hs:yGg slice)
  (h:wpAny (model prog w) A (eval value env) (fun o d=>wpAny (model prog w) A (eval slice env) (fun i b=>b.TypeIs o T/\wpAny (model prog w) A (getItem o i) Q E b) E d) E s) :
  wpAny (model prog w) A (eval (.Subscript value slice pos) env) Q E s:=by
 refine Subscript_ (wpAny_mono h (fun o d h₁=>wpAny_mono h₁ (fun i b c=>?_) fun _ _ x=>x) fun _ _ x=>x);obtain ⟨j,c⟩:=c;refine wpAny_bind ?_;refine wpAny_bind (wpAny_specialOf j hl ?_);have g:wpAny (model prog w) A (subscripted slice false o i) (fun r e=>wpAny (model prog w) A (letTemporaryGo value o r >>= fun _=>pure r) Q E e) E b:=by rw [hs o i];exact wpAny_operating (wpAny_mono c (fun r e f=>wpAny_bind (wpAny_letTemporaryGo (wpAny_pure f))) fun _ _ x=>x)
 first
  | exact wpAny_pure (wpAny_bind g)
  | simp_all
  | exact wpAny_bind g
theorem ynL {X:Cx}{d:List _}{Z:St}{H:Hp}{s:Shared}{a:Addr}{y:V}{o:Option V}(I:Inv X d Z H s) (g:DGet H a y o):s.TypeIs (.ref a) "dict":=by
 rcases g with ⟨kvs,k,e,_,_⟩|⟨kvs,k,b,e,_,_,_⟩
 .obtain ⟨_,_,vs,_,dd⟩:=yvh I.hok e;exact dd.typeIs
 .obtain ⟨_,_,xs,_,dd⟩:=yvi I.hok e;exact dd.typeIs
def yCR (td ty:TE):TE:=fun Z H Q=>td Z H fun x H1=>ty Z H1 fun y H2=>∃ a v,x=.ref a/\DGet H2 a y (some v)/\Q v H2
def yHA (ty td:TE):TE:=fun Z H Q=>ty Z H fun y H1=>td Z H1 fun x H2=>∃ a o,x=.ref a/\DGet H2 a y o/\Q (.bl o.isSome) H2
def yCS (td ty tv:TE):TS:=fun D Z H=>tv Z H fun v H1=>td Z H1 fun x H2=>ty Z H2 fun y H3=>∃ a H4,x=.ref a/\DPut H3 a y v H4/\D.nx Z H4
section
variable {X:Cx}{o i e value:Expr}{pos pos' tpos:Pos}{td ty tv:TE}
theorem yzv (m:X.A.units+1<cLine) (t:PE X o td) (p:PE X i ty) (hs:yGg i):PE X (.Subscript o i pos) (yCR td ty):=by
 intro c s Z H Q I h;refine yzu PySem.F.slot_dict_getitem.lookup hs (thn (t c s Z H _ I h) fun u s1 z'=>?_);obtain ⟨x,r,q,n,w⟩:=z';refine thn (p c s1 Z r _ q w) fun B s2 y'=>?_
 obtain ⟨y,A,f,j,a,v,z,g,l⟩:=y';subst z;obtain rfl:u=Value.ref a:=n;exact ⟨ynL f g,yrS m f g j fun C s3 k d=>⟨v,A,k,d,l⟩⟩
theorem yCT (d:X.A.units+1<cLine) (r:PE X i ty) (n:PE X o td):PC X .In i o (yHA ty td):=by
 intro c s Z H Q I h;refine thn (r c s Z H _ I h) fun A s1 z'=>?_
 obtain ⟨y,m,w,t,k⟩:=z';refine thn (n c s1 Z m _ w k) fun u s2 y'=>?_
 obtain ⟨x,p,f,v,a,j,q,g,l⟩:=y';subst q;obtain rfl:u=Value.ref a:=v;exact yIu d f g t fun s3 z=>⟨.bl j.isSome,p,z,rfl,l⟩
theorem yzw (z:X.A.units+1<cLine) (t:PE X o td) (q:PE X i ty) (f:PE X value tv) (hs:swapsWith value (some (.Subscript o i pos')) pos.line X.env=pure false) :
  PS X (.Assign [.Subscript o i pos'] value pos) (yCS td ty tv):=by
 intro c s Z H D I h;refine wpAny_Assign_Subscript (thn (f c s Z H _ I h) fun r s1 z'=>?_) hs;obtain ⟨v,B,d,F,m⟩:=z';refine thn (t c s1 Z B _ d m) fun u s2 y'=>?_
 obtain ⟨x,E,j,p,l⟩:=y';refine thn (q c s2 Z E _ j l) fun L s3 w'=>?_
 obtain ⟨y,J,A,C,a,k,w,g,n⟩:=w';subst w;obtain rfl:u=Value.ref a:=p;exact yrT z A g C F fun s4 G=>⟨Z,k,G,n⟩
end
theorem yvj (h:Heap) (b:sysModules<h.objs.size):ObjOk P w H (h.push { cls:=.type "dict",data:=.dict #[] }) h.objs.size (.dK []) :=
 ⟨zero_le _,beq_eq_false_iff_ne.mpr (Ne.symm (ne_of_lt b)),[],.nil,Heap.DictOf.new h⟩
def yxj:TE:=fun _ H Q=>∀ p,H p=none->Q (.ref p) (upd H p (.dK []))
section
variable {X:Cx}{pos:Pos}
theorem yvk:PE X (.Dict [] [] pos) yxj:=fun b s Z H Q I h =>
 wpAny_Dict_empty ⟨.ref s.heap.objs.size,_,I.laid (fun _ _ q=>Heap.get?_push_of_some _ q) (Nat.le_refl _) (yvj s.heap I.big),rfl,h _ (I.hok.fresh (Nat.le_refl _))⟩
end
def yrU (kvs more:List (Key×V)):List (Key×V):=more.foldl (fun acc kv=>putK acc kv.1 kv.2) kvs
theorem KV.merge:∀ {b:List _}{c:List _}{kvs:List _}{vs:List _},KV b c->KV kvs vs->KV (yrU kvs b) (merged vs c):=by
 intro b c kvs vs r
 induction r generalizing kvs vs with
 | nil=>intro q;exact q
 | @cons p q ps qs h t ih =>
  intro d;have e:KV (putK kvs p.1 p.2) (stored vs q.1 q.2):=by have:=d.put p.1 h.2;rw [<- h.1];exact this
  exact ih e
theorem ygx:∀ b kvs,(yrU kvs b).length<=kvs.length+b.length
 | [],kvs=>by show kvs.length<=kvs.length+0;omega
 | p::r,kvs=>by have h1:=ygx r (putK kvs p.1 p.2);have h2:=ygf kvs p.1 p.2;show (yrU _ r).length<=_;grind
structure M1 (X:Cx) (o:Expr) (m:Str) (apos:Pos) (e:Expr) (cpos:Pos):Prop where
 base:attributeBase o m X.env (eval o X.env)=eval o X.env
 few:((backTo cpos (starEach [e] X.env)).all (fun x=>!x.1) && (backToKw cpos (keywordEach [] X.env)).all (fun x=>x.1.isSome)
  && decide (([e]:List Expr).length+([]:List Keyword).length+(if ([]:List Keyword).isEmpty then 0 else 1)<30))=true
 line:(apos.endLine == cpos.line)=true
 trees:backTo cpos (starEach [e] X.env)=[(false,eval e X.env)]
structure M2 (X:Cx) (o:Expr) (m:Str) (apos:Pos) (e f:Expr) (cpos:Pos):Prop where
 base:attributeBase o m X.env (eval o X.env)=eval o X.env
 few:((backTo cpos (starEach [e,f] X.env)).all (fun x=>!x.1) && (backToKw cpos (keywordEach [] X.env)).all (fun x=>x.1.isSome)
  && decide (([e,f]:List Expr).length+([]:List Keyword).length+(if ([]:List Keyword).isEmpty then 0 else 1)<30))=true
 line:(apos.endLine == cpos.line)=true
 trees:backTo cpos (starEach [e,f] X.env)=[(false,eval e X.env),(false,eval f X.env)]
end L2
namespace PX
open PySem L2
variable {K:Ck}
theorem yjy {Y:Type}{l:List Y}(h:l.Nodup)  c (b:j<l.length) (e:l[i]=l[j]):i=j:=by
 have p:=List.pairwise_iff_getElem.mp h;rcases Nat.lt_trichotomy i j with z|z|z
 .exact absurd e (p i j c b z)
 .exact z
 .exact absurd e.symm (p j i b c z)
def ynM (W:Wd) (n:Nat) (a:Addr) (o:HO) (d:Nd):Wd:=⟨W.F,upd W.H a o,W.m,W.h.set n d⟩
theorem ygg (w:WOk K W) (e:W.h[n]?=some d) (k:W.m[n]?=some a) (y:W.F a=none) (at':NdAt K W.F (upd W.H a o) W.m d' a) (B:∀ ks xs,d≠.fz ks xs:=by intro _ _ z;cases z):Le K W (ynM W n a o d'):=by
 have A:=(List.getElem?_eq_some_iff.mp e).1;have l:=mem_of_getElem? k;refine ⟨⟨fun b u q=>?_,by show W.m.length=(W.h.set n d').length;rw [length_set];exact w.len,w.nd,fun j v b g h=>?_⟩,Same.refl _,prefix_refl _,fun b u q p=>?_,fun b u _ _ f=>f,fun b z x=>absurd z x,fun j ks xs g=>?_⟩
 .have:=yby q y
  exact (yL this).trans (w.le _ _ q)
 .have g:(W.h.set n d')[j]?=some v:=g
  by_cases i:n=j
  .subst i;rw [getElem?_set_self A] at g;cases g;have h:W.m[n]?=some b:=h;rw [k] at h;cases h;exact at'
  .rw [getElem?_set_ne i] at g;have p:b≠a:=fun z=>by subst z;have h1:=List.getElem?_eq_some_iff.mp k;have h2:=List.getElem?_eq_some_iff.mp h;obtain ⟨s,t⟩:=h1;obtain ⟨r,m⟩:=h2;exact i (yjy w.nd s r (t.trans m.symm))
   exact (w.at_ j v b g h).mono (Same.refl _) (prefix_refl _) (fun u q=>(yL p).trans q) id
 .have:b≠a:=fun z=>p (z ▸ l)
  exact (yL this).trans q
 .have i:n≠j:=fun z=>by subst z;rw [e] at g;simp_all
  refine ⟨(getElem?_set_ne i).trans g,fun b h=>yL fun z=>?_⟩;subst z;obtain ⟨s,t⟩:=List.getElem?_eq_some_iff.mp k;obtain ⟨r,m⟩:=List.getElem?_eq_some_iff.mp h;exact i (yjy w.nd s r (t.trans m.symm))
def yhb:PV->AH->Bool:=fun x h=>match ybM x h with|some _=>true|none=>false
theorem yoT (w:WOk K W) (r:ycC K W x v) (c:yhb x W.h=true):tyV K.K "list" v W.H:=by
 unfold yhb at c;split at c
 .rename_i xs b;obtain ⟨a,vs,rfl,hs,_⟩:=yZ w b r;exact .inl ⟨rfl,vs,SqL.of hs⟩
 .cases c
noncomputable def yiX:PM:=fun x ys h=>match x,ys with|.loc n,[y]=>(match h[n]? with|some (.lst xs)=>if xs.length<100000 then some (.non,h.set n (.lst (xs++[y]))) else none|_=>none)|_,_=>none
theorem yrV:yiU K "list" yhb ynl yiX:=by
 refine ⟨fun W x v w r c=>yoT w r c,fun W x v xs vs Q z h' w j r e q=>?_⟩;unfold yiX at e;split at e
 .rename_i n y;split at e
  .rename_i ys f;split at e
   .rename_i hl;cases e;obtain ⟨u,rfl,h⟩:=yoN r;obtain ⟨a,ev,i,g,us,hp,d⟩:=w.loc f j;refine ⟨a,us,u,ev,rfl,hp,by rw [d.len];exact big hl,?_⟩;exact q _ (ynM W n a _ _) rfl (ygg w f i g ⟨g,_,yK,d.snoc h⟩) rfl
   .cases e
  .cases e
 .cases e
noncomputable def yhv:PM:=fun x ys h=>match x,ys with|.loc n,[]=>(match h[n]? with|some (.lst xs)=>(match xs[xs.length-1]? with|some y=>some (y,h.set n (.lst xs.dropLast))|none=>none)|_=>none)|_,_=>none
theorem RepL.dropLast (r:RepL K F m xs vs):RepL K F m xs.dropLast vs.dropLast:=by rw [List.dropLast_eq_take,List.dropLast_eq_take,r.len];exact r.take _
theorem yoU:yiU K "list" yhb yHq yhv:=by
 refine ⟨fun W x v w r c=>yoT w r c,fun W x v xs vs Q z h' w k r e q=>?_⟩;unfold yhv at e;split at e
 .rename_i n;split at e
  .rename_i ys g;split at e
   .rename_i y l;cases e;obtain rfl:vs=[]:=r;obtain ⟨a,ev,j,f,us,hp,d⟩:=w.loc g k;obtain ⟨u,h,i⟩:=d.get l;refine ⟨a,us,u,ev,rfl,hp,by rw [d.len];exact h,?_⟩;exact q u (ynM W n a _ _) rfl (ygg w g j f ⟨f,_,yK,d.dropLast⟩) i
   .cases e
  .cases e
 .cases e
def ymi (eo ei ev:XE):XS:=fun ρ h=>ob (ev ρ h) fun v h1=>ob (eo ρ h1) fun o h2=>ob (ei ρ h2) fun i h3=>match o,i with
 | .loc n,.int k=>(match h3[n]? with|some (.lst xs)=>(match ixN xs.length k with|some j=>some (.nx ρ,h3.set n (.lst (xs.set j v)))|none=>none)|_=>none)
 | _,_=>none
theorem yvl (a:ybH K A eo) (b:ybH K u ei) (c:ybH K y ev):yeY K (yBN y (yHg A u yBV)) (ymi eo ei ev):=by
 intro s W ρ d D o h' g e q;obtain ⟨v,h1,I,L⟩:=yj e;obtain ⟨x,h2,Q,S⟩:=yj L;obtain ⟨i,H,E,f⟩:=yj S;refine c s W ρ d _ v h1 g I fun Z T M r N=>?_
 subst M;refine a s T ρ d _ x h2 (g.step r) Q fun Y F O m r2=>?_
 subst O;refine b s F ρ d _ i H (g.step (r.trans m)) E fun X B G h P=>?_
 subst G;have w:=h.ok;split at f
 .rename_i n k;split at f
  .rename_i xs t;split at f
   .rename_i j J;cases f;obtain ⟨p,ep,U,z,us,hp,C⟩:=w.loc t (h.rep r2);refine ⟨p,us,k,j,ep,P,hp,by rw [C.len];exact J,?_⟩;have R:Le K B (ynM B n p _ (.lst _)):=ygg w t U z ⟨z,_,yK,C.set j ((m.trans h).rep N)⟩;have l:=r.trans (m.trans (h.trans R));exact q _ d rfl l.lf (g.step l)
   .cases f
  .cases f
 .cases f
noncomputable def keyOf:PV->Option Key
 | .int i=>some (.inl i)
 | .str s=>some (.inr s)
 | _=>none
theorem yic (e:keyOf x=some k) (r:ycC K W x v):v=kV k:=by cases x<;>cases e<;>exact r
noncomputable def ymj (x:PV) (h:AH):Option (List Key×List PV):=match x with|.loc n=>(match h[n]? with|some (.dct ks xs)=>some (ks,xs)|_=>none)|_=>none
noncomputable def yko:List Key->List PV->Key->Option PV
 | k::ks,x::xs,j=>if k=j then some x else yko ks xs j
 | _,_,_=>none
noncomputable def yrW:List Key->Key->Bool
 | [],_=>false
 | k::ks,j=>if k=j then true else yrW ks j
noncomputable def setK {Y:Type}:List Key->List Y->Key->Y->List Y
 | k::ks,x::xs,j,y=>if k=j then y::setK ks xs j y else x::setK ks xs j y
 | _,xs,_,_=>xs
def ydm (ks:List Key) (xs:List PV) (k:Key) (x:PV):List Key×List PV:=if yrW ks k=true then (ks,setK ks xs k x) else (ks++[k],xs++[x])
theorem ykp {Y:Type}:∀ ks xs j (y:Y),(setK ks xs j y).length=xs.length
 | [],_,_,_=>by simp [setK]
 | _::_,[],_,_=>by simp [setK]
 | k::ks,x::xs,j,y=>by show (if k=j then y::setK ks xs j y else x::setK ks xs j y).length=_;split<;>simp [ykp ks xs j y]
theorem RepL.setK:∀ {xs:List PV}{vs:List V} ks j {y:PV}{u:V},RepL K F m xs vs->Rep K F m y u->RepL K F m (PX.setK ks xs j y) (PX.setK ks vs j u)
 | [],_,ks,j,y,u,h,_=>by rw [h];cases ks<;>exact rfl
 | x::xs,_,[],j,y,u,h,_=>by obtain ⟨v,r,e,h1,l⟩:=h;subst e;exact ⟨v,r,rfl,h1,l⟩
 | x::xs,_,k::ks,j,y,u,⟨v,r,e,h1,l⟩,b=>by
  subst e;show RepL K F m (if k=j then y::PX.setK ks xs j y else x::PX.setK ks xs j y) (if k=j then u::PX.setK ks r j u else v::PX.setK ks r j u);have c:=RepL.setK ks j l b;split
  .exact ⟨u,_,rfl,b,c⟩
  .exact ⟨v,_,rfl,h1,c⟩
theorem ykq:∀ {ks:List Key}{xs:List PV}{vs:List V} j,RepL K F m xs vs->vs.length=ks.length->(∀ x,yko ks xs j=some x->∃ v,ymg (ks.zip vs) j=some v/\Rep K F m x v)/\(yko ks xs j=none->ymg (ks.zip vs) j=none)
 | [],xs,vs,j,r,hl=>by refine ⟨fun x e=>?_,fun _=>rfl⟩;cases xs<;>cases e
 | k::ks,[],vs,j,r,hl=>by rw [r] at hl;cases hl
 | k::ks,x::xs,_,j,⟨v,r',e,h,l⟩,hl=>by
  subst e;have c:=ykq j l (by simpa using hl);have hz:ymg ((k::ks).zip (v::r')) j=if k=j then some v else ymg (ks.zip r') j:=by
   unfold ymg
   by_cases b:k=j
   .simp [b]
   .simp [b]
  show (∀ y,(if k=j then some x else yko ks xs j)=some y->_)/\((if k=j then some x else yko ks xs j)=none->_)
  by_cases b:k=j
  .simp_all
  simp_all
theorem yrX j:∀ ks (vs:List V),vs.length=ks.length->((ks.zip vs).any fun b=>decide (b.1=j))=yrW ks j
 | [],_,_=>by simp [yrW]
 | k::ks,[],h=>by cases h
 | k::ks,v::vs,h=>by
  rw [zip_cons_cons,any_cons,yrX j ks vs (by simpa using h)];show (decide _ || yrW ks j)=if k=j then true else yrW ks j
  simp_all
theorem yrY j (y:V):∀ (ks:List Key) vs,vs.length=ks.length->(ks.zip vs).map (fun b=>if b.1=j then (b.1,y) else b)=ks.zip (setK ks vs j y)
 | [],_,_=>rfl
 | k::ks,[],h=>rfl
 | k::ks,v::vs,h=>by
  rw [zip_cons_cons,map_cons,yrY j y ks vs (by simpa using h)];show (if k=j then (k,y) else (k,v))::_=(k::ks).zip (if k=j then y::setK ks vs j y else v::setK ks vs j y)
  by_cases c:k=j
  .simp_all
  simp_all
theorem yoV j y ks vs (hl:vs.length=ks.length):putK (ks.zip vs) j y=if yrW ks j=true then ks.zip (setK ks vs j y) else (ks++[j]).zip (vs++[y]):=by unfold putK;rw [yrX j ks vs hl,yrY j y ks vs hl,List.zip_append hl.symm];rfl
theorem ymk (w:WOk K W) (e:ymj x W.h=some (ks,xs)) (r:ycC K W x v):∃ a vs,v=.ref a/\W.H a=some (.dK (ks.zip vs))/\vs.length=ks.length/\ycD K W xs vs:=by
 unfold ymj at e;split at e
 .split at e
  .rename_i d;cases e;obtain ⟨a,ev,f,g,vs,hp,hl,c⟩:=w.loc d r;exact ⟨a,vs,ev,hp,hl,c⟩
  .cases e
 .cases e
noncomputable def yzx (x:PV) (h:AH):Option (List Key×List PV):=match x with|.loc n=>(match h[n]? with|some (.dct ks xs)=>some (ks,xs)|some (.fz ks xs)=>some (ks,xs)|_=>none)|_=>none
theorem yoW (w:WOk K W) (e:yzx x W.h=some (ks,xs)) (r:ycC K W x v):∃ a vs,v=.ref a/\Rd W.H a (.dK (ks.zip vs))/\vs.length=ks.length/\ycD K W xs vs:=by
 unfold yzx at e;split at e
 .split at e
  .rename_i d;cases e;obtain ⟨a,ev,f,g,vs,hp,hl,c⟩:=w.loc d r;exact ⟨a,vs,ev,.inl hp,hl,c⟩
  .rename_i d;cases e;obtain ⟨a,ev,f,g,o,vs,hp,hl,c⟩:=w.loc d r;exact ⟨a,vs,ev,.inr ⟨o,hp⟩,hl,c⟩
  .cases e
 .cases e
theorem DGet.r (e:Rd H a (.dK kvs)):DGet H a (kV k) (ymg kvs k):=.inl ⟨kvs,k,e,rfl,rfl⟩
def yid (ed ek:XE):XE:=fun ρ h=>ob (ed ρ h) fun d h1=>ob (ek ρ h1) fun k h2=>match yzx d h2,keyOf k with|some (ks,xs),some j=>(match yko ks xs j with|some x=>some (x,h2)|none=>none)|_,_=>none
theorem yvm (a:ybH K i ed) (b:ybH K l ek):ybH K (yCR i l) (yid ed ek):=by
 intro m W ρ Z Q z h' g e q;obtain ⟨d,h1,C,D⟩:=yj e;obtain ⟨k,h2,E,f⟩:=yj D;refine a m W ρ Z _ d h1 g C fun I G F n u=>?_
 subst F;refine b m G ρ Z _ k h2 (g.step n) E fun H y r h r2=>?_
 subst r;split at f
 .rename_i ks xs j o s;split at f
  .rename_i x t;cases f;obtain ⟨p,vs,ev,hp,hl,w⟩:=yoW h.ok o (h.rep u);obtain ⟨v,A,B⟩:=(ykq j w hl).1 _ t;have:=yic s r2;subst this;exact ⟨p,v,ev,by rw [<- A];exact DGet.r hp,q _ y rfl (n.trans h) B⟩
  .cases f
 .cases f
def yBo (neg:Bool) (ek ed:XE):XE:=fun ρ h=>ob (ek ρ h) fun k h1=>ob (ed ρ h1) fun d h2=>match yzx d h2,keyOf k with|some (ks,xs),some j=>some (.bl (if neg then !(yko ks xs j).isSome else (yko ks xs j).isSome),h2)|_,_=>none
theorem ypW {ks:List Key} j (r:RepL K F m xs vs) (hl:vs.length=ks.length):(ymg (ks.zip vs) j).isSome=(yko ks xs j).isSome:=by
 have h:=ykq j r hl;cases e:yko ks xs j with
 | none=>rw [h.2 e];rfl
 | some x=>obtain ⟨v,h1,_⟩:=h.1 x e;rw [h1];rfl
theorem yzy (b:ybH K l ek) (a:ybH K i ed):ybH K (yHA l i) (yBo false ek ed):=by
 intro m W ρ Z Q z h' g e q;obtain ⟨k,h1,w,A⟩:=yj e;obtain ⟨d,h2,s,h⟩:=yj A;refine b m W ρ Z _ k h1 g w fun D x y n t=>?_
 subst y;refine a m x ρ Z _ d h2 (g.step n) s fun C v B f r2=>?_
 subst B;split at h
 .rename_i ks xs j o r;cases h;obtain ⟨p,vs,ev,hp,hl,u⟩:=yoW f.ok o r2;have:=yic r (f.rep t);subst this;exact ⟨p,_,ev,DGet.r hp,q _ v rfl (n.trans f) (by rw [ypW j u hl];rfl)⟩
 .cases h
def ykr (ed ek ev:XE):XS:=fun ρ h=>ob (ev ρ h) fun v h1=>ob (ed ρ h1) fun d h2=>ob (ek ρ h2) fun k h3=>match d,keyOf k with
 | .loc n,some j=>(match h3[n]? with|some (.dct ks xs)=>if ks.length<1000 then some (.nx ρ,h3.set n (.dct (ydm ks xs j v).1 (ydm ks xs j v).2)) else none|_=>none)
 | _,_=>none
theorem yvn (a:ybH K C ed) (b:ybH K y ek) (c:ybH K B ev):yeY K (yCS C y B) (ykr ed ek ev):=by
 intro s W ρ d D o h' g e q;obtain ⟨v,h1,T,Z⟩:=yj e;obtain ⟨x,h2,R,J⟩:=yj Z;obtain ⟨i,I,S,k⟩:=yj J;refine c s W ρ d _ v h1 g T fun E W1 U r r1=>?_
 subst U;refine a s W1 ρ d _ x h2 (g.step r) R fun vx W2 P u r2=>?_
 subst P;refine b s W2 ρ d _ i I (g.step (r.trans u)) S fun vi t w3 m X=>?_
 subst w3;have w:=m.ok;split at k
 .rename_i n j Q;split at k
  .rename_i ks xs F;split at k
   .cases k;obtain ⟨p,ep,L,H,us,hp,hl,G⟩:=w.loc F (m.rep r2);have:=yic Q X;subst this;have f:=yoV j E ks us hl;have A:=(u.trans m).rep r1;have key:∃ h,putK (ks.zip us) j E=(ydm ks xs j v).1.zip h/\h.length=(ydm ks xs j v).1.length/\ycD K t (ydm ks xs j v).2 h:=by
     unfold ydm
     by_cases z:yrW ks j=true
     .rw [if_pos z] at f ⊢;exact ⟨_,f,by rw [ykp];exact hl,G.setK ks j A⟩
     .rw [if_neg z] at f ⊢;exact ⟨_,f,by simp_all,G.snoc A⟩
    obtain ⟨h,M,O,N⟩:=key;refine ⟨p,_,ep,DPut.k hp (by rw [length_zip,hl];exact ylF (by omega)),?_⟩;rw [M];have Y:Le K t (ynM t n p _ (.dct _ _)):=ygg w F L H ⟨H,h,yK,O,N⟩;have l:=r.trans (u.trans (m.trans Y));exact q _ d rfl l.lf (g.step l)
   .cases k
  .cases k
 .cases k
def ypX:XO:=fun _ h=>some (.dct [] [],h)
theorem yvo:ykg K yxj ypX:=by intro b W ρ Z Q d h' g e q;cases e;intro p hp;exact q p (yjt W p _) rfl (ydt g.ok hp) (g.ok.out hp) hp (fun z=>by cases z) ⟨g.ok.ff hp,[],yK,rfl,rfl⟩
end PX
namespace PX
open PySem L2
variable {K:Ck}
def itemsOf (x:PV) (h:AH):Option (List PV):=match x with|.tup xs=>some xs|_=>listOf x h
theorem ynN (w:WOk K W) (e:itemsOf x W.h=some xs) (r:ycC K W x v):∃ a vs,v=.ref a/\(SqL K.K W.H a vs\/SqT K.K W.H a vs)/\ycD K W xs vs:=by
 unfold itemsOf at e;split at e
 .cases e;obtain ⟨a,vs,ev,hs,c⟩:=r;exact ⟨a,vs,ev,.inr (ydu w hs),c⟩
 .obtain ⟨a,vs,ev,hs,c⟩:=ygZ w e r;exact ⟨a,vs,ev,.inl hs,c⟩
def svs:List PV->Option (List V)
 | []=>some []
 | x::xs=>match sv x,svs xs with|some v,some vs=>some (v::vs)|_,_=>none
theorem yrZ:∀ {xs:List PV}{us vs:List V},svs xs=some us->RepL K F m xs vs->vs=us/\us.all ygu=true
 | [],_,_,e,r=>by cases e;exact ⟨r,rfl⟩
 | x::xs,us,_,e,⟨v,r,ev,h,l⟩=>by
  unfold svs at e;split at e
  .rename_i u b a c;cases e;obtain ⟨h1,h2⟩:=yrZ c l;have d:v=u:=by cases x<;>cases a<;>exact h
   have f:ygu u=true:=by cases x<;>cases a<;>rfl
   simp_all
  .cases e
theorem yks (e:sv x=some u):ygu u=true:=by cases x<;>cases e<;>rfl
def yGh (neg:Bool):P2:=fun x y h=>match sv x,itemsOf y h with|some v,some ys=>(match svs ys with|some us=>some (.bl (if neg then !inV v us else inV v us),h)|none=>none)|_,_=>none
theorem yGi:yck K (rIn K.K neg) (yGh neg):=by
 intro W x y v u Q z h' w g h e q;unfold yGh at e;split at e
 .rename_i j ys ev d;split at e
  .rename_i us c;cases e;obtain rfl:=yfN ev g;obtain ⟨a,vs,rfl,hs,i⟩:=ynN w d h;obtain ⟨rfl,f⟩:=yrZ c i;exact ⟨a,vs,rfl,hs,yks ev,f,q _ W rfl (.refl w) rfl⟩
  .cases e
 .cases e
noncomputable def yGj:List V->Hp->VK->Prop:=fun xs H Q=>∃ i j,xs=[.int i,.int j]/\Q (.int (if j<i then j else i)) H
noncomputable def ykt:List PV->AH->Option (PV×AH):=fun xs h=>match xs with|[.int i,.int j]=>some (.int (if j<i then j else i),h)|_=>none
theorem yCU:yhY K yGj ykt:=by
 intro W xs vs Q z h' w r e q;unfold ykt at e;split at e
 .rename_i i j;cases e;obtain ⟨v,u,rfl,c,b⟩:=yHy r;exact ⟨i,j,by rw [c,b],q _ W rfl (.refl w) rfl⟩
 .cases e
end PX
namespace PX
open PySem L2
theorem yGk [i:Decidable True]:decide True=true:=by simp
theorem yGl [i:Decidable False]:decide False=false:=by simp
theorem yGm:(false=true)=False:=by simp
theorem yGn:(true=false)=False:=by simp
theorem yvp (I:Nat->PSt->AH->Prop) (R:PV->AH->Prop) (e:I 0 ρ h)
  (step:∀ i x ρ h,xs[i]?=some x->I i ρ h->∃ ρ1 o h',g x ρ=some ρ1/\s ρ1 h=some (o,h')/\match o with|.nx ρ'=>I (i+1) ρ' h'|.ct ρ'=>I (i+1) ρ' h'|.bk _=>False|.rt y=>R y h') :
  (∃ ρ' h',ygc g s xs ρ h=some (.nx ρ',h')/\I xs.length ρ' h')\/∃ y h',ygc g s xs ρ h=some (.rt y,h')/\R y h':=by
 have key:∀ n i ρ h,i+n=xs.length->I i ρ h->(∃ ρ' h',ygc g s (xs.drop i) ρ h=some (.nx ρ',h')/\I xs.length ρ' h')\/∃ y h',ygc g s (xs.drop i) ρ h=some (.rt y,h')/\R y h':=by
  intro n
  induction n with
  | zero =>
   intro i ρ h j d;have:i=xs.length:=by omega
   subst this;rw [List.drop_length];exact .inl ⟨ρ,h,rfl,d⟩
  | succ n ih =>
   intro i ρ h j d;have b:i<xs.length:=by omega
   obtain ⟨ρ1,o,h',k,f,c⟩:=step i _ ρ h (List.getElem?_eq_getElem b) d;rw [List.drop_eq_getElem_cons b,yrQ,k,bind_some,f];cases o with
   | nx ρ'=>exact ih _ ρ' h' (by omega) c
   | ct ρ'=>exact ih _ ρ' h' (by omega) c
   | bk ρ'=>exact c.elim
   | rt y=>exact .inr ⟨y,h',rfl,c⟩
 simpa using key xs.length 0 ρ h (by omega) e
theorem yzz (I:Nat->PSt->AH->Prop) (e:I 0 ρ h)
  (step:∀ i x ρ h,xs[i]?=some x->I i ρ h->∃ ρ1 ρ' h',g x ρ=some ρ1/\(s ρ1 h=some (.nx ρ',h')\/s ρ1 h=some (.ct ρ',h'))/\I (i+1) ρ' h') :
  ∃ ρ' h',ygc g s xs ρ h=some (.nx ρ',h')/\I xs.length ρ' h':=by
 rcases yvp I (fun _ _=>False) e (fun i x ρ h f j=>by
  obtain ⟨ρ1,ρ',h',d,b,c⟩:=step i x ρ h f j;rcases b with b|b
  .exact ⟨ρ1,_,h',d,b,c⟩
  .exact ⟨ρ1,_,h',d,b,c⟩) with q|⟨_,_,_,q⟩
 .exact q
 .exact q.elim
theorem yoX:whl c s (n+1) ρ h=ob (c ρ h) fun k h1=>if k=true then ob (s ρ h1) fun o h2=>match o with|.nx ρ'=>whl c s n ρ' h2|.ct ρ'=>whl c s n ρ' h2|.bk ρ'=>some (.nx ρ',h2)|.rt y=>some (.rt y,h2) else some (.nx ρ,h1):=rfl
theorem ygh (lo:Int) (n:Nat):(yiS lo n).length=n:=by simp [yiS]
theorem yzA (h:(yiS lo n)[i]?=some x):i<n/\x=.int (lo+i):=by have hl:=(List.getElem?_eq_some_iff.mp h).1;rw [ygh] at hl;refine ⟨hl,?_⟩;simp [yiS,hl] at h;exact h.symm
theorem yoY (e:a ρ h=some ([.int j],h1)) (c:-1000000000<=j) (h2:j<=1000000000):yhI a ρ h=some (yiS 0 j.toNat,h1):=by unfold yhI;rw [e];show (if _ then _ else _)=_;rw [if_pos ⟨c,h2⟩]
theorem ygi {Y:Type} f g:∀ {ts:List Y}{h:AH},(∀ t∈ts,e (inn (f t)) h=some (g t,h))->yls e inn (ts.map f) h=some (ts.map g,h)
 | [],_,_=>rfl
 | t::ts,h,k=>by show ob _ _=_;rw [k t mem_cons_self,ybo,ygi f g fun y b=>k y (mem_cons_of_mem _ b)];rfl
theorem yjz (b:ρ[i]?=some (.own (.lst xs))):yeV i e ρ h=ob (e ρ h) fun x h1=>if xs.length<100000 then some (.nx (ρ.set i (.own (.lst (xs++[x])))),h1) else none:=by unfold yeV;rw [b]
theorem yET {Y:Type}{a0:Y}{xs:List Y}:atI (a0::xs) 0=some a0:=ycO rfl
theorem yGo {Y:Type}{a0 a1:Y}{xs:List Y}:atI (a0::a1::xs) 1=some a1:=ycO rfl
theorem yHB {Y:Type}{a0 a1 a2:Y}{xs:List Y}:atI (a0::a1::a2::xs) 2=some a2:=ycO (j:=2) rfl
theorem yHC {Y:Type}{a0 a1 a2 a3:Y}{xs:List Y}:atI (a0::a1::a2::a3::xs) 3=some a3:=ycO (j:=3) rfl
theorem yHD {Y:Type}{a0 a1 a2 a3 a4:Y}{xs:List Y}:atI (a0::a1::a2::a3::a4::xs) 4=some a4:=ycO (j:=4) rfl
theorem ygy (e:h[n]?=some (.lst xs)):ybc [.loc n] h=some (.lst xs,h):=by unfold ybc listOf;simp only [e]
theorem yie (e:h[n]?=some (.lst xs)):ybW [.loc n] h=some (.int xs.length,h):=by unfold ybW yrH;simp only [e]
theorem ynO (e:h[n]?=some (.lst xs)) (hl:xs.length<100000):yiX (.loc n) [y] h=some (.non,h.set n (.lst (xs++[y]))):=by unfold yiX;simp_all
theorem ydH (e:h[n]?=some (.lst xs)):yhb (.loc n) h=true:=by unfold yhb ybM;simp only [e]
variable {K:Ck}
section
variable {ta:TE}{ea:XE}
def ynP (i:Nat) (e:XE):XS:=fun ρ h=>match ρ[i]? with
 | some (.own (.lst xs))=>ob (e ρ h) fun x h1=>(match x with|.lst ys=>if xs.length+ys.length<=100000 then some (.nx (ρ.set i (.own (.lst (xs++ys)))),h1) else none|_=>none)
 | _=>none
theorem yvq i (a:ybH K ta ea):yeY K (yqF (tBM K.K "list" yrd (yqw i) (yng ta ywR))) (ynP i ea):=by
 intro w W ρ Z D o h' g e q;unfold ynP at e;split at e
 .rename_i C j;obtain ⟨x,h1,B,d⟩:=yj e;split at d
  .split at d
   .rename_i f;cases d;obtain ⟨p,a1,a2,a3,a4,J,vs,hp,r⟩:=g.own i _ j;refine ⟨_,a1,.inl ⟨rfl,_,SqL.of hp⟩,?_⟩;refine a w W ρ Z _ _ _ g B fun v F H h y=>?_
    obtain ⟨b,us,rfl,u,s⟩:=y;refine ⟨p,b,vs,us,rfl,rfl,h.keep _ _ hp a2,h.ok.le _ _ u,by rw [r.len,s.len];exact yyW f,?_⟩;have k:=g.step h;obtain ⟨I,n,l,G,L,t,E,m,A⟩:=k.own i _ j;rw [a1] at n;cases n;rw [h.keep _ _ hp a2] at m;cases m;exact q (yyU F p _) Z H (yrx h l) (k.mut j a1 l G t (fun z=>by cases z) ⟨t,_,yK,A.app s⟩)
   .cases d
  .cases d
 .cases e
noncomputable def ypY (i:Nat):XE:=fun ρ h=>match ρ[i]? with|some (.own (.lst xs))=>some (.int xs.length,h)|_=>none
theorem yvr i:ybH K (tCB (yBW K.K) (yng (yqw i) ywR)) (ypY i):=by
 intro d W ρ Z Q x h' g e q;unfold ypY at e;split at e
 .rename_i xs b;cases e;obtain ⟨p,a1,a2,a3,a4,c,vs,hp,r⟩:=g.own i _ b;refine ⟨_,a1,p,vs,rfl,.inl (SqL.of hp),?_⟩;rw [r.len];exact q _ W rfl (.refl g.ok) rfl
 .cases e
end
end PX
namespace PX
open PySem L2
variable {K:Ck}
noncomputable def yEU (lo st:Int) (n:Nat):It:=⟨fun i _=>i<n,fun i H x H'=>H'=H/\x=.int (lo+i*st),fun i _=>n<=i⟩
noncomputable def szR (a b c:Int):Nat:=if a<b then ((b-a-1)/c+1).toNat else 0
def yCV (ta:TA):TI:=fun Z H R=>ta Z H fun vs H1=>∃ i j c:Int,vs=[.int i,.int j,.int c]/\(0<=i/\i<1000000000/\0<=j/\j<1000000000/\0<c/\c<1000000)/\R (yEU i c (szR i j c)) H1
noncomputable def ytY (lo st:Int) (n:Nat):List PV:=(List.range n).map fun (k:Nat)=>.int (lo+(k:Int)*st)
def yxk (a:XA):XA:=fun ρ h=>ob (a ρ h) fun xs h1=>match xs with|[.int i,.int j,.int c]=>if 0<=i/\i<1000000000/\0<=j/\j<1000000000/\0<c/\c<1000000 then some (ytY i c (szR i j c),h1) else none|_=>none
theorem yzB W d st n:ItOk K W (yEU d st n) (ytY d st n):=by
 refine ⟨fun i c l w b=>?_,fun i c f g l w b e=>?_,fun c l w=>?_⟩
 .show i<n;simpa [ytY] using b
 .obtain ⟨h1,h2⟩:=e;have b:=by simpa [ytY] using b
  exact ⟨h1,.int _,by simp [ytY,b],h2⟩
 .show n<=_;simp [ytY]
theorem ysa (a:ylY K t e):SndI K (yCV t) (yxk e):=by
 intro x W ρ Z R xs h' g e q;obtain ⟨ys,h1,s,d⟩:=yj e;split at d
 .rename_i i j c;split at d
  .rename_i m;cases d;refine a x W ρ Z _ _ _ g s fun vs k u o l=>?_
   obtain ⟨v,r,rfl,w,v2,r2,rfl,h,v3,n,rfl,f,p⟩:=l;obtain rfl:n=[]:=p;exact ⟨i,j,c,by rw [w,h,f],m,q _ k u o (yzB k i c _)⟩
  .cases d
 .cases d
theorem yCW (e:a ρ h=some ([.int i,.int j,.int c],h1)) (d:0<=i/\i<1000000000/\0<=j/\j<1000000000/\0<c/\c<1000000):yxk a ρ h=some (ytY i c (szR i j c),h1):=by unfold yxk;rw [e];show (if _ then _ else _)=_;rw [if_pos d]
end PX
namespace PX
open PySem L2
variable {K:Ck}
def Odd (K:Frag) (H:Hp):Prop:=∃ a o ob,H a=some o/\K.lookup a=some ob
inductive EqR (K:Frag) (H:Hp):Nat->V->V->Bool->Prop where
 | flat {n:Nat}{x y:V}(fx:ygu x=true) (fy:ygu y=true):EqR K H n x y (eqV x y)
 | same {n:Nat}{a:Addr}:EqR K H n (.ref a) (.ref a) true
 | odd {n:Nat}{x y:V}{b:Bool}(h:Odd K H):EqR K H n x y b
 | nt {n:Nat}{b:Addr}{ys:List V}(hb:SqT K H b ys):EqR K H (n+1) .non (.ref b) false
 | tn {n:Nat}{b:Addr}{ys:List V}(hb:SqT K H b ys):EqR K H (n+1) (.ref b) .non false
 | lst {n:Nat}{a b:Addr}{xs ys:List V}{e:Nat->Bool}(ha:H a=some (.lst xs)) (hb:H b=some (.lst ys)) (hl:xs.length=ys.length) (hne:a≠b) (he:∀ j x y,xs[j]?=some x->ys[j]?=some y->EqR K H n x y (e j)):EqR K H (n+1) (.ref a) (.ref b) ((List.range xs.length).all e)
 | lstN {n:Nat}{a b:Addr}{xs ys:List V}(ha:H a=some (.lst xs)) (hb:H b=some (.lst ys)) (hl:xs.length≠ys.length):EqR K H (n+1) (.ref a) (.ref b) false
 | tup {n:Nat}{a b:Addr}{xs ys:List V}{e:Nat->Bool}(ha:SqT K H a xs) (hb:SqT K H b ys) (hne:a≠b) (he:∀ j x y,xs[j]?=some x->ys[j]?=some y->EqR K H n x y (e j)):EqR K H (n+1) (.ref a) (.ref b) ((List.range (min xs.length ys.length)).all e && xs.length == ys.length)
inductive RcR (K:Frag) (H:Hp):V->V->Bool->Prop where
 | nt {b:Addr}{ys:List V}(hb:SqT K H b ys):RcR K H .non (.ref b) false
 | tn {b:Addr}{ys:List V}(hb:SqT K H b ys):RcR K H (.ref b) .non false
 | lst {a b:Addr}{xs ys:List V}{e:Nat->Bool}(ha:H a=some (.lst xs)) (hb:H b=some (.lst ys)) (hl:xs.length=ys.length) (he:∀ j x y,xs[j]?=some x->ys[j]?=some y->EqR K H 40 x y (e j)):RcR K H (.ref a) (.ref b) ((List.range xs.length).all e)
 | lstN {a b:Addr}{xs ys:List V}(ha:H a=some (.lst xs)) (hb:H b=some (.lst ys)) (hl:xs.length≠ys.length):RcR K H (.ref a) (.ref b) false
 | tup {a b:Addr}{xs ys:List V}{e:Nat->Bool}(ha:SqT K H a xs) (hb:SqT K H b ys) (he:∀ j x y,xs[j]?=some x->ys[j]?=some y->EqR K H 40 x y (e j)):RcR K H (.ref a) (.ref b) ((List.range (min xs.length ys.length)).all e && xs.length == ys.length)
noncomputable def yHE (K:Frag):R2:=fun x y H Q=>∃ b,RcR K H x y b/\Q (.bl b) H
noncomputable def yHF (K:Frag):R2:=fun x y H Q=>∃ b,RcR K H x y b/\Q (.bl (!b)) H
noncomputable def yhw (f:PV->PV->Option Bool):List PV->List PV->Option Bool
 | x::xs,y::ys=>(match f x y,yhw f xs ys with|some b,some c=>some (b && c)|_,_=>none)
 | _,_=>some true
def pairE (f:PV->PV->Option Bool) (h:AH) (x y:PV):Option Bool:=match x,y with
 | .tup xs,.tup ys=>(match yhw f xs ys with|some b=>some (b && xs.length == ys.length)|none=>none)
 | .non,.tup _=>some false
 | .tup _,.non=>some false
 | x,y=>(match ybM x h,ybM y h with|some xs,some ys=>if xs.length=ys.length then yhw f xs ys else some false|_,_=>none)
def eqP:Nat->AH->PV->PV->Option Bool
 | 0,_,_,_=>none
 | n+1,h,x,y=>match sv x,sv y with
  | some u,some v=>some (eqV u v)
  | _,_=>pairE (eqP n h) h x y
theorem yku:∀ {v:V},ygu v=true->eqV v v=true
 | .non,_=>rfl
 | .bl b,_=>by cases b<;>rfl
 | .int i,_=>by show (i == i)=true;simp
 | .str s,_=>by show (s == s)=true;simp
noncomputable def unV:Value->Option V
 | .none=>some .non
 | .bool b=>some (.bl b)
 | .int i _=>some (.int i)
 | .str x _=>some (.str x)
 | .bytes b _=>some (.byt b)
 | .float b _=>some (.flt b)
 | .ref a=>some (.ref a)
 | .type n=>some (.ty n)
 | _=>none
theorem yxl:∀ {v:V}{u:Value},RelV v u->unV u=some v
 | .non,_,h=>by rw [h];rfl
 | .bl _,_,h=>by rw [h];rfl
 | .int _,_,⟨_,h⟩=>by rw [h];rfl
 | .str _,_,⟨_,h⟩=>by rw [h];rfl
 | .byt _,_,⟨_,h⟩=>by rw [h];rfl
 | .flt _,_,⟨_,h⟩=>by rw [h];rfl
 | .ref _,_,h=>by rw [h];rfl
 | .ty _,_,h=>by rw [h];rfl
theorem yzC (h1:RelV v u) (h2:RelV w u):v=w:=Option.some.inj ((yxl h1).symm.trans (yxl h2))
theorem yvs (h1:Vals vs us):Vals ws us->vs=ws:=by
 induction h1 generalizing ws with
 | nil=>intro h2;cases h2;rfl
 | cons r _ ih=>intro h2;cases h2 with|cons r2 t2=>rw [yzC r r2,ih t2]
theorem yCX (s:Same F H) (h1:TpAt K.K F a vs) (h2:TpAt K.K F a ws):vs=ws\/Odd K.K H:=by
 rcases h1 with h1|⟨o,its,n,e,i,h,k,g⟩
 .rcases h2 with h2|⟨o,its,n,e,i,h,k,g⟩
  .simp_all
  .exact .inr ⟨a,_,o,s _ _ h1,e⟩
 .rcases h2 with h2|⟨m,its',p,c,j,d,l,f⟩
  .exact .inr ⟨a,_,o,s _ _ h2,e⟩
  .rw [e] at c;cases c;rw [h] at d;cases d;exact .inl (yvs g f)
theorem yif (h:∀ x y v b,f x y=some b->ycC K W x v->ycC K W y v->b=true\/Odd K.K W.H):∀ {xs ys:List PV}{vs:List V}{c:Bool},ycD K W xs vs->ycD K W ys vs->yhw f xs ys=some c->c=true\/Odd K.K W.H
 | [],_,_,_,_,_,e=>by simp [yhw] at e;exact .inl e
 | _::_,[],_,_,_,_,e=>by simp [yhw] at e;exact .inl e
 | x::xs,y::ys,_,c,⟨v,r,l,h1,i⟩,⟨u,q,a,h2,k⟩,e=>by
  rw [l] at a;cases a;unfold yhw at e;cases j:f x y with
  | none=>simp_all
  | some b =>
   cases d:yhw f xs ys with
   | none=>simp_all
   | some c' =>
    rw [d] at e;rcases h x y _ b j h1 h2 with z|z
    .rcases yif h i k d with g|g
     .simp_all
     .exact .inr g
    .exact .inr z
theorem ypZ (w:WOk K W) (q:∀ x y v b,f x y=some b->ycC K W x v->ycC K W y v->b=true\/Odd K.K W.H) (e:pairE f W.h x y=some b) (k:ycC K W x v) (l:ycC K W y v):b=true\/Odd K.K W.H:=by
 unfold pairE at e;split at e
 .rename_i xs ys;obtain ⟨a,vs,ev,n,m⟩:=k;obtain ⟨o,j,d,h,g⟩:=l;rw [ev] at d;cases d;rcases yCX w.le n h with z|z
  .subst z;cases p:yhw f xs ys with
   | none=>simp_all
   | some c =>
    rw [p] at e;cases e;rcases yif q m g p with z|z
    .left;rw [z,<- m.len,<- g.len];simp
    .exact .inr z
  .exact .inr z
 .obtain ⟨o,j,d,h,g⟩:=l;have k:=k;rw [k] at d;cases d
 .obtain ⟨o,j,d,h,g⟩:=k;have l:=l;rw [l] at d;cases d
 .split at e
  .rename_i xs ys r s;obtain ⟨a,vs,ev,n,m⟩:=yZ w r k;obtain ⟨o,j,d,h,g⟩:=yZ w s l;rw [ev] at d;cases d;rw [n] at h;cases h;rw [if_pos (by rw [<- m.len,<- g.len])] at e;exact yif q m g e
  .cases e
theorem ykv (w:WOk K W):∀ n x y v b,eqP n W.h x y=some b->ycC K W x v->ycC K W y v->b=true\/Odd K.K W.H
 | 0,_,_,_,_,e,_,_=>by cases e
 | n+1,x,y,v,b,e,c,g=>by
  unfold eqP at e;split at e
  .rename_i u h f d;cases e;rw [<- yfN f c,<- yfN d g];exact .inl (yku (by rw [yfN f c];exact yks f))
  .exact ypZ w (ykv w n) e c g
theorem yig (k:∀ x y v u b,f x y=some b->ycC K W x v->ycC K W y u->EqR K.K W.H n v u b):∀ {xs ys:List PV}{vs us:List V}{c:Bool},ycD K W xs vs->ycD K W ys us->yhw f xs ys=some c ->
  ∃ e:Nat->Bool,(∀ j v u,vs[j]?=some v->us[j]?=some u->EqR K.K W.H n v u (e j))/\c=(List.range (min vs.length us.length)).all e
 | [],_,_,_,c,h1,_,e=>by rw [h1];simp [yhw] at e;simp_all
 | _::_,[],_,_,c,_,h2,e=>by rw [h2];simp [yhw] at e;simp_all
 | x::xs,y::ys,_,_,c,⟨v,r,o,h1,l⟩,⟨u,q,m,h2,p⟩,e=>by
  subst o m;unfold yhw at e;cases h:f x y with
  | none=>simp_all
  | some b =>
   cases i:yhw f xs ys with
   | none=>simp_all
   | some c' =>
    rw [h,i] at e;cases e;obtain ⟨e',k1,k2⟩:=yig k l p i;refine ⟨fun j=>match j with|0=>b|j+1=>e' j,fun j t s g d=>?_,?_⟩
    .cases j with
     | zero =>
      simp at g d;subst g d;exact k x y _ _ b h h1 h2
     | succ j=>simp_all
    .rw [k2,length_cons,length_cons,show min (r.length+1) (q.length+1)=min r.length q.length+1 by omega,List.range_succ_eq_map,List.all_cons,List.all_map];rfl
theorem yoZ (w:WOk K W):∀ (n:Nat) (x y:PV) (v u:V) (b:Bool),eqP n W.h x y=some b->ycC K W x v->ycC K W y u->EqR K.K W.H n v u b
 | 0,_,_,_,_,_,e,_,_=>by cases e
 | n+1,x,y,v,u,b,e,k,l=>by
  have s:=e;unfold eqP at e;split at e
  .rename_i D C r t;cases e;rw [yfN r k,yfN t l];exact .flat (yks r) (yks t)
  .unfold pairE at e;split at e
   .rename_i xs ys _;obtain ⟨a,vs,ev,o,j⟩:=k;obtain ⟨p,us,h,g,f⟩:=l
    by_cases i:a=p
    .subst i;rcases ykv w (n+1) _ _ v b s ⟨a,vs,ev,o,j⟩ (by rw [ev,<- h];exact ⟨a,us,h,g,f⟩) with this|z
     .rw [this,ev,h];exact .same
     .exact .odd z
    .cases q:yhw (eqP n W.h) xs ys with
     | none=>rw [q] at e;cases e
     | some c =>
      rw [q] at e;cases e;obtain ⟨e',k1,k2⟩:=yig (yoZ w n) j f q;rw [ev,h,k2,<- j.len,<- f.len];exact .tup (ydu w o) (ydu w g) i k1
   .obtain ⟨p,us,h,g,f⟩:=l;cases e;rw [show v=.non from k,h];exact .nt (ydu w g)
   .obtain ⟨p,us,h,g,f⟩:=k;cases e;rw [show u=.non from l,h];exact .tn (ydu w g)
   .split at e
    .rename_i xs ys A B;obtain ⟨a,vs,ev,o,j⟩:=yZ w A k;obtain ⟨p,us,h,g,f⟩:=yZ w B l
     by_cases i:a=p
     .subst i;rcases ykv w (n+1) _ _ v b s k (by rw [ev,<- h];exact l) with this|z
      .rw [this,ev,h];exact .same
      .exact .odd z
     .split at e
      .rename_i hl;obtain ⟨e',k1,k2⟩:=yig (yoZ w n) j f e;have m:vs.length=us.length:=by rw [j.len,f.len,hl]
       rw [ev,h,k2,<- m,Nat.min_self];exact .lst o g m i k1
      .rename_i hl;cases e;rw [ev,h];exact .lstN o g (by rw [j.len,f.len];exact hl)
    .cases e
def yzD:P2:=fun x y h=>match pairE (eqP 40 h) h x y with|some b=>some (.bl b,h)|none=>none
def ytZ:P2:=fun x y h=>match pairE (eqP 40 h) h x y with|some b=>some (.bl (!b),h)|none=>none
theorem ypa (w:WOk K W) (e:pairE (eqP 40 W.h) W.h x y=some b) (k:ycC K W x v) (m:ycC K W y u):RcR K.K W.H v u b:=by
 unfold pairE at e;split at e
 .rename_i xs ys;obtain ⟨a,vs,ev,l,i⟩:=k;obtain ⟨n,us,h,f,g⟩:=m;cases o:yhw (eqP 40 W.h) xs ys with
  | none=>simp_all
  | some c =>
   rw [o] at e;cases e;obtain ⟨q,k1,k2⟩:=yig (yoZ w 40) i g o;rw [ev,h,k2,<- i.len,<- g.len];exact .tup (ydu w l) (ydu w f) k1
 .obtain ⟨n,us,h,f,g⟩:=m;cases e;rw [k,h];exact .nt (ydu w f)
 .obtain ⟨n,us,h,f,g⟩:=k;cases e;rw [m,h];exact .tn (ydu w f)
 .split at e
  .rename_i xs ys r p;obtain ⟨a,vs,ev,l,i⟩:=yZ w r k;obtain ⟨n,us,h,f,g⟩:=yZ w p m;split at e
   .rename_i hl;obtain ⟨q,k1,k2⟩:=yig (yoZ w 40) i g e;have j:vs.length=us.length:=by rw [i.len,g.len,hl]
    rw [ev,h,k2,<- j,Nat.min_self];exact .lst l f j k1
   .rename_i hl;cases e;rw [ev,h];exact .lstN l f (by rw [i.len,g.len];exact hl)
  .cases e
theorem yCY:yck K (yHE K.K) yzD:=by
 intro W x y v u Q z h' w d f e q;unfold yzD at e;split at e
 .rename_i b c;cases e;exact ⟨b,ypa w c d f,q _ W rfl (.refl w) rfl⟩
 .cases e
theorem yzE:yck K (yHF K.K) ytZ:=by
 intro W x y v u Q z h' w d f e q;unfold ytZ at e;split at e
 .rename_i b c;cases e;exact ⟨b,ypa w c d f,q _ W rfl (.refl w) rfl⟩
 .cases e
end PX
namespace PX
open PySem L2
variable {K:Ck}
def yfJ:XS:=fun _ _=>none
theorem yvt:yeY K ywK yfJ:=fun _ _ _ _ _ _ _ _ e _=>by cases e
def yg (k:Nat) (m:Str) (f:Fn) (e:XE) (as:XA):XE:=fun ρ h=>ob (e ρ h) fun x h1=>match yha x h1 with
 | some (k',ns,_)=>if k'=k/\m∉ns then ob (as ρ h1) fun ys h2=>f (x::ys) h2 else none
 | none=>none
theorem yml (a:ybH K w o) (b:ylY K t l) (M:∀ ρ h xs h',l ρ h=some (xs,h')->xs.length=n) :
  ybH K (yyp (K.A k) m (spE K (n+1) f) [] D w t) (yg k m f o l):=by
 intro A W ρ Z Q z h' g e q;obtain ⟨x,h1,I,d⟩:=yj e;refine a A W ρ Z _ x h1 g I fun v O L i r=>?_
 subst L;split at d
 .rename_i S ns xs N;split at d
  .rename_i y;obtain ⟨ys,h2,s,P⟩:=yj d;obtain ⟨p,B,vs,ev,hp,hl,R⟩:=ygw i.ok N r;rw [y.1] at hp;refine ⟨p,B,_,ev,hp,ydG y.2,?_⟩;refine b A O ρ Z _ ys h2 (g.step i) s fun us G C j r2=>?_
   subst C;rw [append_nil];exact ⟨G,x::ys,z,h',rfl,j.ok,⟨v,us,rfl,j.rep r,r2⟩,by rw [length_cons,M _ _ _ _ s],P,fun u J H E F=>q u J H ((i.trans j).trans E) F⟩
  .cases d
 .cases d
def ycZ (cs:List Nat) (f:Str) (eo ev:XE):XS:=fun ρ h=>ob (ev ρ h) fun y h1=>ob (eo ρ h1) fun x h2=>match x with
 | .loc n=>(match h2[n]? with|some (.ins k ns xs)=>if k∈cs/\ns.length<1000 then some (.nx ρ,h2.set n (.ins k (putN f y ns xs).1 (putN f y ns xs).2)) else none|_=>none)
 | _=>none
theorem yvu (t:∀ k∈cs,Cls K.K (K.A k)/\NoAttr K.K (K.A k) f) (a:ybH K m A) (c:ybH K u ev):yeY K (yFo K.K m u f) (ycZ cs f A ev):=by
 intro B W ρ Z D o h' g e q;obtain ⟨y,h1,H,I⟩:=yj e;obtain ⟨x,h2,G,d⟩:=yj I;refine c B W ρ Z _ y h1 g H fun T P L C R=>?_
 subst L;refine a B P ρ Z _ x h2 (g.step C) G fun S j O h r2=>?_
 subst O;have w:=h.ok;split at d
 .rename_i n;split at d
  .rename_i k ns xs v;split at d
   .rename_i s;cases d;obtain ⟨p,ep,J,z,r,us,hp,hl,F⟩:=w.loc v r2;obtain ⟨i,Q,E,N⟩:=F.putN hl (h.rep R);refine ⟨p,_,r,_,ep,hp,(t k s.1).1,(t k s.1).2,by simp_all,?_⟩;rw [Q];have M:Le K j (ynM j n p _ (.ins k _ _)):=ygg w v J z ⟨z,r,i,yK,E,N⟩;have l:=C.trans (h.trans M);exact q _ Z rfl l.lf (g.step l)
   .cases d
  .cases d
 .cases d
end PX
namespace PX
open PySem L2
variable {K:Ck}
noncomputable def yqa (r d:Addr):HO:=.ext fun h=>h.get? r=some { cls:=.type "dict_items",data:=.fields #[.ref d] }
def yxm:V->List V->Hp->VK->Prop:=fun x vs H Q=>∃ d kvs,x=.ref d/\vs=[]/\H d=some (.dK kvs)/\∀ r,H r=none->Q (.ref r) (upd H r (yqa r d))
noncomputable def ypb (H:Hp) (as:List Addr) (ts:List (List V)):Hp:=fun b=>match (as.zip ts).lookup b with|some t=>some (.tup t)|none=>H b
def yEV (H:Hp) (p:Addr) (as:List Addr) (ts:List (List V)):Hp:=upd (ypb H as ts) p (.lst (as.map V.ref))
def rSI:List V->Hp->VK->Prop:=fun xs H Q=>∃ (r d:Addr) (kvs:List (Key×V)) (ns:List Int),xs=[.ref r]/\H r=some (yqa r d)/\H d=some (.dK kvs)/\kvs.map (·.1)=ns.map .inl/\kvs.length<64 /\
 ∀ (p:Addr) (as:List Addr) (q:List Nat),q.Perm (List.range ns.length)->q.Pairwise (fun i j=>ns.getD i 0<=ns.getD j 0)->ns.Nodup->as.length=q.length->(∀ a∈p::as,H a=none)->(p::as).Nodup ->
  Q (.ref p) (yEV H p as (q.map fun i=>[V.int (ns.getD i 0),(kvs.map (·.2)).getD i .non]))
noncomputable def ynQ (p:Int×PV):List (Int×PV)->List (Int×PV)
 | []=>[p]
 | q::r=>if p.1<=q.1 then p::q::r else q::ynQ p r
def ykw:List (Int×PV)->List (Int×PV)
 | []=>[]
 | p::r=>ynQ p (ykw r)
noncomputable def ysb:List Key->Option (List Int)
 | []=>some []
 | .inl i::r=>(ysb r).map (i::·)
 | .inr _::_=>none
theorem ypc:∀ {ks:List Key}{ns:List Int},ysb ks=some ns->ks=ns.map .inl
 | [],ns,h=>by cases h;rfl
 | .inl i::r,ns,h=>by obtain ⟨m,e,rfl⟩:=Option.map_eq_some_iff.mp h;rw [map_cons,<- ypc e]
 | .inr _::_,_,h=>by cases h
theorem yih (p:Int×PV):∀ l,(ynQ p l).Perm (p::l)
 | []=>.refl _
 | q::r=>by
  unfold ynQ;split
  .exact .refl _
  .exact ((yih p r).cons q).trans (.swap _ _ _)
theorem yhc:∀ l,(ykw l).Perm l
 | []=>.refl _
 | p::r=>(yih p _).trans ((yhc r).cons p)
theorem ysc:∀ {l:List _},l.Pairwise (fun a b=>a.1<=b.1)->(ynQ p l).Pairwise fun a b=>a.1<=b.1
 | [],_=>List.pairwise_singleton _ _
 | q::r,h=>by
  obtain ⟨h1,h2⟩:=List.pairwise_cons.mp h;unfold ynQ;split
  .rename_i e;exact List.pairwise_cons.mpr ⟨fun b d=>by
    rcases mem_cons.mp d with rfl|d
    .exact e
    .exact Int.le_trans e (h1 b d),h⟩
  .refine List.pairwise_cons.mpr ⟨fun b d=>?_,ysc h2⟩;rcases mem_cons.mp ((yih p r).mem_iff.mp d) with rfl|d
   .omega
   .exact h1 b d
theorem ypd:∀ l,(ykw l).Pairwise fun a b=>a.1<=b.1
 | []=>.nil
 | _::r=>ysc (ypd r)
theorem yvv {ns:List Int}{xs:List PV}{q:List Nat}(hl:xs.length=ns.length) (hp:q.Perm (List.range ns.length)) (hs:q.Pairwise fun i j=>ns.getD i 0<=ns.getD j 0) (l:ns.Nodup) :
  (q.map fun i=>(ns.getD i 0,xs.getD i .non))=ykw (ns.zip xs):=by
 have hz:((List.range ns.length).map fun i=>(ns.getD i 0,xs.getD i .non))=ns.zip xs:=by
  apply List.ext_getElem
  .simp [hl]
  simp_all
 have k:(q.map fun i=>(ns.getD i 0,xs.getD i .non)).Perm (ns.zip xs):=by rw [<- hz];exact hp.map _
 refine List.Perm.eq_of_pairwise (fun a b h g h1 h2=>?_) (List.pairwise_map.mpr hs) (ypd _) (k.trans (yhc _).symm);have h:=k.mem_iff.mp h;have g:=(yhc _).mem_iff.mp g;obtain ⟨i,n,rfl⟩:=getElem_of_mem h;obtain ⟨j,m,rfl⟩:=getElem_of_mem g;have f:i<ns.length:=by grind
 have d:j<ns.length:=by grind
 have e:ns[i]=ns[j]:=by have:=Int.le_antisymm h1 h2;simpa using this
 have:=yjy l f d e;subst this;rfl
def yHG (W:Wd) (as:List Addr) (ts:List (List V)):Wd:=⟨ypb W.F as ts,ypb W.H as ts,W.m,W.h⟩
theorem lookup_mem {Y:Type}:∀ {d:List Addr}{ts:List Y}{b:Addr}{t:Y},(d.zip ts).lookup b=some t->b∈d
 | [],_,_,_,h=>by simp at h
 | _::_,[],_,_,h=>by simp at h
 | a::d,u::ts,b,t,h=>by
  rw [zip_cons_cons,lookup_cons] at h;split at h
  .simp_all
  .exact mem_cons_of_mem _ (lookup_mem h)
theorem yhd (h:b∉c):ypb H c ts b=H b:=by
 unfold ypb;split
 .rename_i e;exact absurd (lookup_mem e) h
 .rfl
theorem yzF (w:WOk K W) (h:∀ a∈g,W.H a=none):Le K W (yHG W g ts):=by
 have nm:=fun a k=>w.out (h a k)
 have m:Same W.F (ypb W.F g ts):=fun b o e=>by rw [yhd fun z=>by rw [w.ff (h b z)] at e;cases e];exact e
 have l:Same W.H (ypb W.H g ts):=fun b o e=>by rw [yhd fun z=>by simp_all];exact e
 refine ⟨⟨?_,w.len,w.nd,fun n d a j i=>?_⟩,m,prefix_refl _,fun b u e _=>l b u e,fun b u e _ f=>?_,fun b z n=>absurd z n,fun n ks xs j=>⟨j,fun a i=>yhd fun z=>nm a z (mem_of_getElem? i)⟩⟩
 .intro b u e;have e:ypb W.F g ts b=some u:=e;show ypb W.H g ts b=some u;unfold ypb at e ⊢;split at e
  .exact e
  .exact w.le _ _ e
 .have k:=fun z=>nm a z (mem_of_getElem? i)
  exact (w.at_ n d a j i).mono m (prefix_refl _) (fun u e=>l _ _ e) fun f=>(yhd k).trans f
 .exact (yhd fun z=>by simp_all).trans f
theorem ymm {F:Hp}{m:List Addr}{Y:Nat->PV}{T:Nat->List V}{Z:Nat->List PV}(n:∀ i,Y i=.tup (Z i)):∀ (d:List Addr) (q:List Nat),d.length=q.length->d.Nodup->(∀ a∈d,∀ i,i∈q->(d.zip (q.map T)).lookup a=some (T i)->F a=some (.tup (T i))) ->
  (∀ i∈q,RepL K F m (Z i) (T i))->RepL K F m (q.map Y) (d.map V.ref)
 | [],[],_,_,_,_=>rfl
 | [],_::_,h,_,_,_=>by cases h
 | _::_,[],h,_,_,_=>by cases h
 | a::d,i::q,hl,p,g,k=>by
  obtain ⟨r,o⟩:=List.nodup_cons.mp p;refine ⟨_,_,rfl,?_,ymm n d q (by simpa using hl) o (fun b l j f e=>?_) fun j f=>k j (mem_cons_of_mem _ f)⟩
  .rw [n];exact ⟨a,T i,rfl,.inl (g a mem_cons_self i mem_cons_self (by simp)),k i mem_cons_self⟩
  .refine g b (mem_cons_of_mem _ l) j (mem_cons_of_mem _ f) ?_;rw [map_cons,zip_cons_cons,lookup_cons];have:(b == a)=false:=beq_eq_false_iff_ne.mpr fun z=>r (z ▸ l)
   rw [this];exact e
def sortI (ks:List Key) (xs:List PV):Option (List PV):=match ysb ks with|some ns=>if ns.length<64 then some ((ykw (ns.zip xs)).map fun p=>.tup [.int p.1,p.2]) else none|none=>none
def yjA (e:XE):XO:=fun ρ h=>ob (e ρ h) fun x h1=>match ymj x h1 with|some (ks,xs)=>(match sortI ks xs with|some l=>some (.lst l,h1)|none=>none)|none=>none
theorem yxn (w:WOk K W) (e:ymj x W.h=some (ks,xs)) (r:ycC K W x v):tyV K.K "dict" v W.H:=by obtain ⟨a,vs,rfl,hp,_⟩:=ymk w e r;exact .inr (.inr (.inl ⟨rfl,.inl ⟨_,hp⟩⟩))
theorem ysd (a:ybH K N J):ykg K (tCB rSI (yng (yFr K.K "dict" yxm N) ywR)) (yjA J):=by
 intro Y W ρ b Q z h' g e q;obtain ⟨x,h1,e1,n⟩:=yj e;refine a Y W ρ b _ x h1 g e1 fun v G w1 s O=>?_
 subst w1;split at n
 .rename_i ks xs M;split at n
  .rename_i l hl;cases n;refine ⟨yxn s.ok M O,?_⟩;obtain ⟨d,vs,ev,hp,hvl,R⟩:=ymk s.ok M O;subst ev;refine ⟨d,_,rfl,rfl,hp,fun r L=>?_⟩;unfold sortI at hl;split at hl
   .rename_i ns y;split at hl
    .rename_i S;cases hl;have y:=ypc y;have k:=ydt (o:=yqa r d) s.ok L;have hnl:ks.length=ns.length:=by simp_all
     have C:xs.length=ns.length:=by rw [<- R.len];omega
     refine ⟨r,d,ks.zip vs,ns,rfl,yK,(yL (yby hp L)).trans hp,by rw [List.map_fst_zip (by omega),y],by simp_all,fun p t o f hs X D c E=>?_⟩;rw [List.map_snd_zip (by omega)];generalize m:yjt G r (yqa r d)=B at k;have F:B.H=upd G.H r (yqa r d):=by rw [<- m];rfl
     rw [<- F] at c ⊢;have j:=yzF (ts:=o.map fun i=>[V.int (ns.getD i 0),vs.getD i .non]) k.ok fun a P=>c a (mem_cons_of_mem _ P)
     obtain ⟨n1,n2⟩:=List.nodup_cons.mp E;have h:(yHG B t (o.map fun i=>[V.int (ns.getD i 0),vs.getD i .non])).H p=none:=(yhd n1).trans (c p mem_cons_self);have I:=ydt (o:=.lst (t.map V.ref)) j.ok h;have l:=k.trans (j.trans I);have A:∀ i∈o,i<ns.length:=fun i w=>by have:=f.mem_iff.mp w;simpa using this
     refine q p _ (by rw [<- m];rfl) (s.trans l) (j.ok.out h) ((s.trans k).fresh (c p mem_cons_self)) (fun z=>by cases z) ⟨j.ok.ff h,_,yK,?_⟩;rw [<- yvv C f hs X,map_map];refine ymm (T:=fun i=>[V.int (ns.getD i 0),vs.getD i .non]) (Z:=fun i=>[.int (ns.getD i 0),xs.getD i .non]) (fun i=>rfl) t o D n2 (fun a P i w e=>?_) fun i w=>⟨_,_,rfl,rfl,_,_,rfl,?_,rfl⟩
     .show ypb B.F t _ a=_;unfold ypb;rw [e]
     .have hi':=A i w;obtain ⟨u,U,h4⟩:=(k.trans (j.trans I)).repL R |>.get (List.getElem?_eq_getElem (show i<xs.length by omega));have e5:xs.getD i .non=xs[i]'(by omega):=by simp [getD,List.getElem?_eq_getElem (show i<xs.length by omega)]
      have e6:vs.getD i .non=u:=by simp [getD,U]
      rw [e5,e6];exact h4
    .cases hl
   .cases hl
  .cases n
 .cases n
end PX
namespace PX
open PySem L2
variable {K:Ck}
def ItR (K:Frag) (a:Addr) (m:Nat):It :=
 ⟨fun i H=>i<m/\∃ xs x,SqL K H a xs/\xs[m-1-i]?=some x,fun i H x H'=>H'=H/\∀ xs,SqL K H a xs->xs[m-1-i]?=some x,fun i _=>i=m⟩
def yHH (K:Frag) (tl:TE):TI:=fun Z H R=>tl Z H fun x H1=>∃ a xs,x=.ref a/\SqL K H1 a xs/\R (ItR K a xs.length) H1
def ylt (n:Nat) (rev:Bool) (g:XG) (s:XS):Nat->Nat->PSt->AH->Option (Out×AH)
 | 0,i,ρ,h=>match h[n]? with|some (.lst xs)=>if xs.length=i then some (.nx ρ,h) else none|_=>none
 | k+1,i,ρ,h=>match h[n]? with
  | some (.lst xs)=>(match xs[if rev then k else i]? with
   | some x=>(g x ρ).bind fun ρ1=>ob (s ρ1 h) fun o h1=>match o with|.nx ρ'=>ylt n rev g s k (i+1) ρ' h1|.ct ρ'=>ylt n rev g s k (i+1) ρ' h1|.bk ρ'=>some (.nx ρ',h1)|.rt y=>some (.rt y,h1)
   | none=>none)
  | _=>none
def ykx (rev:Bool) (e:XE) (g:XG) (s:XS):XS:=fun ρ h=>ob (e ρ h) fun x h1=>match x with
 | .loc n=>(match h1[n]? with|some (.lst xs)=>ylt n rev g s xs.length 0 ρ h1|_=>none)
 | _=>none
structure ItX (K:Ck) (n:Nat) (rev:Bool) (m:Nat) (a:Addr) (J:It):Prop where
 go:∀ (i:Nat) (H:Hp) (vs:List V) (v:V),H a=some (.lst vs)->i<m->vs[if rev then m-1-i else i]?=some v->J.go i H
 yld:∀ (i:Nat) (H:Hp) (vs:List V) (v:V) (H2:Hp),H a=some (.lst vs)->i<m->J.yld i H v H2->H2=H/\vs[if rev then m-1-i else i]?=some v
 stop:∀ (H:Hp) (vs:List V),H a=some (.lst vs)->vs.length=m->J.stop m H
section
variable {ta:TE}{ea:XE}{t:TS}{s:XS}
theorem yCZ (f:ylt n b y s (k+1) i ρ h=some (o,h')):∃ ys x ρ1 o1 h1,h[n]?=some (.lst ys)/\ys[if b then k else i]?=some x/\y x ρ=some ρ1/\s ρ1 h=some (o1,h1)/\FNext (fun ρ h=>ylt n b y s k (i+1) ρ h=some (o,h')) o h' o1 h1:=by
 unfold ylt at f;split at f
 .split at f
  .obtain ⟨ρ1,k1,f⟩:=Option.bind_eq_some_iff.mp f;obtain ⟨o1,h2,k2,c⟩:=yj f;exact ⟨_,_,_,_,_,‹_›,‹_›,k1,k2,.of c fun _=>id⟩
  .cases f
 .cases f
theorem yDa (f:ylt n b y s 0 i ρ h=some (o,h')):∃ ys,h[n]?=some (.lst ys)/\ys.length=i/\some (Out.nx ρ,h)=some (o,h'):=by
 unfold ylt at f;split at f
 .split at f
  .exact ⟨_,‹_›,‹_›,f⟩
  .cases f
 .cases f
theorem ymn {xs:List PV}(b:ypU K g y) (c:yeY K t s) (O:Good K M W ρ a) (L:Le K W e) (q:Ends.Ok K M W D h' o)
  (R:ylt n k y s xs.length 0 ρ e.h=some (o,h')) (Y:e.h[n]?=some (.lst xs)) (T:e.m[n]?=some p) (Q:ycD K e xs us) (C:ItX K n k us.length p J) :
  ∃ Z:Nat->Nat->St->Hp->Prop,(∃ m,Z 0 m a e.H)/\∀ i m a H,Z i m a H ->
   J.stop i H/\D.nx a H\/J.go i H/\∃ N:St->Hp->Prop,(∀ u B,N u B->∃ m',m'<m/\Z (i+1) m' u B)/\∀ x B,J.yld i H x B->g x a B fun F I=>t { D with nx:=N,ct:=N,bk:=D.nx } F I:=by
 rw [Q.len] at C;have at':∀ {d:Wd}{ys},Lf K e d->WOk K d->d.h[n]?=some (.lst ys)->∃ vs,d.H p=some (.lst vs)/\ycD K d ys vs:=fun l w r=>by obtain ⟨p',X,_,_,vs,z⟩:=w.loc r ⟨p,rfl,yeA l.pre T⟩;simp_all
 refine yrA b c xs.length (fun i ρ h=>ylt n k y s (xs.length-i) i ρ h=some _) (O.step L) (q.from_ L.lf) R (fun i d ρ' l w j f=>?_) fun d ρ' l w f=>?_
 .rw [<- Nat.sub_add_cancel (Nat.sub_pos_of_lt j)] at f;obtain ⟨ys,x,ρ1,o1,h1,r,hz,k1,k2,f⟩:=yCZ f;rw [Nat.sub_right_comm] at hz;obtain ⟨vs,hp,rs'⟩:=at' l w r;obtain ⟨P,A,E⟩:=rs'.get hz;refine ⟨C.go i d.H vs P hp j A,x,ρ1,o1,h1,k1,k2,f,fun v I r=>?_⟩;obtain ⟨U,S⟩:=C.yld i d.H vs v I hp j r;cases A.symm.trans S;exact ⟨d,U.symm,rfl,.refl w,E⟩
 .rw [sub_self] at f;obtain ⟨ys,r,G,f⟩:=yDa f;obtain ⟨vs,hp,rs'⟩:=at' l w r;exact ⟨C.stop d.H vs hp (by rw [rs'.len,G]),f⟩
theorem yGp:ItX K n false m a (Itl K.K a) where
 go:=fun i H vs v h _ e=>⟨vs,v,SqL.of h,e⟩
 yld:=fun i H vs v c h _ e=>⟨e.1,e.2 vs (SqL.of h)⟩
 stop:=fun H vs h e=>⟨vs,SqL.of h,le_of_eq e⟩
theorem yGq:ItX K n true m a (ItR K.K a m) where
 go:=fun i H vs v h c e=>⟨c,vs,v,SqL.of h,e⟩
 yld:=fun i H vs v d h _ e=>⟨e.1,e.2 vs (SqL.of h)⟩
 stop:=fun H vs h e=>rfl
theorem yvw (a:ybH K ta ea) (b:ypU K g y) (c:yeY K t s):yeY K (yBP (yuj K.K ta) g t) (ykx false ea y s):=by
 intro u W ρ Z D o h' j e q;obtain ⟨x,h1,n,f⟩:=yj e;refine a u W ρ Z _ x h1 j n fun v z r h l=>?_
 subst r;split at f
 .split at f
  .rename_i xs i;obtain ⟨p,ev,k,w,us,hp,m⟩:=h.ok.loc i l;exact ⟨p,ev,⟨us,SqL.of hp⟩,ymn b c j h q f i k m yGp⟩
  .cases f
 .cases f
theorem yvx (a:ybH K ta ea) (b:ypU K g y) (c:yeY K t s):yeY K (yBP (yHH K.K ta) g t) (ykx true ea y s):=by
 intro u W ρ Z D o h' j e q;obtain ⟨x,h1,n,f⟩:=yj e;refine a u W ρ Z _ x h1 j n fun v z r h l=>?_
 subst r;split at f
 .split at f
  .rename_i xs i;obtain ⟨p,ev,k,w,us,hp,m⟩:=h.ok.loc i l;exact ⟨p,us,ev,SqL.of hp,ymn b c j h q f i k m yGq⟩
  .cases f
 .cases f
end
end PX
namespace PX
open PySem L2
variable {K:Ck}
def yGr (kvs more:List (Key×V)):List (Key×V):=more.foldl (fun acc kv=>putK acc kv.1 kv.2) kvs
def yHI:V->List V->Hp->VK->Prop:=fun x vs H Q=>∃ d o kvs more,x=.ref d/\vs=[.ref o]/\d≠o/\H d=some (.dK kvs)/\H o=some (.dK more)/\kvs.length+more.length<=sizeLine/\Q .non (upd H d (.dK (yGr kvs more)))
def yky:List Key->List PV->List Key->List PV->List Key×List PV
 | j::js,y::ys,ks,xs=>yky js ys (ydm ks xs j y).1 (ydm ks xs j y).2
 | _,_,ks,xs=>(ks,xs)
def yse:PV->AH->Bool:=fun x h=>(ymj x h).isSome
theorem yvy (w:WOk K W) (r:ycC K W x v) (c:yse x W.h=true):tyV K.K "dict" v W.H:=by obtain ⟨⟨ks,xs⟩,a⟩:=Option.isSome_iff_exists.mp c;exact yxn w a r
theorem ysf:∀ {js:List Key}{ys:List PV}{us:List V}{ks:List Key}{xs:List PV}{vs:List V},RepL K F m ys us->us.length=js.length->RepL K F m xs vs->vs.length=ks.length ->
  ∃ ws,yGr (ks.zip vs) (js.zip us)=(yky js ys ks xs).1.zip ws/\ws.length=(yky js ys ks xs).1.length/\RepL K F m (yky js ys ks xs).2 ws
 | [],ys,us,ks,xs,vs,r,hl,r2,c=>by
  obtain rfl:us=[]:=List.length_eq_zero_iff.mp (by simpa using hl);cases ys with
  | cons y ys=>obtain ⟨v,n,e,_⟩:=r;cases e
  | nil=>exact ⟨vs,rfl,c,r2⟩
 | j::js,[],us,ks,xs,vs,r,hl,r2,c=>by obtain rfl:us=[]:=r;cases hl
 | j::js,y::ys,_,ks,xs,vs,⟨u,us,e,d,i⟩,hl,r2,c=>by
  subst e;have key:∃ ws,putK (ks.zip vs) j u=(ydm ks xs j y).1.zip ws/\ws.length=(ydm ks xs j y).1.length/\RepL K F m (ydm ks xs j y).2 ws:=by
   have b:=yoV j u ks vs c;unfold ydm
   by_cases f:yrW ks j=true
   .rw [if_pos f] at b ⊢;exact ⟨_,b,by rw [ykp];exact c,r2.setK ks j d⟩
   .rw [if_neg f] at b ⊢;exact ⟨_,b,by simp_all,r2.snoc d⟩
  obtain ⟨ws,l,k,h⟩:=key;have g:=ysf i (by simpa using hl) h k;show ∃ ws,yGr (putK _ j u) _=_/\_;rw [l];exact g
def yDb:PM:=fun x ys h=>match x,ys with|.loc n,[.loc k]=>(match h[n]?,h[k]? with|some (.dct ks xs),some (.dct js zs)=>if n≠k/\ks.length+js.length<1000 then some (.non,h.set n (.dct (yky js zs ks xs).1 (yky js zs ks xs).2)) else none|_,_=>none)|_,_=>none
theorem yGs:yiU K "dict" yse yHI yDb:=by
 refine ⟨fun W x v w r c=>yvy w r c,fun W x v xs vs Q z h' w G r e q=>?_⟩;unfold yDb at e;split at e
 .rename_i n k;split at e
  .rename_i ks xs js M m D;split at e
   .rename_i F;cases e;obtain ⟨u,rfl,y⟩:=yoN r;obtain ⟨a,ev,o,p,us,hp,hl,B⟩:=w.loc m G;obtain ⟨b,h,g,E,H,l,i,f⟩:=w.loc D y;have j:a≠b:=fun z=>by subst z;obtain ⟨J,C⟩:=List.getElem?_eq_some_iff.mp o;obtain ⟨s,t⟩:=List.getElem?_eq_some_iff.mp g;exact F.1 (yjy w.nd J s (C.trans t.symm))
    obtain ⟨ws,I,A,L⟩:=ysf f i B hl;refine ⟨a,b,_,_,ev,by rw [h],j,hp,l,by rw [length_zip,length_zip];exact small (by omega),?_⟩;rw [I];exact q _ (ynM W n a _ _) rfl (ygg w m o p ⟨p,_,yK,A,L⟩) rfl
   .cases e
  .cases e
 .cases e
end PX
namespace PX
open PySem L2
variable {K:Ck}
def yfO (it:XA) (ix:List Nat) (c:XT) (e:XE):XO:=fun ρ h=>ob (it ρ h) fun xs h1=>if xs.length<100000 then ob (yxb c e (ygU ix ρ) xs h1) fun ys h2=>some (.lst ys,h2) else none
theorem ysg ix (a:SndI K g h) (c:yjr K tA eA) (b:ybH K f e):ykg K (ymb g ix tA f) (yfO h ix eA e):=ymc _ (fun _=>le_of_lt) ix a c b
end PX
namespace PX
open PySem L2
variable {K:Ck}
noncomputable def ynR:Key->PV|.inl i=>.int i|.inr s=>.str s
theorem ysh k:ycC K W (ynR k) (kV k):=by cases k<;>exact rfl
def ItD (a:Addr) (ob:Obj) (kvs:List (Key×V)):It :=
 ⟨fun i H=>i<kvs.length/\H a=some (.frz ob (.dK kvs)),fun i H x H'=>H'=H/\∃ kv,kvs[i]?=some kv/\x=kV kv.1,fun i H=>i=kvs.length/\H a=some (.frz ob (.dK kvs))⟩
def yDc (NF:Addr->Prop) (te:TE):TI:=fun Z H R=>te Z H fun x H1=>∃ a kvs,x=.ref a/\H1 a=some (.dK kvs)/\∀ ob,NF a->R (ItD a ob kvs) (upd H1 a (.frz ob (.dK kvs)))
theorem yzG (w:WOk K W) (e:W.h[n]?=some d) (i:W.m[n]?=some a) (r:W.F a=none) (at':NdAt K W.F (upd W.H a o) W.m d' a):WOk K (ynM W n a o d'):=by
 have v:=(List.getElem?_eq_some_iff.mp e).1;refine ⟨fun b u q=>?_,by show W.m.length=(W.h.set n d').length;rw [length_set];exact w.len,w.nd,fun j k b g f=>?_⟩
 .have:=yby q r
  exact (yL this).trans (w.le _ _ q)
 .have g:(W.h.set n d')[j]?=some k:=g
  by_cases h:n=j
  .subst h;rw [getElem?_set_self v] at g;cases g;have f:W.m[n]?=some b:=f;rw [i] at f;cases f;exact at'
  .rw [getElem?_set_ne h] at g;have p:b≠a:=fun z=>by subst z;obtain ⟨t,s⟩:=List.getElem?_eq_some_iff.mp i;obtain ⟨m,l⟩:=List.getElem?_eq_some_iff.mp f;exact h (yjy w.nd t m (s.trans l.symm))
   exact (w.at_ j k b g f).mono (Same.refl _) (prefix_refl _) (fun u q=>(yL p).trans q) id
theorem yzH {e f:Wd}(w:WOk K f) (pre:e.m <+: f.m) (fz:∀ (n:Nat) ks xs,e.h[n]?=some (.fz ks xs)->f.h[n]?=some (.fz ks xs)/\∀ a,e.m[n]?=some a->f.H a=e.H a)
  (q:f.m[n]?=some a) (r:∀ ks xs,e.h[n]?≠some (.fz ks xs)) (j:Nat) ks xs (i:e.h[j]?=some (.fz ks xs)) :
  (ynM f n a o d).h[j]?=some (.fz ks xs)/\∀ b,e.m[j]?=some b->(ynM f n a o d).H b=e.H b:=by
 obtain ⟨h1,h2⟩:=fz j ks xs i;have k:n≠j:=fun z=>by subst z;exact r _ _ i
 refine ⟨(getElem?_set_ne k).trans h1,fun b g=>(yL fun z=>?_).trans (h2 b g)⟩;subst z;obtain ⟨s,m⟩:=List.getElem?_eq_some_iff.mp q;obtain ⟨l,p⟩:=List.getElem?_eq_some_iff.mp (yeA pre g);exact k (yjy w.nd s l (m.trans p.symm))
theorem yzI (l:Le K h f) (e:f.h[n]?=some d) (g:f.m[n]?=some a) (k:f.F a=none) (at':NdAt K f.F (upd f.H a o) f.m d' a) (j:∀ ks xs,h.h[n]?≠some (.fz ks xs)):Le K h (ynM f n a o d') where
 ok:=yzG l.ok e g k at'
 fs:=l.fs
 pre:=l.pre
 keep:=fun b u q i=>by
  have:b≠a:=fun z=>by subst z;rw [l.mn b (mem_of_getElem? g) i] at q;cases q
  exact (yL this).trans (l.keep b u q i)
 new:=l.new
 mn:=l.mn
 fz:=yzH l.ok l.pre l.fz g j
theorem yDd {W b:Wd}(l:Le K W b) {n:Nat}{d:Nd}(e:b.h[n]?=some d) (c:∀ ks xs,d≠.fz ks xs) ks xs:W.h[n]?≠some (.fz ks xs):=fun z=>by have:=(l.fz n ks xs z).1;rw [e] at this;simp_all
end PX
namespace PX
open PySem L2
variable {K:Ck}
def spJ (K:Ck) (n k:Nat) (f:List PV->AH->Option (Nd×AH)):Sp:=fun vs H Q _=>∃ (W0 W:Wd) (x:Addr) (args:List V) (xs:List PV) (d:Nd) (h':AH),vs=.ref x::args/\W.H=H/\Le K W0 W/\W0.H x=none/\x∉W.m/\NdAt K W.F W.H W.m (.ins k [] []) x /\
 ycD K W xs args/\xs.length=n/\f xs W.h=some (d,h')/\∀ W',W'.h=h'->Lf K W W'->Le K W0 W'->x∉W'.m->d≠.dead->NdAt K W'.F W'.H W'.m d x->Q .non W'.H
theorem yzJ {f} {Q:VK}(h:spJ K n k f vs H Q E):vs.length=n+1:=by obtain ⟨b,W,x,args,xs,d,h',rfl,_,_,_,_,_,r,a,_⟩:=h;rw [length_cons,r.len,a]
theorem ysi {N:List Str}{Q:VK}(U:n+1<=N.length) (a:ytX K t s) (h:spJ K n k (ymY N.length k s) vs H Q E):t ⟨fun _ P=>Q .non P,Q,bk,ct⟩ (L2.start N vs) H:=by
 obtain ⟨B,W,x,args,xs,d,h',rfl,rfl,le,I,O,v,r,T,e,q⟩:=h;obtain ⟨o,h1,L,f⟩:=yj e;have A:=ygY (K:=K) (N:=N.drop 1) le.ok r;have g:Good K B W (.own (.ins k [] [])::(xs.map .val++replicate (N.length-(xs.length+1)) .no)) (L2.start N (.ref x::args)):=by
  have es:L2.start N (.ref x::args)=some (.ref x)::L2.start (N.drop 1) args:=by
   have R:N.length-(args.length+1)=(N.drop 1).length-args.length:=by rw [length_drop];omega
   unfold L2.start;rw [map_cons,List.cons_append,length_cons,R]
  have C:N.length-(xs.length+1)=(N.drop 1).length-xs.length:=by rw [length_drop];omega
  rw [es,C];have c:∀ (j:Nat) (d:Nd),(xs.map PVar.val++replicate ((N.drop 1).length-xs.length) .no)[j]?≠some (.own d):=fun j d z=>by
   by_cases w:j<xs.length
   .rw [getElem?_append_left (by simpa using w),getElem?_map,List.getElem?_eq_getElem w] at z;cases z
   .rw [getElem?_append_right (by simp;omega),getElem?_replicate] at z;split at z<;>cases z
  refine ⟨le,by rw [length_cons,length_cons,A.len],fun j y z=>?_,fun j d z=>?_,fun i j d d' u z D=>?_⟩
  .cases j with
   | zero=>cases z
   | succ j=>exact A.val j y z
  .cases j with
   | zero=>cases z;exact ⟨x,rfl,O,I,(fun z=>by cases z),v⟩
   | succ j=>exact absurd z (c j d)
  .cases i with
   | zero =>
    cases j with
    | zero=>exact absurd rfl u
    | succ j=>exact absurd D (c j d')
   | succ i=>exact absurd z (c i d)
 cases o with
 | rt y=>cases f
 | bk ρ=>cases f
 | ct ρ=>cases f
 | nx ρ =>
  refine a B W _ ρ _ _ h1 g L fun J M lf g'=>?_
  dsimp only at f;split at f
  .rename_i d' l;cases f;obtain ⟨p,m,G,X,F,S⟩:=g'.own 0 _ l;have m:some (some (V.ref x))=some (some (V.ref p)):=m;cases m;exact q J M lf g'.le G F S
  .cases f
noncomputable def yDe:PVar->Bool|.own _=>false|_=>true
def xBI (k:Nat) (f:List PV->AH->Option (Nd×AH)) (a:XA):XS:=fun ρ h=>match ρ with
 | .own (.ins k' [] [])::r=>if k'=k/\r.all yDe=true then ob (a ρ h) fun xs h1=>ob (f xs h1) fun d h2=>(match d with|.dead=>none|d=>some (.nx (.own d::r),h2)) else none
 | _=>none
theorem yzK {f} (a:ylY K t o) (L:∀ ρ h xs h',o ρ h=some (xs,h')->xs.length=n):ytX K (yqF (yup (spJ K n k f) [] E (yng (yqw 0) t))) (xBI k f o):=by
 intro F W ρ ρ' σ D h' g e q;unfold xBI at e;split at e
 .rename_i X r;split at e
  .rename_i c;obtain ⟨rfl,A⟩:=c;obtain ⟨xs,h1,C,T⟩:=yj e;obtain ⟨d,h2,O,m⟩:=yj T;have m:some (Out.nx (.own d::r),h2)=some (.nx ρ',h'):=by cases d<;>first|exact m|cases m
   cases m;obtain ⟨p,s,U,b3,Y,b5⟩:=g.own 0 _ rfl;refine ⟨_,s,?_⟩;refine a F W _ σ _ xs h1 g C fun vs Q J I M=>?_
   subst J;have l:=g.step I;obtain ⟨p',H,P,G,Z,R⟩:=l.own 0 _ rfl;rw [s] at H;cases H;rw [append_nil];refine ⟨F,Q,p,vs,xs,d,h',rfl,rfl,l.le,G,P,R,M,L _ _ _ _ C,O,fun W2 S lf le N hd u=>?_⟩;refine q W2 S (I.lf.trans lf) ⟨le,l.len,fun j y z=>?_,fun j d' z=>?_,fun i j d1 d2 w x B=>?_⟩
   .cases j with
    | zero=>cases z
    | succ j =>
     obtain ⟨v,x,B⟩:=l.val (j+1) y z;exact ⟨v,x,lf.rep B⟩
   .cases j with
    | zero=>cases z;exact ⟨p,s,N,G,hd,u⟩
    | succ j =>
     have:=List.all_eq_true.mp A _ (mem_of_getElem? z);cases this
   .cases i with
    | zero =>
     cases j with
     | zero=>exact absurd rfl w
     | succ j =>
      have z:=B;have:=List.all_eq_true.mp A _ (mem_of_getElem? z);cases this
    | succ i =>
     have z:=x;have:=List.all_eq_true.mp A _ (mem_of_getElem? z);cases this
  .cases e
 .cases e
theorem yvz {ss:List Str}(h:KTp K.K a (ss.map V.str)):ybH K (tC (.ref a)) (xC (.tup (ss.map PV.str))):=by
 intro c W ρ Z Q x h' g e q;cases e;refine q _ W rfl (.refl g.ok) ⟨a,_,rfl,.inr h,?_⟩;clear h q
 induction ss with
 | nil=>exact rfl
 | cons s ss ih=>exact ⟨_,_,rfl,rfl,ih⟩
end PX
namespace PX
open PySem L2
variable {K:Ck}
noncomputable def ysj (c:Nat):List Nat->List (List Nat)
 | []=>[[]]
 | k::r=>if k=c then []::ysj c r else match ysj c r with|[]=>[[k]]|w::ws=>(k::w)::ws
theorem ymo:∀ {w:List Nat},c∉w->ysj c w=[w]
 | [],_=>rfl
 | k::r,h=>by
  have h1:k≠c:=fun z=>h (z ▸ mem_cons_self ..)
  unfold ysj;rw [if_neg h1,ymo fun z=>h (mem_cons_of_mem _ z)]
theorem ype:∀ {w r:List Nat},c∉w->ysj c (w++c::r)=w::ysj c r
 | [],r,_=>by show (if c=c then []::ysj c r else _)=_;rw [if_pos rfl]
 | k::w,r,h=>by
  have h1:k≠c:=fun z=>h (z ▸ mem_cons_self ..)
  show (if k=c then []::ysj c _ else match ysj c (w++c::r) with|[]=>[[k]]|w::ws=>(k::w)::ws)=_;rw [if_neg h1,ype fun z=>h (mem_cons_of_mem _ z)]
def yxo (z:Str):List Str:=(ysj 32 z.cps.toList).map fun w=>⟨w.toArray⟩
theorem yii:∀ ws,ws≠[]->(∀ w∈ws,32∉w.cps.toList)->yxo (Str.join " " ws)=ws
 | [],h,_=>absurd rfl h
 | [w],_,h=>by have h1:=ymo (h w (List.mem_singleton.mpr rfl));show (ysj 32 w.cps.toList).map _=_;rw [h1];rfl
 | w::v::r,_,h=>by
  have c:=yii _ (fun z=>by cases z) fun u d=>h u (mem_cons_of_mem _ d)
  show yxo (w++" "++Str.join " " _)=_;have e:(w++" "++Str.join " " (v::r)).cps.toList=w.cps.toList++32::(Str.join " " (v::r)).cps.toList:=by show (w.cps++(" ":Str).cps++(Str.join " " _).cps).toList=_;rw [show (" ":Str).cps = #[32] by rfl'];simp
  unfold yxo at c ⊢;rw [e,ype (h w (mem_cons_self ..)),map_cons,c]
def yxp:V->List V->Hp->VK->Prop:=fun x vs H Q=>∃ z:Str,x=.str z/\vs=[.str " "]/\z.length<=100000/\∀ p,H p=none->Q (.ref p) (upd H p (.lst ((yxo z).map V.str)))
def ypf:PM:=fun x xs h=>match x,xs with|.str z,[.str y]=>if y = " "/\z.length<=100000 then some (.lst ((yxo z).map .str),h) else none|_,_=>none
theorem RepL.of_strs:∀ (ts:List Str),RepL K F m (ts.map PV.str) (ts.map V.str)
 | []=>rfl
 | _::ts=>⟨_,_,rfl,rfl,RepL.of_strs ts⟩
theorem m_split:yiU K "str" isStr yxp ypf:=by
 refine ⟨fun W x v w r c=>?_,fun W x v xs vs Q z h' w f r e q=>?_⟩
 .unfold isStr at c;split at c
  .rw [r];rfl
  .cases c
 .unfold ypf at e;split at e
  .rename_i z y;split at e
   .rename_i c;cases e;obtain ⟨u,rfl,d⟩:=yoN r;refine ⟨z,f,by rw [d,c.1],c.2,fun p hp=>?_⟩;have b:=yrp (o:=.lst ((yxo z).map V.str)) w hp;exact q _ (yyJ W p _) rfl b ⟨p,_,rfl,yK,RepL.of_strs _⟩
   .cases e
  .cases e
theorem yzL {z:Str}(e:z.length<=100000):ypf (.str z) [.str " "] h=some (.lst ((yxo z).map .str),h):=by exact if_pos ⟨rfl,e⟩
variable {t:TS}{s:XS}
end PX
namespace PX
open PySem L2
variable {K:Ck}
mutual
noncomputable def clean:PV->Bool
 | .loc _=>false
 | .lst xs=>ypg xs
 | .tup xs=>ypg xs
 | .ins _ _ xs=>ypg xs
 | _=>true
noncomputable def ypg:List PV->Bool
 | []=>true
 | x::xs=>clean x && ypg xs
end
noncomputable def ysk (f:PV->Option PV):List PV->Option (List PV)
 | []=>some []
 | x::xs=>match f x,ysk f xs with|some y,some ys=>some (y::ys)|_,_=>none
def see:Nat->AH->PV->Option PV
 | 0,_,x=>if clean x=true then some x else none
 | n+1,h,x=>match x with
  | .loc m=>(match h[m]? with|some (.lst xs)=>(ysk (see n h) xs).map .lst|some (.ins k ns xs)=>(ysk (see n h) xs).map (.ins k ns)|_=>none)
  | x=>if clean x=true then some x else none
variable {t:TA}{e:XA}
end PX
namespace PX
open PySem L2
variable {K:Ck}
theorem yGt (f:Le K W e) (s:p∉e.m) (r:W.H p=none) (j:NdAt K e.F e.H e.m d p):Le K W ⟨e.F,e.H,e.m++[p],e.h++[d]⟩/\ycC K ⟨e.F,e.H,e.m++[p],e.h++[d]⟩ (.loc e.h.length) (.ref p):=by
 have pre:e.m <+: e.m++[p]:=List.prefix_append _ _;refine ⟨⟨⟨f.ok.le,?_,?_,fun n d' a g h=>?_⟩,f.fs,f.pre.trans pre,f.keep,f.new,fun b z n=>?_,fun n ks xs g=>⟨by have:=(f.fz n ks xs g).1;show (e.h++[d])[n]?=_;rw [getElem?_append_left (List.getElem?_eq_some_iff.mp this).1];exact this,(f.fz n ks xs g).2⟩⟩,⟨p,rfl,?_⟩⟩
 .show (e.m++[p]).length=(e.h++[d]).length;rw [length_append,length_append,f.ok.len];rfl
 .show (e.m++[p]).Nodup;rw [List.nodup_append];refine ⟨f.ok.nd,by simp,?_⟩;intro a q b o;simp at o;subst o;exact fun z=>s (z ▸ q)
 .have g:(e.h++[d])[n]?=some d':=g;have h:(e.m++[p])[n]?=some a:=h
  by_cases i:n<e.h.length
  .rw [getElem?_append_left i] at g;rw [getElem?_append_left (by rw [f.ok.len];exact i)] at h;exact (f.ok.at_ n d' a g h).mono (Same.refl _) pre (fun _ l=>l) id
  .rw [getElem?_append_right (by omega)] at g;rw [getElem?_append_right (by rw [f.ok.len];omega)] at h;rw [f.ok.len] at h;cases m:n-e.h.length with
   | zero =>
    rw [m] at g h;simp at g h;subst g h;exact j.mono (Same.refl _) pre (fun _ l=>l) id
   | succ k=>rw [m] at g;simp at g
 .have z:b∈e.m++[p]:=z;rcases List.mem_append.mp z with z|z
  .exact f.mn b z n
  .simp at z;subst z;exact r
 .show (e.m++[p])[e.h.length]?=some p;rw [<- f.ok.len];simp
def yij (k:Nat) (f:Fn) (a:XA):XE:=fun ρ h=>ob (a ρ h) fun xs h1=>ob (f (.loc h1.length::xs) (h1++[.ins k [] []])) fun x h2=>match x with|.non=>some (.loc h1.length,h2)|_=>none
theorem ysl:yij k f b ρ h=ob (b ρ h) fun xs h1=>ob (f (.loc h1.length::xs) (h1++[.ins k [] []])) fun x h2=>match x with|.non=>some (.loc h1.length,h2)|_=>none:=id rfl
theorem ysm (a:ylY K t e) (B:∀ ρ h xs h',e ρ h=some (xs,h')->xs.length=n):ybH K (yuq (K.A k) (spE K (n+1) f) [] w t) (yij k f e):=by
 intro E W ρ Z Q z h' g e' q;obtain ⟨xs,h1,s,A⟩:=yj e';obtain ⟨y,h2,C,m⟩:=yj A;refine a E W ρ Z _ xs h1 g s fun vs j F l u=>?_
 subst F;intro x i c hd o;rw [append_nil];have a1:Le K j (yjt j i (.own x)):=ydt l.ok hd;have p:(yjt j i (.own x)).H x=none:=(yL o.symm).trans c;have a2:Le K _ (yjt _ x (.ins (K.A k) i [])):=ydt a1.ok p;obtain ⟨a3,r⟩:=yGt (d:=.ins k [] []) (a1.trans a2) (l.ok.out c) c ⟨l.ok.ff c,i,[],yK,rfl,rfl⟩;refine ⟨_,.loc j.h.length::xs,y,h2,rfl,a3.ok,⟨_,_,rfl,r,a3.repL u⟩,by rw [length_cons,B _ _ _ _ s],C,fun v D G l' r'=>?_⟩;split at m
 .cases m;exact ⟨r',q _ D G (l.trans (a3.trans l')) (l'.rep r)⟩
 .cases m
noncomputable def yHJ:List V->Hp->VK->Prop:=fun xs H Q=>∃ (p:Addr) (bs:List Bool),xs=[.ref p]/\H p=some (.lst (bs.map V.bl))/\Q (.bl (bs.any id)) H
def yxq:List PV->AH->Option (PV×AH):=fun xs h=>match xs with|[x]=>(match ybM x h with|some ys=>(match ygv ys with|some ns=>some (.bl (ns.any id),h)|none=>none)|none=>none)|_=>none
theorem yDf:yhY K yHJ yxq:=by
 intro W xs vs Q z h' w r e q;unfold yxq at e;split at e
 .split at e
  .rename_i ys f;split at e
   .rename_i ns d;cases e;obtain ⟨v,rfl,g⟩:=yoN r;obtain ⟨a,us,rfl,hs,c⟩:=yZ w f g;have:=yia d c;subst this;exact ⟨a,ns,rfl,hs,q _ W rfl (.refl w) rfl⟩
   .cases e
  .cases e
 .cases e
def yqy (n:Nat) (e:XE) (inn:PV->PSt):Nat->Nat->AH->Option (List PV×AH)
 | 0,i,h=>match h[n]? with|some (.lst xs)=>if xs.length=i then some ([],h) else none|_=>none
 | k+1,i,h=>match h[n]? with
  | some (.lst xs)=>(match xs[i]? with|some x=>ob (e (inn x) h) fun y h1=>ob (yqy n e inn k (i+1) h1) fun ys h2=>some (y::ys,h2)|none=>none)
  | _=>none
def ymp (e:XE) (ix:List Nat) (el:XE):XO:=fun ρ h=>ob (e ρ h) fun x h1=>match x with
 | .loc n=>(match h1[n]? with|some (.lst xs)=>if xs.length<=10000 then ob (yqy n el (ygU ix ρ) xs.length 0 h1) fun ys h2=>some (.lst ys,h2) else none|_=>none)
 | _=>none
theorem yDg (f:yqy n e inn (k+1) i h=some (r,h')):∃ ys z y h1 r',h[n]?=some (.lst ys)/\ys[i]?=some z/\e (inn z) h=some (y,h1)/\yqy n e inn k (i+1) h1=some (r',h')/\r=y::r':=by
 unfold yqy at f;split at f
 .split at f
  .obtain ⟨y,g,k1,c⟩:=yj f;obtain ⟨d,j,k2,b⟩:=yj c;cases b;exact ⟨_,_,_,_,_,‹_›,‹_›,k1,k2,rfl⟩
  .cases f
 .cases f
theorem yxr (f:yqy n e inn 0 i h=some (r,h')):∃ ys,h[n]?=some (.lst ys)/\ys.length=i/\r=[]/\h=h':=by
 unfold yqy at f;split at f
 .simp_all
 .cases f
theorem yvA (f:ymp e ix c ρ h=some (d,h')):∃ n h1 xs b,e ρ h=some (.loc n,h1)/\h1[n]?=some (.lst xs)/\xs.length<=10000/\yqy n c (ygU ix ρ) xs.length 0 h1=some (b,h')/\d=.lst b:=by
 obtain ⟨x,h1,g,f⟩:=yj f;split at f
 .split at f
  .split at f
   .obtain ⟨b,h2,i,j⟩:=yj f;cases j;exact ⟨_,_,_,_,g,‹_›,‹_›,i,rfl⟩
   .cases f
  .cases f
 .cases f
theorem ysn ix (a:ybH K L H) (b:ybH K tb C):ykg K (yri (yuj K.K L) ix tb) (ymp H ix C):=by
 intro W0 W ρ c Q d h' I e q;obtain ⟨n,h1,xs,zs,M,hn,o,X,rfl⟩:=yvA e;refine a W0 W ρ c _ _ h1 I M fun v N Z u r1=>?_
 subst Z;obtain ⟨p,ev,U,hf,us,hp,rs⟩:=u.ok.loc hn r1;have at':∀ {j:Wd}{ys},Le K N j->j.h[n]?=some (.lst ys)->∃ vs,SqL K.K j.H p vs/\ycD K j ys vs:=fun l m=>by obtain ⟨p',F,_,_,vs,G,rs'⟩:=l.ok.loc m ⟨p,rfl,yeA l.pre U⟩;cases F;exact ⟨vs,SqL.of G,rs'⟩
 refine ⟨p,ev,⟨us,SqL.of hp⟩,fun D J=>yCn (ykk xs.length (fun i h r=>yqy n C _ (xs.length-i) i h=some (r,h')) u.ok (Nat.le_trans o (by decide)) J X (fun i j r l E f=>?_) (fun j r l f=>?_) fun j B l f n1 P hd Y=>?_)⟩
 .rw [<- Nat.sub_add_cancel (Nat.sub_pos_of_lt E)] at f;obtain ⟨ys,z,y,h3,r',m,hz,k1,k2,rfl⟩:=yDg f;obtain ⟨vs,s,rs'⟩:=at' l m;obtain ⟨O,t,x⟩:=rs'.get hz;refine ⟨⟨vs,O,s,t⟩,fun v H2 m k g T _=>?_⟩;obtain ⟨rfl,hx⟩:=m;cases t.symm.trans (hx vs s);exact b j j _ _ _ y h3 (yhJ I (u.trans l) ix x) k1 fun w W2 w2 S r2=>T w y r' W2 S rfl r2 (w2 ▸ k2)
 .rw [sub_self] at f;obtain ⟨ys,m,A,rfl,_⟩:=yxr f;obtain ⟨vs,s,rs'⟩:=at' l m;exact ⟨rfl,vs,s,by rw [rs'.len,A];exact Nat.le_refl _⟩
 .rw [sub_self] at f;obtain ⟨_,_,_,_,R⟩:=yxr f;exact q D j R (u.trans l) n1 (u.fresh J) (fun z=>by cases z) ⟨P,B,hd,Y⟩
end PX
namespace PX
open PySem L2
variable {K:Ck}
def yjB (e:XE) (ix:List Nat) (el:XE):XO:=fun ρ h=>ob (e ρ h) fun x h1=>match x with
 | .loc n=>(match h1[n]? with|some (.dct ks xs)=>if ks.length<=10000 then ob (yls el (ygU ix ρ) (ks.map ynR) (h1.set n (.fz ks xs))) fun ys h2=>some (.lst ys,h2.set n (.dct ks xs)) else none|_=>none)
 | _=>none
def yxs (NF:Addr->Prop) (te:TE) (ix:List Nat) (tb:TE):TE:=fun Z H Q=>yri (yDc NF te) ix tb Z H fun v H'=>∃ a ob kvs,NF a/\H' a=some (.frz ob (.dK kvs))/\Q v (upd H' a (.dK kvs))
theorem yvB (f:yjB e ix c ρ h=some (d,h')):∃ n h1 ks xs b h2,e ρ h=some (.loc n,h1)/\h1[n]?=some (.dct ks xs)/\ks.length<=10000/\yls c (ygU ix ρ) (ks.map ynR) (h1.set n (.fz ks xs))=some (b,h2)/\d=.lst b/\h'=h2.set n (.dct ks xs):=by
 obtain ⟨x,h1,g,f⟩:=yj f;split at f
 .split at f
  .split at f
   .obtain ⟨b,h2,i,j⟩:=yj f;cases j;exact ⟨_,_,_,_,_,_,g,‹_›,‹_›,i,rfl,rfl⟩
   .cases f
  .cases f
 .cases f
theorem yso {NF:Addr->Prop}(ix:List Nat) (a:ybH K J M) (b:ybH K tb B):ykg K (yxs NF J ix tb) (yjB M ix B):=by
 intro W0 W ρ c Q d h' I e q;obtain ⟨n,h1,ks,xs,zs,h2,e1,A,u,e2,rfl,rfl⟩:=yvB e;refine a W0 W ρ c _ _ h1 I e1 fun v W1 w1 s r1=>?_
 subst w1;obtain ⟨p,ev,E,P,us,hp,hl,N⟩:=s.ok.loc A r1;have x:(ks.zip us).length=ks.length:=by rw [length_zip,hl,Nat.min_self]
 refine ⟨p,ks.zip us,ev,hp,fun ob nf=>?_⟩;have lf:Le K W1 (ynM W1 n p (.frz ob (.dK (ks.zip us))) (.fz ks xs)):=ygg s.ok A E P ⟨P,ob,us,yK,hl,N⟩;have j:∀ {m},Le K (ynM W1 n p (.frz ob (.dK (ks.zip us))) (.fz ks xs)) m->m.h[n]?=some (.fz ks xs)/\m.H p=some (.frz ob (.dK (ks.zip us))):=fun l =>
  have z:=l.lf.fz n ks xs (getElem?_set_self (List.getElem?_eq_some_iff.mp A).1)
  ⟨z.1,(z.2 p E).trans yK⟩
 have G:∀ {h r},yls B (ygU ix ρ) ((ks.map ynR).drop ks.length) h=some (r,h2)->r=[]/\h=h2:=fun f=>by rw [List.drop_of_length_le (by rw [length_map];exact Nat.le_refl _)] at f;cases f;exact ⟨rfl,rfl⟩
 refine fun D L=>yCn (ykk (W1:=ynM W1 n p (.frz ob (.dK (ks.zip us))) (.fz ks xs)) ks.length (fun i h r=>yls B (ygU ix ρ) ((ks.map ynR).drop i) h=some (r,h2)) lf.ok (Nat.le_trans u (by decide)) L e2 (fun i m r l t f=>?_) (fun m r l f=>⟨(G f).1,x.symm,(j l).2⟩) fun m C l f R n2 hd Z=>?_)
 .refine ⟨⟨x ▸ t,(j l).2⟩,fun v H2 hy k g U _=>?_⟩;obtain ⟨rfl,F,y1,rfl⟩:=hy;obtain ⟨y4,Y⟩:=List.getElem?_eq_some_iff.mp y1;rw [List.drop_eq_getElem_cons (by rw [length_map];exact t),List.getElem_map,show ks[i]=F.1 by rw [<- Y,List.getElem_zip]] at f;obtain ⟨y,h3,k1,f3⟩:=yj f;obtain ⟨ys,h4,k2,f4⟩:=yj f3;cases f4;exact b m m _ _ _ y h3 (yhJ I ((s.trans lf).trans l) ix (ysh F.1)) k1 fun w T w3 S r3=>U w y ys T S rfl r3 (w3 ▸ k2)
 .cases (G f).2;obtain ⟨O,X⟩:=j l;have o:m.m[n]?=some p:=yeA l.pre E;have H:=(l.ok.at_ n _ p O o).1;exact ⟨p,ob,ks.zip us,nf,X,q D (ynM m n p (.dK (ks.zip us)) (.dct ks xs)) rfl (yzI ((s.trans lf).trans l) O o H ⟨H,us,yK,hl,RepL.mono (lf.fs.trans l.fs) (lf.pre.trans l.pre) _ _ N⟩ (yDd s A fun _ _ z=>by cases z)) R ((s.trans lf).fresh L) (fun z=>by cases z) ⟨n2,C,(yL fun z=>by subst z;exact R (mem_of_getElem? o)).trans hd,Z⟩⟩
end PX
namespace PX
open PySem L2
def yiY (ix:List Nat) (ρ:PSt) (a b:PV):PSt:=.val a::.val b::ix.map (yoK ρ)
def yzM (c:XT) (e:XE) (inn:PV->PV->PSt):List PV->AH->Option (List PV×AH)
 | [],h=>some ([],h)
 | x::xs,h=>match x with
  | .tup [p,q]=>ob (c (inn p q) h) fun b h1=>if b=true then ob (e (inn p q) h1) fun y h2=>ob (yzM c e inn xs h2) fun ys h3=>some (y::ys,h3) else yzM c e inn xs h1
  | _=>none
def ymq (it:XA) (ix:List Nat) (c:XT) (e:XE):XO:=fun ρ h=>ob (it ρ h) fun xs h1=>if xs.length<100000 then ob (yzM c e (yiY ix ρ) xs h1) fun ys h2=>some (.lst ys,h2) else none
def yDh:XT:=fun _ h=>some (true,h)
end PX
namespace L2
open PySem PySem.Spec PyProof.Rows PX
def PTs (X:Cx) (cs:List Expr) (t:TT):Prop :=
 ∀ (pins:List (Addr×Obj)) (s:Shared) (Z:St) (H:Hp) (Q:Bool->Hp->Prop),Inv X pins Z H s->t Z H Q->wpAny (model X.prog X.w) X.A (forIn cs true fun c r=>if r=true then do let ok <- isTrue c X.env (eval c X.env);pure (ForInStep.yield ok) else pure (ForInStep.yield r)) (TP X pins Z Q) X.xe s
theorem PTs.one (h:PT X c t):PTs X [c] t:=fun p s Z H Q I q=>wpAny_tests_one (h p s Z H Q I q)
def yEW:TT:=fun _ H Q=>Q true H
theorem PTs.nil:PTs X [] yEW:=fun p s Z H Q I q=>wpAny_tests_nil ⟨H,I,q⟩
theorem yzN:ymb a ix yEW te=yri a ix te:=rfl
theorem yzO (h:PE X e (ymb b ix yEW te)):PE X e (yri b ix te):=yzN ▸ h
def yph (J:It) (g:TG) (k:Nat) (tc:TT) (te:TE) (bs:L2.St) (D:Addr) (Q:VK) (H:Hp):Prop:=∃ W:Nat->Nat->Hp->Prop,(∃ m,W 0 m H)/\∀ i m H,W i m H ->
 (J.stop i H/\Q (.ref D) H)\/(J.go i H/\∀ x H',J.yld i H x H'->∀ os:L2.St,os.length=k->g x (os++bs) H' fun Z2 H2=>(∃ os2:L2.St,os2.length=k/\Z2=os2++bs)/\tc Z2 H2 fun b H1=>if b=true then te Z2 H1 fun y H3=>∃ acc,H3 D=some (.lst acc)/\acc.length<sizeLine/\∃ m',m'<m/\W (i+1) m' (upd H3 D (.lst (acc++[y]))) else ∃ m',m'<m/\W (i+1) m' H1)
theorem yzP {Q:VK}(h:yxa J tc te (inner ix Z) D Q H):yph J (ynd 0) 1 tc te (ix.map fun i=>Z[i]?.getD none) D Q H:=by
 obtain ⟨W,w0,t⟩:=h;refine ⟨W,w0,fun i m H w=>(t i m H w).imp id fun z=>⟨z.1,fun x c y os b=>?_⟩⟩
 match os,b with
 | [o],_=>exact ⟨⟨[some x],rfl,rfl⟩,z.2 x c y⟩
theorem ysp {X:Cx}{elt iter tg:Expr}{cs:List Expr}{tc:TT}{xs:List Str}{gt:TG}{R:It->Hp->Prop}{scope:Scope}{O:Pos}{wi:TI}{te:TE}(ix:List Nat) (L:List Str) (hc:X.calm=true) (hi:PI X tg iter wi) (hfr:FrOk X scope ix L)
  (hg:∀ (t:List (Str×Addr)) (C:Addr) (B:Shared) (E:Hp) (fp:List Addr) (g:List (Addr×Obj)),PG (cxC X scope t C (xs++L) B E fp g) tg gt)
  (he:∀ (t:List (Str×Addr)) (C:Addr) (B:Shared) (E:Hp) (fp:List Addr) (g:List (Addr×Obj)),PE (cxC X scope t C (xs++L) B E fp g) elt te)
  (hq:∀ (t:List (Str×Addr)) (C:Addr) (B:Shared) (E:Hp) (fp:List Addr) (g:List (Addr×Obj)),PTs (cxC X scope t C (xs++L) B E fp g) cs tc)
  (G:scope.kind=.function) (N:∀ y∈scope.names,y.2≠.cell)
  (hnames:∀ y∈scope.names,y.2=.local->scope.names.lookup y.1=some .local) (hfree0:∀ y∈scope.names,y.2=.free->y.1∈L)
  (hs:∀ v,foldedSetIterable iter X.env v=pure v)
  {g:List (Addr×Obj)}{s:Shared}{K:St}{H:Hp}{Qf:VK}{use:Option (Value->Sem Unit)}{QQ:Value->Shared->Prop}{p2:Pos}(I:Inv X g K H s) (h:wi K H R) (hR:∀ J H1,R J H1->∀ D,H1 D=none->yph J gt xs.length tc te (ix.map fun i=>(K[i]?).getD none) D Qf (upd H1 D (.lst [])))
  (fin0:∀ {t:List (Str×Addr)}{C:Addr}{s3:Shared}{F:Hp}{fp:List Addr},Inv X g K F s3->(∀ b∈fp,yui X g F b)->s3.heap.objs.size=C->∀ {D:Addr}{K':St}{H':Hp}{s':Shared},Inv (cxC X scope t C (xs++L) s3 F fp g) [] K' H' s'->Qf (.ref D) H'->compPost (model X.prog X.w) X.A X.xe use QQ (.ref D) C (.ok .next) s') :
  wpAny (model X.prog X.w) X.A (comprehension (.ListComp elt [⟨tg,iter,cs,0⟩] scope O) scope X.env p2 (newList []) false (eval iter X.env) use) QQ X.xe s:=by
 have hfn:X.env.scope.kind=.function:=I.ok.kind;have Y:∀ y∈scope.names,y.2=.free->X.env.kindOf y.1=some .cell/\scope.names.lookup y.1=some .free:=fun y M e=>by obtain ⟨j,hj,ej⟩:=getElem_of_mem (hfree0 y M e);obtain ⟨i,_,_,h3,h4⟩:=hfr.get (j:=j) (y:=y.1) (by rw [List.getElem?_eq_getElem hj,ej]);exact ⟨h4,h3⟩
 obtain ⟨t,ecl,P,hcl2⟩:=yfc (env:=X.env) scope.names [] fun n hn=>I.ok.has n (.inl (Y _ hn rfl).1)
 have hclos:closureFor scope X.env=pure t:=by
  unfold closureFor;have:(forIn scope.names ([]:List (Str×Addr)) (fun (x:Str×NameKind) (r:List (Str×Addr))=>if (x.2 == NameKind.free)=true then do let c <- cellOf X.env x.1;pure (ForInStep.yield ((x.1,c)::r)) else pure (ForInStep.yield r)):Sem (List (Str×Addr)))=pure t:=ecl
  first
   | exact (by simpa using congrArg (· >>= fun r=>pure r) this)
   | (rw [show (pure t:Sem (List (Str×Addr)))=(pure t >>= fun r=>pure r) from rfl,<- this];rfl)
 have A:∀ y c,t.lookup y=some c->X.env.cells.lookup y=some c/\(y,NameKind.free)∈scope.names:=fun y c e=>by
  by_cases M:(y,NameKind.free)∈scope.names
  .exact ⟨by rw [<- P y M];exact e,M⟩
  .rw [hcl2 y M] at e;simp at e
 refine wpAny_comprehension_free rfl hs hclos G hnames ?_;refine thn (hi g s K H _ I h) fun v s1 h1=>thn h1 fun itv s2 h2=>?_
 obtain ⟨it,fp,tn,J,H2,e,I2,T,st2,f2,q2⟩:=h2;subst e;refine wpAny_newObj_type ?_;generalize hs3:({ s2 with heap:=s2.heap.push { cls:=.type "list",dict:=none,data:=.seq ([]:List Value).toArray } }:Shared)=s3;generalize hD:s2.heap.objs.size=D;have hDn:H2 D=none:=by rw [<- hD];exact I2.hok.fresh (Nat.le_refl _)
 have w:Inv X g K (upd H2 D (.lst [])) s3:=by rw [<- hs3,<- hD];exact I2.lnew (t':=s2.toks) (ys:=[]) (its:=[]) .nil (zero_le _)
 have k3:∀ b o,s2.heap.get? b=some o->s3.heap.get? b=some o:=fun b o e=>by rw [<- hs3];exact Heap.get?_push_of_some _ e
 have st3:tn 0 s3.heap:=T.keep _ _ _ st2 fun b _ o e=>k3 b o e
 have fne:∀ b∈fp,b≠D:=fun b q=>by obtain ⟨o,e,_⟩:=T.obj _ _ st2 b q;rw [<- hD];exact ne_of_lt (Heap.lt_size e)
 have U:∀ b∈fp,yui X g (upd H2 D (.lst [])) b:=fun b q=>⟨by rw [yL (fne b q)];exact (f2 b q).1,(f2 b q).2⟩
 have q3:=hR _ _ q2 D hDn;generalize upd H2 D (.lst [])=F at w U q3;obtain ⟨W,⟨m0,w0⟩,turn⟩:=q3;refine wpAny_newFunctionEnv N (by intro y M;simp at M) (fun h4 hns hsb=>?_) G
 try dsimp only at hns hsb ⊢
 generalize hC:s3.heap.objs.size=C at hns hsb ⊢;have k4:∀ b o,s3.heap.get? b=some o->h4.get? b=some o:=fun b o e=>(hsb.2 b (by rw [<- hC];exact ne_of_lt (Heap.lt_size e))).trans (Heap.get?_push_of_some _ e)
 have Cne:∀ b o,s3.heap.get? b=some o->b≠C:=fun b o e=>by rw [<- hC];exact ne_of_lt (Heap.lt_size e)
 have stk:=w.stkSub;have pinF:∀ p∈X.pn++g,p.1∉frs X.stack:=fun p hp z=>by
  obtain ⟨_,_,n1,n2,_⟩:=w.pin p hp;rcases mem_cons.mp (stk _ z) with z|z
  .exact n1 z
  .exact n2 z
 have okC:(cxC X scope t C (xs++L) s3 F fp g).Ok:=by
  refine ⟨w.ok.mod,by show (relabel scope X.env).kind=_;exact G,w.ok.glob,w.ok.blt,le_of_eq hC,fun y z c h1 h2=>w.ok.inj y z c (A y c h1).1 (A z c h2).1,fun y M=>?_,fun y c hf _=>(by cases hf),w.ok.hd,w.ok.frames,.inl rfl,fun b q=>⟨?_,fun y c e z=>?_⟩,w.bs,?_,fun b o e q=>?_,fun b q z=>?_,w.stack,w.stkFree⟩
  .have M:((relabel scope X.env).names.lookup y=some .cell)\/((relabel scope X.env).names.lookup y=some .free):=M;rw [show (relabel scope X.env).names.lookup y=_ from yem y scope.names] at M;cases e:scope.names.lookup y with
   | none=>rw [e] at M;simp at M
   | some k =>
    have hm:(y,k)∈scope.names:=PySem.mem_of_lookup e;have hkf:k=.free:=by rw [e] at M;cases k<;>simp at M ⊢;exact absurd rfl (N _ hm)
    subst hkf;obtain ⟨c,hc'⟩:=w.ok.has y (.inl (Y _ hm rfl).1);exact ⟨c,by show t.lookup y=_;rw [P y hm];exact hc'⟩
  .obtain ⟨o,e,_⟩:=T.obj _ _ st3 b q;exact Cne b o e
  .exact (U b q).2.2.2.2.1 y c (A y c e).1 z
  .exact Nat.le_trans w.ok.bsz w.sz
  .rcases (U b q).2.2.2.1 with z|z
   .exact w.ok.noex b o e z
   .exact absurd (lt_of_lt_of_le (Heap.lt_size e) (Nat.le_trans w.ok.bsz z)) (lt_irrefl _)
  .rcases mem_cons.mp (stk _ z) with z|z
   .exact (U b q).2.1 z
   .exact (U b q).2.2.1 z
 have I4:Inv (cxC X scope t C (xs++L) s3 F fp g) [] (replicate xs.length none++ix.map fun i=>(K[i]?).getD none) F { s3 with heap:=h4,toks:=s3.toks+([]:List (Str×Value)).length }:=by
  refine ⟨okC,rfl,w.bare,Un.kept k4,⟨_,hns,fun j y v e1 Z e3=>?_⟩,fun y c e=>?_,w.hok.fresh (le_of_eq hC),fun y c e=>w.freeC y c (A y c e).1,fun p hp=>?_,w.hok.kept k4,?_⟩
  .have e1:(xs++L)[j]?=some y:=e1
   by_cases hj:j<xs.length
   .rw [getElem?_append_left (by rw [List.length_replicate];exact hj),getElem?_replicate,if_pos hj] at Z;cases Z
   .rw [getElem?_append_right (by omega)] at e1;rw [getElem?_append_right (by rw [List.length_replicate];omega),List.length_replicate] at Z;obtain ⟨i,hi1,hi2,hi3,hi4⟩:=hfr.get (j:=j-xs.length) (y:=y) e1;have e2':K[i]?=some (some v):=by
     rw [getElem?_map,hi1] at Z;simp at Z;cases z:K[i]? with
     | none=>rw [z] at Z;simp at Z
     | some o=>rw [z] at Z;simp at Z;rw [Z]
    obtain ⟨m,_,hl⟩:=w.loc;obtain ⟨u,r,l⟩:=hl i y v hi2 e2' (.inr (.inl hi4));refine ⟨u,r,?_⟩;rcases l with ⟨k,_⟩|⟨k,c,ec,z⟩
    .rw [hi4] at k;cases k
    .have hm:(y,NameKind.free)∈scope.names:=PySem.mem_of_lookup hi3;refine .inr ⟨.inl ?_,c,by show t.lookup y=_;rw [P y hm];exact ec,?_⟩
     .show (relabel scope X.env).names.lookup y=_;rw [show (relabel scope X.env).names.lookup y=_ from yem y scope.names,hi3];simp [hfn,hi4]
     .obtain ⟨o,ho,hd⟩:=z;exact ⟨o,k4 _ _ ho,hd⟩
  .obtain ⟨v,o,ho,hd⟩:=w.cell y c (A y c e).1;exact ⟨v,o,k4 _ _ ho,hd⟩
  .have hp:p∈X.pn++g:=by simpa [cxC] using hp
   obtain ⟨e,n,ne,nf,d⟩:=w.pin p hp;exact ⟨k4 _ _ e,n,Cne _ _ e,pinF p hp,d⟩
  .show (replicate xs.length none++ix.map fun i=>(K[i]?).getD none).length=(xs++L).length;rw [length_append,length_append,List.length_replicate,length_map,hfr.len]
 have st4:tn 0 h4:=T.keep _ _ _ st3 fun b _ o e=>k4 b o e
 have f4:∀ b∈fp,b≠C/\b∉frs X.stack/\(∀ y c,t.lookup y=some c->c≠b)/\∀ p∈(X.pn++g)++([]:List (Addr×Obj)),p.1≠b:=fun b q=>by
  obtain ⟨o,e,_⟩:=T.obj _ _ st3 b q;refine ⟨Cne b o e,fun z=>?_,fun y c e=>(U b q).2.2.2.2.1 y c (A y c e).1,fun p hp=>(U b q).2.2.2.2.2 p (by simpa using hp)⟩;rcases mem_cons.mp (stk _ z) with z|z
  .exact (U b q).2.1 z
  .exact (U b q).2.2.1 z
 have S:∀ {H':Hp},(∀ b∈fp,H' b=none)->∀ b∈fp,yui (cxC X scope t C (xs++L) s3 F fp g) [] H' b:=fun hn b q=>⟨hn b q,(f4 b q).1,(f4 b q).2.1,.inl q,(f4 b q).2.2.1,(f4 b q).2.2.2⟩
 have loop:∀ s5:Shared,s5={ s3 with heap:=h4,toks:=s3.toks+([]:List (Str×Value)).length } ->
   codeAny (model X.prog X.w) X.A (.compLoop (.ListComp elt [⟨tg,iter,cs,0⟩] scope O) 0 (.ref it) (.ref D) (compEnvC scope t C X.env)) (compPost (model X.prog X.w) X.A X.xe use QQ (.ref D) C) s5:=by
  rintro s5 rfl;refine codeAny_loop rfl (fun n s'=>∃ i os H',os.length=xs.length/\Inv (cxC X scope t C (xs++L) s3 F fp g) [] (os++ix.map fun i=>(K[i]?).getD none) H' s'/\tn i s'.heap/\(∀ b∈fp,H' b=none)/\W i n H') ?_ m0 ⟨0,replicate xs.length none,F,List.length_replicate,I4,st4,fun b q=>(U b q).1,w0⟩;rintro n s6 ⟨i,os,H6,hos,I6,st6,fr6,w6⟩;show wpAny _ _ ((compTurn (.ListComp elt [⟨tg,iter,cs,0⟩] scope O) 0 (.ref it) (.ref D) (compEnvC scope t C X.env)).onRaise (fun x=>do noteFrame x (compEnvC scope t C X.env);theTreesLotGoes x)) _ _ s6;refine wpAny_noted ?_;rw [compTurn_list];rcases turn i n H6 w6 with ⟨stop,qn⟩|⟨go,step⟩
  .refine wpAny_bind (wpAny_standAt (wpAny_bind (thn (T.done (cxC X scope t C (xs++L) s3 F fp g) rfl rfl rfl hc i [] s6 _ H6 _ I6 (S fr6) st6 stop) fun r s7 ⟨hr,I7⟩=>?_)));subst hr;exact wpAny_pure (fin0 w U hC I7 qn)
  .refine wpAny_bind (wpAny_standAt (wpAny_bind (thn (T.item (cxC X scope t C (xs++L) s3 F fp g) rfl rfl rfl hc i [] s6 _ H6 _ I6 (S fr6) st6 go) fun r s7 ⟨u,hr,h7⟩=>?_)));subst hr;refine wpAny_bind (thn h7 fun _ s8 z'=>?_);obtain ⟨y,H8,I8,r8,y8,Q,fr8⟩:=z';have I8':=I8.pinned (S fr8) (T.obj _ _ Q);refine wpAny_bind (wpAny_mono (hg t C s3 F fp g _ s8 _ H8 y u _ I8' r8 (step y _ y8 os hos)) (fun _ s9 y'=>?_) fun _ _ f=>f.elim);obtain ⟨K9,H9,I9,⟨os9,l9,e9⟩,q9⟩:=y';subst e9;refine wpAny_bind (wpAny_mono (hq t C s3 F fp g _ s9 _ _ _ I9 q9) (fun kb s9b hkb=>?_) fun _ _ f=>f.elim);obtain ⟨H9b,I9b,q9b⟩:=hkb;cases kb with
   | false =>
    rw [if_neg (by decide)] at q9b;obtain ⟨m',hm',w10⟩:=q9b;refine wpAny_pure ⟨rfl,m',hm',i+1,os9,_,l9,I9b.unpinned,T.keep _ _ _ Q fun b q o e=>(I9b.pin (b,o) (mem_append_right _ (mem_append_right _ (ydF q e)))).1,fun b q=>?_,w10⟩;obtain ⟨o,e,d⟩:=T.obj _ _ Q b q;exact (I9b.pin (b,o) (mem_append_right _ (mem_append_right _ (ydF q e)))).2.1
   | true =>
   rw [if_pos rfl] at q9b;refine wpAny_bind (wpAny_bind (wpAny_mono (he t C s3 F fp g _ s9b _ _ _ I9b q9b) (fun v s10 w'=>?_) fun _ _ f=>f.elim));obtain ⟨z,H10,I10,r10,acc,a10,l10,m',hm',w10⟩:=w';refine wpAny_bind (wpAny_mono (yfb (X:=cxC X scope t C (xs++L) s3 F fp g) _ s10 _ H10 (.ref D) [z] (.ref D) [v] (fun _ H11=>H11=upd H10 D (.lst (acc++[z]))) I10 rfl (.cons r10 .nil) ⟨D,acc,z,rfl,rfl,a10,l10,rfl⟩) (fun _ s11 zz=>?_) fun _ _ f=>f.elim);obtain ⟨_,H11,I11,_,e11⟩:=zz;subst e11;refine wpAny_pure (wpAny_pure ⟨rfl,m',hm',i+1,os9,_,l9,I11.unpinned,T.keep _ _ _ Q fun b q o e=>(I11.pin (b,o) (mem_append_right _ (mem_append_right _ (ydF q e)))).1,fun b q=>?_,w10⟩);obtain ⟨o,e,d⟩:=T.obj _ _ Q b q;exact (I11.pin (b,o) (mem_append_right _ (mem_append_right _ (ydF q e)))).2.1
 exact codeAny_compStart_list (loop _ rfl) (T.self X.A 0 _ _ _ st4 (loop _ rfl))
theorem ypi {X:Cx} ix z (N:X.calm=true) (hi:PI X E iter M) (L:FrOk X scope ix z)
  (W:∀ u C f g fp d,PG (cxC X scope u C (xs++z) f g fp d) E gt)
  (he:∀ u C f g fp d,PE (cxC X scope u C (xs++z) f g fp d) elt te)
  (hq:∀ u C f g fp d,PTs (cxC X scope u C (xs++z) f g fp d) cs tc)
  (p:scope.kind=.function) (l:∀ y∈scope.names,y.2≠.cell)
  (k:∀ y∈scope.names,y.2=.local->scope.names.lookup y.1=some .local) (j:∀ y∈scope.names,y.2=.free->y.1∈z)
  (hs:∀ v,foldedSetIterable iter X.env v=pure v) (Y:∀ K H Q,t K H Q->∃ R,M K H R/\∀ J G,R J G->∀ D,G D=none->yph J gt xs.length tc te (ix.map fun i=>K[i]?.getD none) D Q (upd G D (.lst []))):PE X (.ListComp elt [⟨E,iter,cs,0⟩] scope A) t:=by
 intro d s K H Q I h;obtain ⟨R,h,hR⟩:=Y _ _ _ h;refine ysp ix z N hi L W he hq p l k j hs I h hR fun {u C s3 O fp} I3 B hC {D K' F s'} w Z=>?_
 have r:∀ b o,s3.heap.get? b=some o->b≠C:=fun b o e=>by rw [<- hC];exact ne_of_lt (Heap.lt_size e)
 obtain ⟨m,hn,_⟩:=w.loc;refine ⟨m,hn,fun h' T=>⟨.ref D,F,?_,rfl,Z⟩⟩;have S:F C=none:=w.free;have same:=fun b x=>T.2 b x
 have U:=w.base;have P:Un (frs X.stack) fp O F s3.heap h':=by
  refine ⟨fun b o e n h1 h2=>?_,fun b o e n h1 h2=>?_,U.free,fun b o e h2=>?_,U.tups,U.frzs,U.tbls⟩
  .rw [same b (r b o e)];exact U.keep b o e n h1 h2
  .rw [same b (r b o e)];exact U.slot b o e n h1 h2
  .rw [same b (r b o e)];exact U.there b o e h2
 refine I3.call' (by exact w.os) P ?_ w.bare fun b x=>⟨(B b x).2.2.2.1,(B b x).2.1,(B b x).2.2.2.2.1,(B b x).2.2.2.2.2⟩
 intro b ob e;refine (w.hok b ob e).stay (fun c w' N q=>?_) (fun _ q=>q) fun _ _ q=>q
 grind
theorem yhK {X:Cx} ix j (w:X.calm=true) (t:PI X (.Name x o) iter p) (m:FrOk X scope ix j)
  (s:∀ l C c d fp b,PE (cxC X scope l C (x::j) c d fp b) elt te)
  (z:∀ l C c d fp b,PTs (cxC X scope l C (x::j) c d fp b) cs tc)
  (n:(x::j).Nodup) (g:scope.kind=.function) (i:∀ y∈scope.names,y.2≠.cell)
  (e:∀ y∈scope.names,y.2=.local->scope.names.lookup y.1=some .local) (f:∀ y∈scope.names,y.2=.free->y.1∈j) (q:scope.names.lookup x=some .local)
  (hs:∀ v,foldedSetIterable iter X.env v=pure v):PE X (.ListComp elt [⟨.Name x o,iter,cs,0⟩] scope k) (ymb p ix tc te):=ypi (xs:=[x]) ix j w t m (fun l C c d fp b=>yjS n rfl (.inl (lookup_relabel_local q)) (.inr (lookup_relabel_local q))) s z g i e f hs fun _ _ _ h=>⟨_,h,fun _ _ r D u=>yzP (r D u)⟩
end L2
namespace PX
open PySem L2 PySem.Spec PyProof.Rows
section
variable (K:Ck)
def cE (x:XE):TE:=fun Z H Q=>∃ (W0 W:Wd) (ρ:PSt) (y:PV) (h':AH),W.H=H/\Good K W0 W ρ Z/\x ρ W.h=some (y,h')/\∀ v W',W'.h=h'->Le K W W'->ycC K W' y v->Q v W'.H
def cO (x:XO):TE:=fun Z H Q=>∃ (W0 W:Wd) (ρ:PSt) (d:Nd) (h':AH),W.H=H/\Good K W0 W ρ Z/\x ρ W.h=some (d,h')/\∀ p W',W'.h=h'->Le K W W'->p∉W'.m->W.H p=none->d≠.dead->NdAt K W'.F W'.H W'.m d p->Q (.ref p) W'.H
noncomputable def cT (x:XT):TT:=fun Z H Q=>∃ (W0 W:Wd) (ρ:PSt) (y:Bool) (h':AH),W.H=H/\Good K W0 W ρ Z/\x ρ W.h=some (y,h')/\∀ W',W'.h=h'->Le K W W'->Q y W'.H
def cA (x:XA):TA:=fun Z H Q=>∃ (W0 W:Wd) (ρ:PSt) (y:List PV) (h':AH),W.H=H/\Good K W0 W ρ Z/\x ρ W.h=some (y,h')/\∀ v W',W'.h=h'->Le K W W'->ycD K W' y v->Q v W'.H
noncomputable def cP (x:PSt->AH->Option (Option Int×AH)):TO:=fun Z H Q=>∃ (W0 W:Wd) (ρ:PSt) (y:Option Int) (h':AH),W.H=H/\Good K W0 W ρ Z/\x ρ W.h=some (y,h')/\∀ W',W'.h=h'->Le K W W'->Q y W'.H
noncomputable def cI (x:XA):TI:=fun Z H R=>∃ (W0 W:Wd) (ρ:PSt) (y:List PV) (h':AH),W.H=H/\Good K W0 W ρ Z/\x ρ W.h=some (y,h')/\∀ J W',W'.h=h'->Le K W W'->ItOk K W' J y->R J W'.H
def cG (y:XG):TG:=fun v Z H Q=>∃ (W0 W:Wd) (ρ ρ':PSt) (x:PV),W.H=H/\Good K W0 W ρ Z/\ycC K W x v/\y x ρ=some ρ'/\∀ Z',Good K W0 W ρ' Z'->Q Z' W.H
def cGs (y:XGs):TGs:=fun v Z H Q=>∃ (W0 W:Wd) (ρ ρ':PSt) (x:List PV),W.H=H/\Good K W0 W ρ Z/\ycD K W x v/\y x ρ=some ρ'/\∀ Z',Good K W0 W ρ' Z'->Q Z' W.H
def cS (s:XS):TS:=fun D Z H=>∃ (W0 W:Wd) (ρ:PSt) (o:Out) (h':AH),W.H=H/\Good K W0 W ρ Z/\s ρ W.h=some (o,h')/\Ends.Ok K W0 W D h' o
noncomputable def cF (s:XS):TS:=fun D Z H=>∃ (W0 W:Wd) (ρ ρ':PSt) (h':AH),W.H=H/\Good K W0 W ρ Z/\s ρ W.h=some (.nx ρ',h')/\∀ W',W'.h=h'->Lf K W W'->Good K W0 W' ρ' Z->D.nx Z W'.H
end
section
variable {K:Ck}
theorem sE:ybH K (cE K x) x:=fun b W ρ Z Q y h' g e q=>⟨b,W,ρ,y,h',rfl,g,e,q⟩
theorem sO:ykg K (cO K x) x:=fun b W ρ Z Q y h' g e q=>⟨b,W,ρ,y,h',rfl,g,e,q⟩
theorem sT:yjr K (cT K x) x:=fun b W ρ Z Q y h' g e q=>⟨b,W,ρ,y,h',rfl,g,e,q⟩
theorem sA:ylY K (cA K x) x:=fun b W ρ Z Q y h' g e q=>⟨b,W,ρ,y,h',rfl,g,e,q⟩
theorem sP {x}:yCj K (cP K x) x:=fun b W ρ Z Q y h' g e q=>⟨b,W,ρ,y,h',rfl,g,e,q⟩
theorem sI:SndI K (cI K x) x:=fun b W ρ Z Q y h' g e q=>⟨b,W,ρ,y,h',rfl,g,e,q⟩
theorem sG:ypU K (cG K y) y:=fun b W ρ ρ' Z x v Q g r e q=>⟨b,W,ρ,ρ',x,rfl,g,r,e,q⟩
theorem sGs:ypV K (cGs K y) y:=fun b W ρ ρ' Z x v Q g r e q=>⟨b,W,ρ,ρ',x,rfl,g,r,e,q⟩
theorem sS:yeY K (cS K s) s:=fun b W ρ Z D o h' g e q=>⟨b,W,ρ,o,h',rfl,g,e,q⟩
theorem sF:ytX K (cF K s) s:=fun b W ρ ρ' Z D h' g e q=>⟨b,W,ρ,ρ',h',rfl,g,e,q⟩
end
noncomputable abbrev ckX (X:Cx) (A:Nat->Addr):Ck:=⟨X.K,A⟩
structure ZE (X:Cx) (A:Nat->Addr) (e:Expr) (x:XE):Prop where of:PE X e (cE (ckX X A) x)
structure ZO (X:Cx) (A:Nat->Addr) (e:Expr) (x:XO):Prop where of:PE X e (cO (ckX X A) x)
structure ZT (X:Cx) (A:Nat->Addr) (e:Expr) (x:XT):Prop where of:PT X e (cT (ckX X A) x)
structure ZW (X:Cx) (A:Nat->Addr) (e:Expr) (x:XT):Prop where of:PW X e (cT (ckX X A) x)
structure ZA (X:Cx) (A:Nat->Addr) (e:List Expr) (n:Nat) (x:XA):Prop where
 of:PA X e (cA (ckX X A) x)
 len:∀ ρ h xs h',x ρ h=some (xs,h')->xs.length=n
structure ZP (X:Cx) (A:Nat->Addr) (e:Option Expr) (x:PSt->AH->Option (Option Int×AH)):Prop where of:PO X e (cP (ckX X A) x)
structure ZI (X:Cx) (A:Nat->Addr) (tg e:Expr) (x:XA):Prop where of:PI X tg e (cI (ckX X A) x)
structure ZG (X:Cx) (A:Nat->Addr) (e:Expr) (y:XG):Prop where of:PG X e (cG (ckX X A) y)
structure ZGs (X:Cx) (A:Nat->Addr) (e:List Expr) (y:XGs):Prop where of:PGs X e (cGs (ckX X A) y)
structure ZS (X:Cx) (A:Nat->Addr) (e:Stmt) (s:XS):Prop where of:PS X e (cS (ckX X A) s)
structure ZSs (X:Cx) (A:Nat->Addr) (e:List Stmt) (s:XS):Prop where of:PSs X e (cS (ckX X A) s)
structure ZF (X:Cx) (A:Nat->Addr) (e:Stmt) (s:XS):Prop where of:PS X e (cF (ckX X A) s)
structure ZFs (X:Cx) (A:Nat->Addr) (e:List Stmt) (s:XS):Prop where of:PSs X e (cF (ckX X A) s)
section
variable {X:Cx}{A:Nat->Addr}{e:Expr}{es:List Expr}
theorem wE (p:PE X e t) (s:ybH (ckX X A) t x):ZE X A e x:=⟨fun b st Z H Q I z=>by obtain ⟨d,W,ρ,y,h',rfl,g,c,q⟩:=z;exact p b st Z _ Q I (s d W ρ Z Q y h' g c q)⟩
theorem wO (p:PE X e t) (s:ykg (ckX X A) t x):ZO X A e x:=⟨fun b st Z H Q I z=>by obtain ⟨d,W,ρ,y,h',rfl,g,c,q⟩:=z;exact p b st Z _ Q I (s d W ρ Z Q y h' g c q)⟩
theorem wT (p:PT X e t) (s:yjr (ckX X A) t x):ZT X A e x:=⟨fun b st Z H Q I z=>by obtain ⟨d,W,ρ,y,h',rfl,g,c,q⟩:=z;exact p b st Z _ Q I (s d W ρ Z Q y h' g c q)⟩
theorem wW (p:PW X e t) (s:yjr (ckX X A) t x):ZW X A e x:=⟨fun wh b st Z H Q I z=>by obtain ⟨d,W,ρ,y,h',rfl,g,c,q⟩:=z;exact p wh b st Z _ Q I (s d W ρ Z Q y h' g c q)⟩
theorem wA (p:PA X es t) (s:ylY (ckX X A) t x) (l:∀ ρ h xs h',x ρ h=some (xs,h')->xs.length=n):ZA X A es n x:=⟨fun pos b st Z H Q I z=>by obtain ⟨d,W,ρ,y,h',rfl,g,c,q⟩:=z;exact p pos b st Z _ Q I (s d W ρ Z Q y h' g c q),l⟩
theorem wP {x} (p:PO X o t) (s:yCj (ckX X A) t x):ZP X A o x:=⟨fun b st Z H Q I z=>by obtain ⟨d,W,ρ,y,h',rfl,g,c,q⟩:=z;exact p b st Z _ Q I (s d W ρ Z Q y h' g c q)⟩
theorem wI (p:PI X c e t) (s:SndI (ckX X A) t x):ZI X A c e x:=⟨fun b st Z H Q I z=>by obtain ⟨f,W,ρ,y,h',rfl,g,d,q⟩:=z;exact p b st Z _ Q I (s f W ρ Z Q y h' g d q)⟩
theorem wG (p:PG X e t) (s:ypU (ckX X A) t y):ZG X A e y:=⟨fun b st Z H v u Q I h z=>by obtain ⟨d,W,ρ,ρ',x,rfl,g,r,c,q⟩:=z;exact p b st Z _ v u Q I h (s d W ρ ρ' Z x v Q g r c q)⟩
theorem wGs (p:PGs X es t) (s:ypV (ckX X A) t y):ZGs X A es y:=⟨fun b st Z H v u Q I h z=>by obtain ⟨d,W,ρ,ρ',x,rfl,g,r,c,q⟩:=z;exact p b st Z _ v u Q I h (s d W ρ ρ' Z x v Q g r c q)⟩
theorem wS {st:Stmt}{t:TS}{x:XS}(p:PS X st t) (s:yeY (ckX X A) t x):ZS X A st x:=⟨fun b st Z H D I z=>by obtain ⟨d,W,ρ,o,h',rfl,g,c,q⟩:=z;exact p b st Z _ D I (s d W ρ Z D o h' g c q)⟩
theorem wSs {st:List Stmt}{t:TS}{x:XS}(p:PSs X st t) (s:yeY (ckX X A) t x):ZSs X A st x:=⟨fun b st Z H D I z=>by obtain ⟨d,W,ρ,o,h',rfl,g,c,q⟩:=z;exact p b st Z _ D I (s d W ρ Z D o h' g c q)⟩
theorem wF {st:Stmt}{t:TS}{x:XS}(p:PS X st t) (s:ytX (ckX X A) t x):ZF X A st x:=⟨fun b st Z H D I z=>by obtain ⟨d,W,ρ,ρ',h',rfl,g,c,q⟩:=z;exact p b st Z _ D I (s d W ρ ρ' Z D h' g c q)⟩
theorem wFs {st:List Stmt}{t:TS}{x:XS}(p:PSs X st t) (s:ytX (ckX X A) t x):ZFs X A st x:=⟨fun b st Z H D I z=>by obtain ⟨d,W,ρ,ρ',h',rfl,g,c,q⟩:=z;exact p b st Z _ D I (s d W ρ ρ' Z D h' g c q)⟩
end
structure Nm (x:Str):Prop where
 d:(x == ("__debug__":Str))=false
 c:(x == ("__classdict__":Str))=false
 n:x≠"__name__"
section
variable {X:Cx}{A:Nat->Addr}{a b c o:Expr}{es:List Expr}{xa xb xc:XE}{xo:XO}{aa:XA}{pos p apos:Pos}{x:Str}{n k:Nat}
theorem yiZ {j}:ZE X A (.Constant .none j pos) (xC .non):=wE yBy yyE
theorem yxt {b j}:ZE X A (.Constant (.bool b) j pos) (xC (.bl b)):=wE yFd yCc
theorem yl {i j}:ZE X A (.Constant (.int i) j pos) (xC (.int i)):=wE yBx yrn
theorem yx {x j}:ZE X A (.Constant (.str x) j pos) (xC (.str x)):=wE yBz yro
theorem z_v {i:Nat}(m:Nm x:=by exact ⟨by rfl',by rfl',by rfl'⟩) (e:X.N[i]?=some x:=by rfl) (d:Vis X.env.scope x:=by first|exact Or.inl rfl|exact Or.inr (Or.inl rfl)):ZE X A (.Name x pos) (ye i):=wE (yjm e d m.d m.c) (yyD i)
theorem yfP {n:Int}(f:X.mg x=some (.int n t)) (m:Nm x:=by exact ⟨by rfl',by rfl',by rfl'⟩) (e:Gl X x:=by rfl):ZE X A (.Name x pos) (xC (.int n)):=wE (yyy e f m.d) yrn
theorem ymr {n:Str}(f:X.mg x=some (.str n t)) (m:Nm x:=by exact ⟨by rfl',by rfl',by rfl'⟩) (e:Gl X x:=by rfl):ZE X A (.Name x pos) (xC (.str n)):=wE (yyz e f m.d) yro
theorem yeQ {k:Nat}(f:X.mg x=some (.ref (A k))) (m:Nm x:=by exact ⟨by rfl',by rfl',by rfl'⟩) (e:Gl X x:=by rfl):ZE X A (.Name x pos) (xC (.cls k)):=wE (yns e f m.d) (yyF)
theorem yvC {n:String}(g:X.mg x=none) (m:Nm x:=by exact ⟨by rfl',by rfl',by rfl'⟩) (e:Gl X x:=by rfl) (f:bootBuiltins x=some (.type n):=by rfl'):ZE X A (.Name x pos) (xC (.ty n)):=wE (yCb e g f m.n m.d) yCd
theorem ycl (h:ZO X A a xo):ZE X A a (xFz xo):=wE h.of (yCi sO)
theorem ygj (h:ZO X A a xo):ZE X A a (ylr xo):=wE h.of (yyM sO)
theorem ybP (g:OpR X (binaryOp op) r) (h:yck (ckX X A) r q) (e:ZE X A a xa) (f:ZE X A b xb):ZE X A (.BinOp a op b pos) (xOp q xa xb):=wE (yBQ g e.of f.of) (yoJ h sE sE)
theorem yqb (g:OpR X (binaryOp op) r) (h:yoI (ckX X A) r q) (e:ZE X A a xa) (f:ZE X A b xb):ZO X A (.BinOp a op b pos) (yuC q xa xb):=wO (yBQ g e.of f.of) (yyG h sE sE)
theorem yGu {r} {q} (e:UnR X (unaryOp op) r) (g:yyC (ckX X A) r q) (f:ZE X A a xa):ZE X A (.UnaryOp op a pos) (xUn q xa):=wE (yFl e f.of) (yCe g sE)
theorem yGv (e:ZE X A a xa):ZE X A (.UnaryOp .Not a pos) (yyA xa):=wE (yBJ e.of) (yuE sE)
theorem yfK (h:OpR X (compareOp op) r) (i:yck (ckX X A) r q) (e:ZE X A a xa) (g:ZE X A b xb) (f:behindInMarks op b=false:=by first|exact ylv _|with_unfolding_all rfl):ZE X A (.Compare a [op] [b] pos) (xOp q xa xb):=wE (yyj h e.of g.of f) (yoJ i sE sE)
theorem ysq (s:OpR X (compareOp op) r) (f:OpR X (compareOp e) i) (u:yck (ckX X A) r q) (g:yck (ckX X A) i h) (m:ZE X A a xa) (l:ZE X A b xb) (t:ZE X A c xc) (j:lastMarks [op,e] [b,c]=false:=by first|exact ylv _|with_unfolding_all rfl):ZE X A (.Compare a [op,e] [b,c] pos) (yfM q h xa xb xc):=wE (yul s f m.of l.of t.of j) (ylZ u g sE sE sE)
theorem yqc {op} (h:ZE X A a xa):ZE X A (.BoolOp op [a] pos) xa:=⟨yBH h.of⟩
theorem yqd (f:ZE X A a xa) (e:ZE X A (.BoolOp .And (b::es) pos) xb):ZE X A (.BoolOp .And (a::b::es) pos) (ykh xa xb):=wE (yBI f.of e.of) (yuD sE sE)
section
variable {ca cb:XT}
theorem ysr (g:ZT X A c ca) (f:ZE X A a xa) (e:ZE X A b xb):ZE X A (.IfExp c a b pos) (xIf ca xa xb):=wE (yue g.of f.of e.of) (yCh sT sE sE)
theorem yA (h:OpR X (compareOp op) r) (i:yck (ckX X A) r q) (e:ZE X A a xa) (g:ZE X A b xb) (f:behindInMarks op b=false:=by first|exact ylv _|with_unfolding_all rfl):ZT X A (.Compare a [op] [b] pos) (yt (xOp q xa xb)):=wT (yyl h e.of g.of f) (yhH (yoJ i sE sE))
theorem yhL (s:OpR X (compareOp op) r) (f:OpR X (compareOp e) i) (u:yck (ckX X A) r q) (g:yck (ckX X A) i h) (m:ZE X A a xa) (l:ZE X A b xb) (t:ZE X A c xc) (j:lastMarks [op,e] [b,c]=false:=by first|exact ylv _|with_unfolding_all rfl):ZT X A (.Compare a [op,e] [b,c] pos) (yt (yfM q h xa xb xc)):=wT (yum s f m.of l.of t.of j) (yhH (ylZ u g sE sE sE))
theorem ydU (e:ZT X A a ca):ZT X A (.UnaryOp .Not a pos) (yjs ca):=wT (yBE e.of) (yyI sT)
theorem ybQ (h:ZE X A a xa) (f:∀ e,isTrue a X.env e=(do let v <- e;standAt a.pos;holding [v] (truthy v)):=by exact fun _=>rfl):ZT X A a (yt xa):=wT (yBB h.of f) (yCf sE)
theorem yqe (h:ZW X A a ca):ZT X A a ca:=⟨PW.pt h.of⟩
theorem yss (f:ZT X A a ca) (e:ZW X A (.BoolOp .And (b::es) pos) cb):ZW X A (.BoolOp .And (a::b::es) pos) (yyB ca cb):=wW (yBD f.of e.of) (yyH sT sT)
theorem yhx (f:ZT X A a ca) (e:ZW X A (.BoolOp .Or (b::es) pos) cb):ZW X A (.BoolOp .Or (a::b::es) pos) (xOr ca cb):=wW (yFf f.of e.of) (yCg sT sT)
theorem ynS (e:ZT X A a ca):ZW X A (.BoolOp .And [a] pos) ca:=⟨yyg e.of⟩
theorem yfQ (e:ZT X A a ca):ZW X A (.BoolOp .Or [a] pos) ca:=⟨yBC e.of⟩
end
theorem yd:ZA X A [] 0 yh:=wA yjp ykj ynD
theorem ya (f:ZE X A a xa) (e:ZA X A es n aa) (hs:starEach (a::es) X.env=(false,eval a X.env)::starEach es X.env:=by rfl):ZA X A (a::es) (n+1) (yb xa aa):=wA (yfZ f.of e.of hs) (yuF sE sA) (yuI e.len)
theorem ycB (h:ZA X A es n aa):ZO X A (.List es pos) (yeU aa):=wO (yBT h.of) (yyL sA)
theorem ycb {q} (h:ZA X A es n aa):ZE X A (.Tuple es q pos) (yen aa):=wE (yBS h.of) (yyK sA)
theorem yhe (h:ZE X A a xa):ZP X A (some a) (yeo xa):=wP (yys h.of) (yuJ sE)
section
variable {lo hi:Option Expr}{xl xh:PSt->AH->Option (Option Int×AH)}{p2:Pos}
theorem yzQ {r} {q} (g:SlR X r) (d:yrr (ckX X A) r q) (e:ZE X A a xa) (hl:ZP X A lo xl) (f:ZP X A hi xh):ZO X A (.Subscript a (.Slice lo hi none p2) pos) (yqx q xa xl xh):=wO (yuu g e.of hl.of f.of) (yyP d sE sP sP)
end
theorem ybN (g:IxR X r) (h:yck (ckX X A) r q) (e:ZE X A a xa) (f:ZE X A b xb) (hs:yrb b:=by exact fun _ _=>rfl):ZE X A (.Subscript a b pos) (xOp q xa xb):=wE (yFq g e.of f.of hs) (yoJ h sE sE)
theorem yB (h:∀ k∈cs,Cls X.K (A k)/\NoAttr X.K (A k) f) (e:ZE X A a xa) (g:attributeBase a f X.env (eval a X.env)=eval a X.env:=by rfl):ZE X A (.Attribute a f pos) (yY cs f xa):=wE (yBR e.of g) (yzh h sE)
section
variable {f C:Addr}{fd:FuncData}{ps:List Str}{lv:Nat}{fn:Fn}
theorem yI (F:FnOk X.prog X.w X.K X.mg X.base CX0 lv f fd ps (spE (ckX X A) (n+1) fn)) (j:X.mg x=some (.ref f)) (i:keepIn X.K (.ref f)=true) (l:Binds X.K fd ps []) (e:ZA X A (a::es) (n+1) aa) (hr:Room lv X.A:=by exact hr.mono (by omega)) (m:Nm x:=by exact ⟨by rfl',by rfl',by rfl'⟩) (g:Gl X x:=by rfl) (h:starEach (a::es) X.env=(false,eval a X.env)::starEach es X.env:=by rfl) (d:(backTo pos (starEach es X.env)).any (·.1)=false:=by rfl):ZE X A (.Call (.Name x p) (a::es) [] pos) (yJ fn aa) :=
 wE (yyq F hr g j i l .nil ylE e.of m.d h d) (yuH sA e.len)
theorem yfR {k:Nat}{g} (M:Mk X.K (A k) f) (F:FnOk X.prog X.w X.K X.mg X.base CX0 lv f fd ps (spI (ckX X A) (n+1) k g)) (h:X.mg x=some (.ref (A k))) (j:Binds X.K fd ps []) (e:ZA X A (a::es) (n+1) aa) (hr:Room (lv+1) X.A:=by exact hr.mono (by omega)) (m:Nm x:=by exact ⟨by rfl',by rfl',by rfl'⟩) (l:Gl X x:=by rfl) (i:starEach (a::es) X.env=(false,eval a X.env)::starEach es X.env:=by rfl) (d:(backTo pos (starEach es X.env)).any (·.1)=false:=by rfl):ZO X A (.Call (.Name x p) (a::es) [] pos) (yge g aa) :=
 wO (yqY M F hr l h j .nil ylE e.of m.d i d) (yoQ sA e.len)
theorem yzR {k:Nat}(j:makesIn X.K (A k)=true) (i:findIn X.K (.ref (A k)) "__init__" = some (some (.builtin "object.__init__"))) (g:keepIn X.K (.ref (A k))=true) (e:X.mg x=some (.ref (A k))) (m:Nm x:=by exact ⟨by rfl',by rfl',by rfl'⟩) (h:Gl X x:=by rfl):ZO X A (.Call (.Name x p) [] [] pos) (yrK k) :=
 wO (yuy j i g h e m.d) (yrL)
theorem yst {pl:Sem Bool}(h:ZE X A o xa) (G:ynr X.prog X.w X.K X.mg X.base lv A m fun k=>spE (ckX X A) 1 (d k)) (hr:Room lv X.A:=by exact hr.mono (by omega)) (g:eval (.Call (.Attribute o m apos) [] [] pos) X.env=(do
   let e <- eval o X.env
   standAt apos.atName
   let (f,first) <- holding [e] (getMethod e m pl)
   callWith pos f first (backTo pos (starEach [] X.env)) (backToKw pos (keywordEach [] X.env))):=by rfl):ZE X A (.Call (.Attribute o m apos) [] [] pos) (ynI m d xa) :=
 wE (yrl h.of G hr g) (yvd sE)
end
theorem ydV {id:String}{r} {q} (j:yfY X (.builtin id) r) (s:yhY (ckX X A) r q) (i:X.mg x=none) (h:ZA X A (a::es) n aa) (m:Nm x:=by exact ⟨by rfl',by rfl',by rfl'⟩) (l:Gl X x:=by rfl) (f:bootBuiltins x=some (.builtin id):=by rfl') (g:starEach (a::es) X.env=(false,eval a X.env)::starEach es X.env:=by rfl) (e:(backTo pos (starEach es X.env)).any (·.1)=false:=by rfl):ZE X A (.Call (.Name x p) (a::es) [] pos) (xCB q aa) :=
 wE (yjW j l i f h.of m.n m.d g e) (ywY s sA)
theorem yGw {r} {q} (j:yfY X (.type T) r) (s:yhY (ckX X A) r q) (i:X.mg x=none) (h:ZA X A (a::es) n aa) (m:Nm x:=by exact ⟨by rfl',by rfl',by rfl'⟩) (l:Gl X x:=by rfl) (f:bootBuiltins x=some (.type T):=by rfl') (g:starEach (a::es) X.env=(false,eval a X.env)::starEach es X.env:=by rfl) (e:(backTo pos (starEach es X.env)).any (·.1)=false:=by rfl):ZE X A (.Call (.Name x p) (a::es) [] pos) (xCB q aa) :=
 wE (ylB j l i f h.of m.n m.d g e) (ywY s sA)
theorem ycJ {r} {q} (j:yfY X (.type T) r) (s:yrm (ckX X A) r q) (i:X.mg x=none) (h:ZA X A (a::es) n aa) (m:Nm x:=by exact ⟨by rfl',by rfl',by rfl'⟩) (l:Gl X x:=by rfl) (f:bootBuiltins x=some (.type T):=by rfl') (g:starEach (a::es) X.env=(false,eval a X.env)::starEach es X.env:=by rfl) (e:(backTo pos (starEach es X.env)).any (·.1)=false:=by rfl):ZO X A (.Call (.Name x p) (a::es) [] pos) (yhX q aa) :=
 wO (ylB j l i f h.of m.n m.d g e) (yyN s sA)
section
variable {name:Str}{cpos:Pos}{T id:String}{r:V->List V->Hp->VK->Prop}{cc:PV->AH->Bool}{q:PM}
theorem yzS (l:PlainAttrs T) (h:Slot T name id) (j:typeOf (.builtin id)=pure (.type "method_descriptor")) (s:MtR X id r) (m:yiU (ckX X A) T cc r q) (u:ZE X A o xa) (t:ZA X A (a::es) n aa) (g:attributeBase o name X.env (eval o X.env)=eval o X.env:=by rfl) (i:((backTo cpos (starEach (a::es) X.env)).all (fun x=>!x.1) && (backToKw cpos (keywordEach [] X.env)).all (fun x=>x.1.isSome)
   && decide ((a::es).length+([]:List Keyword).length+(if ([]:List Keyword).isEmpty then 0 else 1)<30))=true:=by rfl) (f:(apos.endLine == cpos.line)=true:=by rfl) (hs:starEach (a::es) X.env=(false,eval a X.env)::starEach es X.env:=by rfl) (e:(backTo cpos (starEach es X.env)).any (·.1)=false:=by rfl) :
  ZE X A (.Call (.Attribute o name apos) (a::es) [] cpos) (xBM cc q xa aa):=wE (yyt l h j s u.of t.of g i f hs e) (ywZ m sE sA)
theorem yvD (l:PlainAttrs T) (g:Slot T name id) (h:typeOf (.builtin id)=pure (.type "method_descriptor")) (i:MtR X id r) (m:yiU (ckX X A) T cc r q) (j:ZE X A o xa) (f:attributeBase o name X.env (eval o X.env)=eval o X.env:=by rfl) (e:(apos.endLine == cpos.line)=true:=by rfl) :
  ZE X A (.Call (.Attribute o name apos) [] [] cpos) (xBM cc q xa yh):=wE (ywU l g h i j.of f e) (yyO m sE)
theorem yik (j:ZE X A a xa) (l:PE X o (yqw i):=by exact yjm rfl (by first|exact Or.inl rfl|exact Or.inr (Or.inl rfl)) (by rfl') (by rfl')) (e:attributeBase o "append" X.env (eval o X.env)=eval o X.env:=by rfl) (g:((backTo cpos (starEach [a] X.env)).all (fun x=>!x.1) && (backToKw cpos (keywordEach [] X.env)).all (fun x=>x.1.isSome)
   && decide ([a].length+([]:List Keyword).length+(if ([]:List Keyword).isEmpty then 0 else 1)<30))=true:=by rfl) (f:(apos.endLine == cpos.line)=true:=by rfl) (hs:starEach [a] X.env=(false,eval a X.env)::starEach [] X.env:=by rfl) (d:(backTo cpos (starEach [] X.env)).any (·.1)=false:=by rfl) (h:swapsWith (.Call (.Attribute o "append" apos) [a] [] cpos) none pos.line X.env=pure false:=by rfl) :
  ZS X A (.Expr (.Call (.Attribute o "append" apos) [a] [] cpos) pos) (yeV i xa) :=
 wS (yjR (yyt plainAttrs_list PySem.F.slot_list_append PySem.F.type_list_append yfb l (yfZ j.of yjp hs) e g f hs d) h) (yuQ i sE)
end
section
variable {tg:Expr}
theorem yda (h:ZE X A a xa):ZI X A tg a (xIL xa):=wI (yne h.of) (yry sE)
theorem yDi (h:ZE X A a xa):ZI X A tg a (xIS xa):=wI (yCa h.of) (yuR sE)
theorem yeC (g:X.mg "range" = none) (f:ZA X A [a] n aa) (e:Gl X "range":=by rfl) (hs:starEach [a] X.env=[(false,eval a X.env)]:=by rfl):ZI X A tg (.Call (.Name "range" p) [a] [] pos) (yhI aa):=wI (yqI e g f.of hs) (yrz sA)
end
theorem ycQ {i:Nat}(f:X.N.Nodup:=by exact nd) (g:X.N[i]?=some x:=by rfl) (h:Loc X.env.scope x:=by first|exact Or.inl rfl|exact Or.inr rfl) (e:X.fn x=true\/X.env.scope.names.lookup x=some .local:=by exact Or.inl rfl):ZG X A (.Name x pos) (yv i):=wG (yjS f g h e) (yma i)
theorem yzT:ZGs X A [] yEN:=wGs yqG yuN
theorem ypj (h1:ZG X A a y) (h2:ZGs X A es ys) (hs:(assignEach (a::es) X.env).map (·.2)=assign a X.env::(assignEach es X.env).map (·.2):=by rfl):ZGs X A (a::es) (yrs y ys):=wGs (yjT h1.of h2.of hs) (yru sG sGs)
theorem yDj {ys:XGs}{q:Nat}(h:ZGs X A es ys) (f:X.calm=true:=by rfl) (g:(assignEach es X.env).length=n:=by rfl) (e:(assignEach es X.env).findIdx? (·.1)=none:=by rfl):ZG X A (.Tuple es q pos) (yCk n ys):=wG (ywL f h.of g e) (yuO sGs)
theorem yfe {elt iter:Expr}{w:Pos}{scope:Scope}{q:Pos}{u:XA}{xe:XE}{ix:List Nat} m (D:ZI X A (.Name x w) iter u) (z:∀ r C f g fp e,ZE (cxC X scope r C (x::m) f g fp e) A elt xe) (E:X.calm=true:=by rfl) (t:FrOk X scope ix m:=by repeat' first|exact True.intro|exact rfl|refine And.intro ?_ ?_) (s:(x::m).Nodup:=by rfl') (j:scope.kind=.function:=by rfl) (l:∀ y∈scope.names,y.2≠.cell:=by rfl') (h:∀ y∈scope.names,y.2=.local->scope.names.lookup y.1=some .local:=by rfl') (i:∀ y∈scope.names,y.2=.free->y.1∈m:=by rfl') (B:scope.names.lookup x=some .local:=by rfl) (hs:∀ v,foldedSetIterable iter X.env v=pure v:=by exact fun _=>rfl):ZO X A (.ListComp elt [⟨.Name x w,iter,[],0⟩] scope q) (yfd u ix xe) :=
 wO (yzO (yhK ix m E D.of t (fun r C f g fp e=>(z r C f g fp e).of) (fun _ _ _ _ _ _=>.nil) s j l h i B hs)) (yuT ix sI sE)
section
variable {st:Stmt}{rest:List Stmt}{s u:XS}
theorem yi (h:ZE X A a xa):ZS X A (.Return (some a) pos) (yO xa):=wS (yBL h.of) (yyR sE)
theorem yP (h:ZE X A a xa) (hs:swapsWith a none pos.line X.env=pure false:=by rfl):ZS X A (.Expr a pos) (ybf xa):=wS (yjR h.of hs) (yuM sE)
theorem yu {i:Nat}{e:Pos}(h:ZE X A a xa) (f:X.N.Nodup:=by exact nd) (l:X.N[i]?=some x:=by rfl) (g:Loc X.env.scope x:=by first|exact Or.inl rfl|exact Or.inr rfl) (hs:swapsWith a (some (.Name x e)) pos.line X.env=pure false:=by rfl) (j:X.fn x=true\/X.env.scope.names.lookup x=some .local:=by exact Or.inl rfl):ZS X A (.Assign [.Name x e] a pos) (ybs xa (yv i)) :=
 wS (ywN f l g h.of hs j) (yrv sE (yma i))
theorem yff {i:Nat}{e:Pos}(h:ZO X A a xo) (f:X.N.Nodup:=by exact nd) (l:X.N[i]?=some x:=by rfl) (g:Loc X.env.scope x:=by first|exact Or.inl rfl|exact Or.inr rfl) (hs:swapsWith a (some (.Name x e)) pos.line X.env=pure false:=by rfl) (j:X.fn x=true\/X.env.scope.names.lookup x=some .local:=by exact Or.inl rfl):ZS X A (.Assign [.Name x e] a pos) (ygb xo i) :=
 wS (ywN f l g h.of hs j) (yuP i sO)
theorem yDk (h:ZE X A a xa) (g:ZG X A e y) (hs:swapsWithSole [e] a pos.line X.env=pure false:=by rfl) (f:swappedStores [e] a X.env=pure none:=by rfl) (h1:(assignEach [e] X.env).map (·.2)=[assign e X.env]:=by rfl):ZS X A (.Assign [e] a pos) (ybs xa y):=wS (ywM h.of g.of hs f h1) (yrv sE sG)
theorem ybv {cs:List Nat}{f:Str}{d:Pos}{i:Nat}(e:∀ k∈cs,Cls X.K (A k)/\NoAttr X.K (A k) f) (h:ZE X A a xa) (g:PE X o (yqw i):=by exact yjm rfl (by first|exact Or.inl rfl|exact Or.inr (Or.inl rfl)) (by rfl') (by rfl')) (hs:swapsWith a (some (.Attribute o f d)) pos.line X.env=pure false:=by rfl):ZF X A (.Assign [.Attribute o f d] a pos) (ycy cs i f xa):=wF (ywQ g h.of hs) (yva e sE)
theorem yR (h:ZT X A c e) (f:ZSs X A l s) (g:ZSs X A m u):ZS X A (.If c l m pos) (ybG e s u):=wS (yFh h.of f.of g.of) (yyS sT sS sS)
theorem yfS (j:ZI X A e iter f) (g:ZG X A e y) (h:ZSs X A rest s) (hp:PassesOwn (model X.prog X.w) X.A X.env X.xe:=by exact PassesOwn.never) (i:X.calm=true:=by rfl) (hs:∀ x,foldedSetIterable iter X.env x=pure x:=by exact fun _=>rfl):ZS X A (.For e iter rest [] pos) (yiV f y s):=wS (yqK hp i j.of g.of h.of hs) (yyY sI sG sS)
theorem ygz (h:ZT X A c e) (g:ZSs X A rest s) (hp:PassesOwn (model X.prog X.w) X.A X.env X.xe:=by exact PassesOwn.never):ZS X A (.While c rest [] pos) (ydy f e s):=wS (yuh hp h.of g.of) (yrC f sT sS)
theorem yp:ZSs X A [] yS:=wSs yyh yuL
theorem yf (h:ZS X A st s):ZSs X A [st] s:=⟨yqE h.of⟩
theorem yc (h:ZS X A st s) (e:ZSs X A rest u):ZSs X A (st::rest) (ym s u):=wSs (yoz h.of e.of) (yyQ sS sS)
theorem yfg (h:ZSs X A rest s):ZSs X A rest (yrt i s):=wSs h.of (yyT i sS)
theorem ydw (h:ZF X A st s):ZFs X A [st] s:=⟨yqE h.of⟩
theorem ybl (h:ZF X A st s) (e:ZFs X A rest u):ZFs X A (st::rest) (ym s u):=wFs (yoz h.of e.of) (yvb sF sF)
end
end
section
variable {P:Program}{w:World}{K:Frag}{mg:Str->Option Value}{base:Heap}{A:Nat->Addr}
theorem zfn {x b:Str}{st:Stmt}{f:Addr}{g:FuncData}{N ps:List Str}{k:Nat}{s:XS}(F:Fun K x b st f g) (S:yez N ps (ybF st))
  (h:∀ c d outer e H E,Room k (d.deeper (envOfC b (ybF st) e.heap.objs.size f c))->ZSs (yut CX0 P w K mg base N b (ybF st) f c d outer e H E).nox A (yga st) s) :
  FnOk P w K mg base CX0 (k+1) f g ps (spE ⟨K,A⟩ ps.length (ybg N.length s)) :=
 F.ok S (fun _ _ _ _ h=>yyZ h) fun c d outer e H vs Q E i j=>⟨_,(h c d outer e H E i).of,yuU sS j⟩
theorem zin {x b:Str}{st:Stmt}{f:Addr}{i:FuncData}{N ps:List Str}{k g n:Nat}{s:XS}(F:Fun K x b st f i) (S:yez N ps (ybF st)) (m:ps.length=n+1) (l:n+1<=N.length)
  (h:∀ c e outer d H E,Room k (e.deeper (envOfC b (ybF st) d.heap.objs.size f c))->ZFs (yut CX0 P w K mg base N b (ybF st) f c e outer d H E).nox A (yga st) s) :
  FnOk P w K mg base CX0 (k+1) f i ps (spI ⟨K,A⟩ n g (ymY N.length g s)) :=
 F.ok S (fun _ _ _ _ h=>(yzi h).trans m.symm) fun c e outer d H vs Q E o j=>⟨_,(h c e outer d H E o).of,yvc l sF j⟩
end
section
variable {X:Cx}{A:Nat->Addr}{a b c o i:Expr}{es:List Expr}{xa xb xc xd xk xv:XE}{xo:XO}{aa:XA}{pos p apos cpos pos':Pos}{x:Str}{n k:Nat}
theorem yxu (g:ZE X A o xd) (f:ZE X A i xk) (e:X.A.units+1<cLine:=by exact yyu hr) (hs:yGg i:=by exact fun _ _=>rfl):ZE X A (.Subscript o i pos) (yid xd xk):=wE (yzv e g.of f.of hs) (yvm sE sE)
theorem yDl (g:ZE X A i xk) (f:ZE X A o xd) (e:X.A.units+1<cLine:=by exact yyu hr) (h:behindInMarks .In o=false:=by first|exact ylv _|with_unfolding_all rfl):ZT X A (.Compare i [.In] [o] pos) (yt (yBo false xk xd)):=wT (yBA (yCT e g.of f.of) h) (yhH (yzy sE sE))
theorem ynT (f:ZE X A o xd) (g:ZE X A i xk) (h:ZE X A a xv) (e:X.A.units+1<cLine:=by exact yyu hr) (hs:swapsWith a (some (.Subscript o i pos')) pos.line X.env=pure false:=by rfl):ZS X A (.Assign [.Subscript o i pos'] a pos) (ykr xd xk xv):=wS (yzw e f.of g.of h.of hs) (yvn sE sE sE)
theorem ypk:ZO X A (.Dict [] [] pos) ypX:=wO yvk yvo
theorem ynU (h:ZE X A a xv) (j:ZE X A o xd) (m:ZE X A i xk) (l:∀ v,assign (.Subscript o i pos') X.env v=(do
   let e <- holding [v] (eval o X.env)
   let f <- holding [v,e] (eval i X.env)
   standAt pos'
   holding [v,e,f] (setItem e f v)
   release [v,e,f] []):=by exact fun _=>rfl) (hs:swapsWithSole [.Subscript o i pos'] a pos.line X.env=pure false:=by rfl) (g:swappedStores [.Subscript o i pos'] a X.env=pure none:=by rfl) (h1:(assignEach [.Subscript o i pos'] X.env).map (·.2)=[assign (.Subscript o i pos') X.env]:=by rfl) :
  ZS X A (.Assign [.Subscript o i pos'] a pos) (ymi xd xk xv):=wS (ywM h.of (yBM j.of m.of set_list l) hs g h1) (yvl sE sE sE)
end
theorem ynV:bootBuiltins "reversed" = some (.type "reversed"):=by rfl'
section
variable {X:Cx}{A:Nat->Addr}{a b c o:Expr}{es:List Expr}{xa xb xc:XE}{pos p apos cpos:Pos}{x:Str}{n k:Nat}
theorem yDm (j:ZE X A a xa) (l:PE X o (yqw i):=by exact yjm rfl (by first|exact Or.inl rfl|exact Or.inr (Or.inl rfl)) (by rfl') (by rfl')) (e:attributeBase o "extend" X.env (eval o X.env)=eval o X.env:=by rfl) (g:((backTo cpos (starEach [a] X.env)).all (fun x=>!x.1) && (backToKw cpos (keywordEach [] X.env)).all (fun x=>x.1.isSome)
   && decide ([a].length+([]:List Keyword).length+(if ([]:List Keyword).isEmpty then 0 else 1)<30))=true:=by rfl) (f:(apos.endLine == cpos.line)=true:=by rfl) (hs:starEach [a] X.env=(false,eval a X.env)::starEach [] X.env:=by rfl) (d:(backTo cpos (starEach [] X.env)).any (·.1)=false:=by rfl) (h:swapsWith (.Call (.Attribute o "extend" apos) [a] [] cpos) none pos.line X.env=pure false:=by rfl) :
  ZS X A (.Expr (.Call (.Attribute o "extend" apos) [a] [] cpos) pos) (ynP i xa) :=
 wS (yjR (yyt plainAttrs_list PySem.F.slot_list_extend PySem.F.type_list_extend yre l (yfZ j.of yjp hs) e g f hs d) h) (yvq i sE)
theorem yDn (h:X.mg x=none) (j:PE X a (yqw i):=by exact yjm rfl (by first|exact Or.inl rfl|exact Or.inr (Or.inl rfl)) (by rfl') (by rfl')) (m:Nm x:=by exact ⟨by rfl',by rfl',by rfl'⟩) (g:Gl X x:=by rfl) (f:bootBuiltins x=some (.builtin "len"):=by rfl') (e:starEach [a] X.env=(false,eval a X.env)::starEach [] X.env:=by rfl) (d:(backTo pos (starEach [] X.env)).any (·.1)=false:=by rfl) :
  ZE X A (.Call (.Name x p) [a] [] pos) (ypY i) :=
 wE (yjW yN g h f (yfZ j yjp e) m.n m.d e d) (yvr i)
end
section
theorem yDo (e:0<c):Builtin.Range.rangeSize a b c=szR a b c:=by
 unfold Builtin.Range.rangeSize szR;rw [if_pos e];split
 .have:=Int.ediv_nonneg (a:=b-a-1) (b:=c) (by omega) (by omega)
  omega
 .rfl
theorem yvE (h:0<=a/\a<1000000000/\0<=b/\b<1000000000/\0<c/\c<1000000):Builtin.Range.small a b c=true:=by
 obtain ⟨h1,h2,f,g,e,i⟩:=h;unfold Builtin.Range.small;have hs:Builtin.Range.rangeSize a b c<=1000000000/\0<=Builtin.Range.rangeSize a b c:=by
  unfold Builtin.Range.rangeSize;rw [if_pos e];split
  .have:=Int.ediv_nonneg (a:=b-a-1) (b:=c) (by omega)
   have:=Int.ediv_le_self c (show 0<=b-a-1 by omega);omega
  .omega
 simp only [Builtin.Range.rangeFitsLong,and_eq_true,Bool.or_eq_true,decide_eq_true_eq,beq_iff_eq,e,if_true];omega
theorem ynW {P:Program}{w:World}{K:Frag}{C:Expr} f lo st n:Turn P w K C (yEU lo st n) [f] f (fun i h=>IsRangeIter h f (lo+i*st) (n-i) st) where
 mem:=by simp
 obj:=fun i h st b g=>by simp_all
 keep:=fun i h h' st k=>k f (by simp) _ st
 item:=by
  intro X z A y m i d s Z H E I j l q;subst z A y;obtain ⟨f0,p,G,x,u,r⟩:=j f (by simp);have W:=Walks.range (prog:=X.prog) (w:=X.w) (I.ok.hd m) f lo st n;refine W.item i s _ _ q l fun v h' J D c F=>?_
  obtain ⟨t,rfl⟩:=D;have B:Inv X d Z H { s with heap:=h',toks:=J }:=I.turned (fun b o g e=>F b o (by simpa using g) e) f0 p x u r;exact ⟨_,rfl,ypJ c rfl rfl (by decide) ⟨.int _,H,B,⟨t,rfl⟩,⟨rfl,rfl⟩,c,fun b g=>(j b g).1⟩⟩
 done:=by intro X z A y m i d s Z H E I j st q;obtain ⟨f0,p,G,x,u,r⟩:=j f (by simp);exact wpAny_pyNext_range_end (I.ok.hd m) st (by have:n<=i:=q;omega) fun h' L=>⟨rfl,I.turned (fun b o g e=>L b o g e) f0 p x u r⟩
 self:=fun _ _ _ _ _ st h=>wpAny_pyIter_rangeiter st h
variable {X:Cx}{A:Nat->Addr}{tg a b c:Expr}{p pos:Pos}{aa:XA}{n:Nat}
theorem ysu {f:List _}{Z:L2.St}{H:Hp}{s:Shared}{R:It->Hp->Prop}{E:Value->Shared->Prop}{lo g st:Int}{t u v:Tok}{j:Nat}(I:Inv X f Z H s) (h:0<=lo/\lo<1000000000/\0<=g/\g<1000000000/\0<st/\st<1000000)
  (q:R (yEU lo st (szR lo g st)) H):wpAny (model X.prog X.w) X.A (pyIter (.ref s.heap.objs.size)) (PIE X f Z tg R) E { s with heap:=s.heap.push { cls:=.type "range",data:=.fields #[.int lo t,.int g u,.int st v] },toks:=j }:=by
 refine wpAny_pyIter_range (IsRange.new ..) (yvE h) ?_;have i:Inv X f Z H { s with heap:=s.heap.push { cls:=.type "range",data:=.fields #[.int lo t,.int g u,.int st v] },toks:=j }:=I.kept fun b o e=>Heap.get?_push_of_some _ e
 refine ⟨_,_,_,_,H,rfl,
  i.kept fun b o e=>Heap.get?_push_of_some _ e,ynW _ lo st _,?_,fun b l=>?_,q⟩
 .have m:lo+(0:Nat)*st=lo:=by simp
  have k:(szR lo g st:Int)-(0:Nat)=Builtin.Range.rangeSize lo g st:=by rw [yDo h.2.2.2.2.1];omega
  rw [m,k];exact Heap.get?_push_size _ rfl
 .have e:b=(s.heap.push { cls:=.type "range",data:=.fields #[.int lo t,.int g u,.int st v] }).objs.size:=by simpa using l
  subst e;exact i.fpOk (Nat.le_refl _) (i.hok.fresh (Nat.le_refl _))
theorem ysv (w:Gl X "range") (m:X.mg "range" = none) (x:PA X [a,b,c] l) (hs:starEach [a,b,c] X.env=[(false,eval a X.env),(false,eval b X.env),(false,eval c X.env)]) (f:starEach [b,c] X.env=[(false,eval b X.env),(false,eval c X.env)]) :
  PI X tg (.Call (.Name "range" p) [a,b,c] [] pos) (yCV l):=by
 intro g s Z H R I h;refine Call_ (yjn I w m boot_range (PyProof.Rows.callWith_type1 (thn (x pos g s Z H _ I h) fun us s1 ⟨vs,B,o,v,y⟩=>?_) (by rw [hs,f]) (by rw [f];rfl)));obtain ⟨i,j,k,e,z,q⟩:=y;subst e;cases v with
 | cons r rr =>
  cases rr with
  | cons r' rr =>
   cases rr with
   | cons r'' rr =>
    cases rr;obtain ⟨t,rfl⟩:=r;obtain ⟨t',rfl⟩:=r';obtain ⟨u,rfl⟩:=r'';exact call_range_3 (by omega) (ysu o z q) (Or.inl (PyProof.noPylong_small (by omega)))
theorem yzU (g:X.mg "range" = none) (h:ZA X A [a,b,c] n aa) (f:Gl X "range":=by rfl) (hs:starEach [a,b,c] X.env=[(false,eval a X.env),(false,eval b X.env),(false,eval c X.env)]:=by rfl) (e:starEach [b,c] X.env=[(false,eval b X.env),(false,eval c X.env)]:=by rfl):ZI X A tg (.Call (.Name "range" p) [a,b,c] [] pos) (yxk aa):=wI (ysv f g h.of hs e) (ysa sA)
end
section
theorem ydx {xs:List V}{its:List Value}(r:Vals xs its) {j:Nat} a:∃ x,xs[j]?=some x/\RelV x its.toArray[j]:=by
 have hl:=r.length;have b:=by simpa using a
 have x1:xs[j]?=some xs[j]:=List.getElem?_eq_getElem _;obtain ⟨u1,d,c⟩:=r.get x1;simp_all
variable {X:Cx}
theorem ypl {i:List (Addr×Obj)}{Z:L2.St}{H:Hp}{s:Shared}(I:Inv X i Z H s) {n:Nat}{x y:V}{b:Bool}(r:EqR X.K H n x y b):∀ {A:Around}{u v:Value},RelV x u->RelV y v->A.units+n<cLine->SeqAt.EqAt A s u v b:=by
 induction r with
 | flat fx fy=>exact fun d f _=>eqAt_V d f fx fy
 | same =>
  intro A u v d f _;cases d;cases f;exact SeqAt.EqAt.same _
 | odd h =>
  obtain ⟨a,o,ob,h1,h2⟩:=h;have:=(I.bs a ob (I.ok.mod.kin a ob h2)).2;rw [h1] at this;cases this
 | nt hb =>
  intro A u v d f m;cases d;cases f;obtain ⟨l,r2,k,p⟩:=I.tuple hb;exact SeqAt.EqAt.none_tuple k (by omega)
 | tn hb =>
  intro A u v d f m;cases d;cases f;obtain ⟨l,r2,k,p⟩:=I.tuple hb;exact SeqAt.EqAt.tuple_none k (by omega)
 | @lst n a b xs ys e ha hb hl hne he ih =>
  intro A u v d f m;cases d;cases f;obtain ⟨q,t,g,F,P⟩:=I.lst ha;obtain ⟨l,C,r2,M,p⟩:=I.lst hb;have O:=g.length;have N:=r2.length;rw [show xs.length=q.toArray.size by simp only [size_toArray];omega];refine SeqAt.EqAt.of_refs hne (SeqAt.RcAt.lists ⟨_,F,rfl,t,rfl⟩ ⟨_,M,rfl,C,rfl⟩ (by simp only [size_toArray];omega) (by omega) fun j L B=>?_);obtain ⟨x1,G,E⟩:=ydx g L;obtain ⟨J,D,w⟩:=ydx r2 B;exact ih j x1 J G D E w (by show A.units+1+n<cLine;omega)
 | @lstN n a b xs ys ha hb hl =>
  intro A u v d f m;cases d;cases f;obtain ⟨q,t,g,F,P⟩:=I.lst ha;obtain ⟨l,C,r2,M,p⟩:=I.lst hb;have O:=g.length;have N:=r2.length;have hne:a≠b:=fun z=>by subst z;rw [ha] at hb;cases hb;exact hl rfl
  exact SeqAt.EqAt.of_refs hne (SeqAt.RcAt.lists_lengths ⟨_,F,rfl,t,rfl⟩ ⟨_,M,rfl,C,rfl⟩ (by simp only [size_toArray,bne_iff_ne];omega) (by omega))
 | @tup n a b xs ys e ha hb hne he ih =>
  intro A u v d f m;cases d;cases f;obtain ⟨q,g,Q,P⟩:=I.tuple ha;obtain ⟨l,r2,k,p⟩:=I.tuple hb;have O:=g.length;have N:=r2.length;rw [show xs.length=q.toArray.size by simp only [size_toArray];omega,show ys.length=l.toArray.size by simp only [size_toArray];omega];refine SeqAt.EqAt.of_refs hne (SeqAt.RcAt.tuples Q k (by omega) fun j L B=>?_);obtain ⟨x1,G,E⟩:=ydx g L;obtain ⟨J,D,w⟩:=ydx r2 B;exact ih j x1 J G D E w (by show A.units+1+n<cLine;omega)
theorem yxv (M:X.A.units+60<cLine):OpR X (compareOp .Eq) (yHE X.K):=by
 intro G s Z H x y v u Q I f i h;obtain ⟨b,hb,q⟩:=h;cases hb with
 | nt hb =>
  cases f;cases i;obtain ⟨k,r2,g,l⟩:=I.tuple hb;exact SeqAt.RcAt.none_tuple g (by omega) _ _ _ _ ⟨.bl _,H,I,rfl,q⟩
 | tn hb =>
  cases f;cases i;obtain ⟨k,r2,g,l⟩:=I.tuple hb;exact SeqAt.RcAt.tuple_none g (by omega) _ _ _ _ ⟨.bl _,H,I,rfl,q⟩
 | @lst a b xs ys e ha hb hl he =>
  cases f;cases i;obtain ⟨m,t,d,z,F⟩:=I.lst ha;obtain ⟨k,A,r2,D,l⟩:=I.lst hb;have J:=d.length;have E:=r2.length;rw [show xs.length=m.toArray.size by simp only [size_toArray];omega] at q;refine SeqAt.RcAt.lists ⟨_,z,rfl,t,rfl⟩ ⟨_,D,rfl,A,rfl⟩ (by simp only [size_toArray];omega) (by omega) (fun j o r=>?_) _ _ _ _ ⟨.bl _,H,I,rfl,q⟩;obtain ⟨x1,p,w⟩:=ydx d o;obtain ⟨C,B,n⟩:=ydx r2 r;exact ypl I (he j x1 C p B) w n (by show X.A.units+1+40<cLine;omega)
 | @lstN a b xs ys ha hb hl =>
  cases f;cases i;obtain ⟨m,t,d,z,F⟩:=I.lst ha;obtain ⟨k,A,r2,D,l⟩:=I.lst hb;have J:=d.length;have E:=r2.length;exact SeqAt.RcAt.lists_lengths ⟨_,z,rfl,t,rfl⟩ ⟨_,D,rfl,A,rfl⟩ (by grind) (by omega) _ _ _ _ ⟨.bl _,H,I,rfl,q⟩
 | @tup a b xs ys e ha hb he =>
  cases f;cases i;obtain ⟨m,d,L,F⟩:=I.tuple ha;obtain ⟨k,r2,g,l⟩:=I.tuple hb;have J:=d.length;have E:=r2.length;rw [show xs.length=m.toArray.size by simp only [size_toArray];omega,show ys.length=k.toArray.size by simp only [size_toArray];omega] at q;refine SeqAt.RcAt.tuples L g (by omega) (fun j o r=>?_) _ _ _ _ ⟨.bl _,H,I,rfl,q⟩;obtain ⟨x1,p,w⟩:=ydx d o;obtain ⟨C,B,n⟩:=ydx r2 r;exact ypl I (he j x1 C p B) w n (by show X.A.units+1+40<cLine;omega)
theorem ysw (M:X.A.units+60<cLine):OpR X (compareOp .NotEq) (yHF X.K):=by
 intro G s Z H x y v u Q I f i h;obtain ⟨b,hb,q⟩:=h;cases hb with
 | nt hb =>
  cases f;cases i;obtain ⟨k,r2,g,l⟩:=I.tuple hb;exact SeqAt.RcNeAt.none_tuple g (by omega) _ _ _ _ ⟨.bl _,H,I,rfl,q⟩
 | tn hb =>
  cases f;cases i;obtain ⟨k,r2,g,l⟩:=I.tuple hb;exact SeqAt.RcNeAt.tuple_none g (by omega) _ _ _ _ ⟨.bl _,H,I,rfl,q⟩
 | @lst a b xs ys e ha hb hl he =>
  cases f;cases i;obtain ⟨m,t,d,z,F⟩:=I.lst ha;obtain ⟨k,A,r2,D,l⟩:=I.lst hb;have J:=d.length;have E:=r2.length;rw [show xs.length=m.toArray.size by simp only [size_toArray];omega] at q;refine SeqAt.RcNeAt.lists ⟨_,z,rfl,t,rfl⟩ ⟨_,D,rfl,A,rfl⟩ (by simp only [size_toArray];omega) (by omega) (fun j o r=>?_) _ _ _ _ ⟨.bl _,H,I,rfl,q⟩;obtain ⟨x1,p,w⟩:=ydx d o;obtain ⟨C,B,n⟩:=ydx r2 r;exact ypl I (he j x1 C p B) w n (by show X.A.units+1+40<cLine;omega)
 | @lstN a b xs ys ha hb hl =>
  cases f;cases i;obtain ⟨m,t,d,z,F⟩:=I.lst ha;obtain ⟨k,A,r2,D,l⟩:=I.lst hb;have J:=d.length;have E:=r2.length;exact SeqAt.RcNeAt.lists_lengths ⟨_,z,rfl,t,rfl⟩ ⟨_,D,rfl,A,rfl⟩ (by simp only [size_toArray,bne_iff_ne];omega) (by omega) _ _ _ _ ⟨.bl _,H,I,rfl,q⟩
 | @tup a b xs ys e ha hb he =>
  cases f;cases i;obtain ⟨m,d,L,F⟩:=I.tuple ha;obtain ⟨k,r2,g,l⟩:=I.tuple hb;have J:=d.length;have E:=r2.length;rw [show xs.length=m.toArray.size by simp only [size_toArray];omega,show ys.length=k.toArray.size by simp only [size_toArray];omega] at q;refine SeqAt.RcNeAt.tuples L g (by omega) (fun j o r=>?_) _ _ _ _ ⟨.bl _,H,I,rfl,q⟩;obtain ⟨x1,p,w⟩:=ydx d o;obtain ⟨C,B,n⟩:=ydx r2 r;exact ypl I (he j x1 C p B) w n (by show X.A.units+1+40<cLine;omega)
theorem yms (r:Room k A):A.units+60<cLine:=by have:=r.un;omega
end
section
variable {X:Cx}{A:Nat->Addr}{o e:Expr}{es:List Expr}{xa xb:XE}{aa:XA}{pos apos pos':Pos}{m f:Str}{n k kc:Nat}{pl:Sem Bool}{p:Fn}{fa:Addr}{fd:FuncData}{ps:List Str}
theorem ych {st:Stmt}:ZS X A st yfJ:=wS yuf (yvt)
theorem yn (l:ZE X A o xa) (i:Meth X.K (A kc) m fa) (F:FnOk X.prog X.w X.K X.mg X.base CX0 k fa fd ps (spE (ckX X A) (n+1) p)) (h:Binds X.K fd ps []) (d:ZA X A (e::es) n aa) (c:Cls X.K (A kc):=by exact T.cl _) (hr:Room k X.A:=by exact hr.mono (by omega)) (b:starEach (e::es) X.env=(false,eval e X.env)::starEach es X.env:=by rfl) (a:(backTo pos (starEach es X.env)).any (·.1)=false:=by rfl) (j:eval (.Call (.Attribute o m apos) (e::es) [] pos) X.env=(do
   let g <- eval o X.env
   standAt apos.atName
   let (f,first) <- holding [g] (getMethod g m pl)
   callWith pos f first (backTo pos (starEach (e::es) X.env)) (backToKw pos (keywordEach [] X.env))):=by rfl) :
  ZE X A (.Call (.Attribute o m apos) (e::es) [] pos) (yg kc m p xa aa):=wE (yyr l.of c i F hr h .nil ylE d.of b a j) (yml sE sA d.len)
theorem yq (b:ZE X A o xa) (h:Meth X.K (A kc) m fa) (F:FnOk X.prog X.w X.K X.mg X.base CX0 k fa fd ps (spE (ckX X A) 1 p)) (d:Binds X.K fd ps []) (c:Cls X.K (A kc):=by exact T.cl _) (hr:Room k X.A:=by exact hr.mono (by omega)) (g:eval (.Call (.Attribute o m apos) [] [] pos) X.env=(do
   let a <- eval o X.env
   standAt apos.atName
   let (f,first) <- holding [a] (getMethod a m pl)
   callWith pos f first (backTo pos (starEach [] X.env)) (backToKw pos (keywordEach [] X.env))):=by rfl) :
  ZE X A (.Call (.Attribute o m apos) [] [] pos) (yg kc m p xa yh):=wE (yur b.of c h F hr d .nil ylE g) (yml sE ykj ynD)
theorem ybB (d:∀ k∈cs,Cls X.K (A k)/\NoAttr X.K (A k) f) (c:ZE X A o xa) (b:ZE X A value xb) (hs:swapsWith value (some (.Attribute o f pos')) pos.line X.env=pure false:=by rfl) :
  ZS X A (.Assign [.Attribute o f pos'] value pos) (ycZ cs f xa xb):=wS (ywQ c.of b.of hs) (yvu d sE sE)
end
end PX
namespace KasS
open PySem PySem.W PyProof.Rows
noncomputable def run {Y:Type}(lt:Nat->Nat->Bool):KasT Y->Y
 | .ret a=>a
 | .ask i j k=>run lt (k (lt i j))
theorem yfA {Y b:Type} lt (f:Y->KasT b):∀ t,run lt (t.bind f)=run lt (f (run lt t))
 | .ret _=>rfl
 | .ask i j k=>yfA lt f (k _)
section
variable (key:Nat->Int)
noncomputable def ltK (i j:Nat):Bool:=decide (key i<key j)
noncomputable def Kp (p:Array Nat) (i:Nat):Int:=key (p[i]?.getD 0)
def Up (p:Array Nat) (k:Nat):Prop:=∀ i j,i<=j->j<k->Kp key p i<=Kp key p j
def Dn (p:Array Nat) (k:Nat):Prop:=∀ i j,i<=j->j<k->Kp key p j<=Kp key p i
variable {key}
theorem ykz (p:Array Nat) i:p.getD i 0=p[i]?.getD 0:=by simp_all
theorem ysx p i j:ltK key (p.getD i 0) (p.getD j 0)=decide (Kp key p i<Kp key p j):=by rw [ykz,ykz];rfl
theorem Up.succ (h:Up key p n) (h1:1<=n) (c:Kp key p (n-1)<=Kp key p n):Up key p (n+1):=fun i j b f=>by
 by_cases e:j=n
 .subst e
  by_cases d:i=j
  .simp_all
  .exact Int.le_trans (h i _ (by omega) (by omega)) c
 .exact h i j b (by omega)
theorem Dn.succ (h:Dn key p n) (h1:1<=n) (c:Kp key p n<=Kp key p (n-1)):Dn key p (n+1):=fun i j b f=>by
 by_cases e:j=n
 .subst e
  by_cases d:i=j
  .simp_all
  .exact Int.le_trans c (h i _ (by omega) (by omega))
 .exact h i j b (by omega)
theorem ysy p:∀ f n,1<=n->Up key p n->n<=run (ltK key) (kas_asc p f n)/\run (ltK key) (kas_asc p f n)<=n+f/\Up key p (run (ltK key) (kas_asc p f n))/\(run (ltK key) (kas_asc p f n)<n+f->Kp key p (run (ltK key) (kas_asc p f n))<Kp key p (run (ltK key) (kas_asc p f n)-1))
 | 0,n,_,h=>⟨Nat.le_refl _,Nat.le_refl _,h,fun z=>absurd z (lt_irrefl _)⟩
 | f+1,n,h1,h=>by
  have e:run _ (kas_asc p (f+1) n)=run _ (if ltK key _ _=true then .ret n else kas_asc p f _):=rfl;rw [e,ysx]
  by_cases i:Kp key p n<Kp key p (n-1)
  .rw [decide_eq_true i];exact ⟨Nat.le_refl _,by show n<=n+(f+1);omega,h,fun _=>i⟩
  .rw [decide_eq_false i,if_neg (by simp)];obtain ⟨a,b,c,d⟩:=ysy p f _ (by omega) (h.succ h1 (by omega));grind
theorem ysz {p:Array Nat}(b:j<=p.size) k:Kp key (kas_rev p i j) k=if i<=k/\k<j then Kp key p (i+j-1-k) else Kp key p k:=by unfold Kp kas_rev;rw [getElem?_mirror_all b];split<;>rfl
theorem yeD p i j:(kas_rev p i j).size=p.size:=mirror_size _ _ _ _
theorem ydC p i j:(kas_rev p i j).Perm p:=mirror_perm _ _ _ _
theorem yil {p:Array Nat}(b:j<=p.size) (c:∀ k,i<=k->k<j->Kp key p k=Kp key p (j-1)) k:Kp key (kas_rev p i j) k=Kp key p k:=by rw [ysz b];grind
theorem ykA:∀ (f:Nat) (p:Array Nat) (n q:Nat),n+f<=p.size->q+1<=n->Dn key p n->(∀ k,n-(q+1)<=k->k<n->Kp key p k=Kp key p (n-1)) ->
  let r:=run (ltK key) (kas_desc f p n q)
  r.1.Perm p/\r.1.size=p.size/\n<=r.2.1/\r.2.1<=n+f/\r.2.2+1<=r.2.1/\Dn key r.1 r.2.1/\(∀ k,r.2.1-(r.2.2+1)<=k->k<r.2.1->Kp key r.1 k=Kp key r.1 (r.2.1-1))
 | 0,p,n,q,hs,g,b,d=>⟨Array.Perm.refl _,rfl,Nat.le_refl _,Nat.le_refl _,g,b,d⟩
 | f+1,p,n,q,hs,g,b,d=>by
  intro r;have e:r=run (ltK key) (if ltK key (p.getD n 0) (p.getD (n-1) 0)=true then (if q>0 then kas_desc f (kas_rev p (n-(q+1)) n) (n+1) 0 else kas_desc f p (n+1) 0)
   else .ask (p.getD (n-1) 0) (p.getD n 0) _):=rfl
  rw [ysx] at e
  by_cases s:Kp key p n<Kp key p (n-1)
  .rw [decide_eq_true s,if_pos rfl] at e
   by_cases m:q>0
   .rw [if_pos m] at e;have o:∀ k,Kp key (kas_rev p (n-(q+1)) n) k=Kp key p k:=fun k=>yil (by omega) d k
    have l:Dn key (kas_rev p (n-(q+1)) n) (n+1):=fun i j h t=>by rw [o,o];exact b.succ (by omega) (by omega) i j h t
    obtain ⟨a1,a2,a3,a4,a5,a6,a7⟩:=ykA f (kas_rev p (n-(q+1)) n) (n+1) 0 (by rw [yeD];omega) (by omega) l (fun k h1 h2=>by rw [show k=n+1-1 by omega]);rw [e];exact ⟨a1.trans (ydC _ _ _),a2.trans (yeD _ _ _),by omega,by omega,a5,a6,a7⟩
   .rw [if_neg m] at e;obtain ⟨a1,a2,a3,a4,a5,a6,a7⟩:=ykA f p (n+1) 0 (by omega) (by omega) (b.succ (by omega) (by omega)) (fun k h1 h2=>by rw [show k=n+1-1 by omega]);rw [e];exact ⟨a1,a2,by omega,by omega,a5,a6,a7⟩
  .rw [decide_eq_false s,if_neg (by simp)] at e;have e:r=run (ltK key) (if ltK key (p.getD (n-1) 0) (p.getD n 0)=true then .ret (p,n,q) else kas_desc f p (n+1) (q+1)):=e;rw [ysx] at e
   by_cases c:Kp key p (n-1)<Kp key p n
   .rw [decide_eq_true c,if_pos rfl] at e;rw [e];exact ⟨Array.Perm.refl _,rfl,Nat.le_refl _,by show n<=n+(f+1);omega,g,b,d⟩
   .rw [decide_eq_false c,if_neg (by simp)] at e;have u:Kp key p n=Kp key p (n-1):=by omega
    obtain ⟨a1,a2,a3,a4,a5,a6,a7⟩:=ykA f p (n+1) (q+1) (by omega) (by omega) (b.succ (by omega) (by omega)) (fun k h1 h2=>by grind)
    rw [e];exact ⟨a1,a2,by omega,by omega,a5,a6,a7⟩
theorem Dn.rev {p:Array Nat}(b:n<=p.size) (h:Dn key p n):Up key (kas_rev p 0 n) n:=fun i j c d=>by rw [ysz b,ysz b,if_pos ⟨by omega,by omega⟩,if_pos ⟨by omega,by omega⟩];exact h _ _ (by omega) (by omega)
theorem ypm {p:Array Nat}(h1:1<=n) (f:n<=nrem) (hs:nrem<=p.size) (h:Dn key p n) :
  let r:=run (ltK key) (kas_tail3 n nrem p)
  r.2.Perm p/\r.2.size=p.size/\1<=r.1/\r.1<=nrem/\Up key r.2 r.1:=by
 intro r;have e:r=(run (ltK key) (kas_asc (kas_rev p 0 n) (nrem-n) n),kas_rev p 0 n):=by show run _ (KasT.bind _ _)=_;rw [yfA];rfl
 obtain ⟨a,b,c,_⟩:=ysy _ _ n h1 (h.rev (by omega));rw [e];exact ⟨ydC _ _ _,yeD _ _ _,by omega,by omega,c⟩
theorem yim {p:Array Nat}(h1:1<=n) (u:n<nrem) (hs:nrem<=p.size) (h:Dn key p (n+1)) :
  let r:=run (ltK key) (kas_descPart n nrem p)
  r.2.Perm p/\r.2.size=p.size/\1<=r.1/\r.1<=nrem/\Up key r.2 r.1:=by
 intro r;obtain ⟨a1,a2,a3,a4,a5,a6,a7⟩:=ykA (nrem-(n+1)) p _ 0 (by omega) (by omega) h (fun k h1 h2=>by grind);generalize s:run _ _=d at *;have e:r=run (ltK key) (if d.2.2>0 then kas_tail3 d.2.1 nrem (kas_rev d.1 (d.2.1-(d.2.2+1)) d.2.1) else kas_tail3 d.2.1 nrem d.1):=by show run _ (KasT.bind _ _)=_;rw [yfA,s]
 by_cases q:d.2.2>0
 .rw [if_pos q] at e;have o:=fun k=>yil (by omega) a7 k
  obtain ⟨g,l,f,b,m⟩:=ypm (p:=kas_rev d.1 (d.2.1-(d.2.2+1)) d.2.1) (n:=d.2.1) (nrem:=nrem) (by omega) (by omega) (by rw [yeD];omega) (fun i j c t=>by rw [o,o];exact a6 i j c t);rw [e];exact ⟨g.trans ((ydC _ _ _).trans a1),l.trans ((yeD _ _ _).trans a2),f,b,m⟩
 .rw [if_neg q] at e;obtain ⟨g,l,f,b,m⟩:=ypm (nrem:=nrem) (by omega) (by omega) (by omega) a6;rw [e];exact ⟨g.trans a1,l.trans a2,f,b,m⟩
theorem ypn {p:Array Nat}(h1:1<=nrem) (hs:nrem<=p.size) :
  let r:=run (ltK key) (kas_count nrem p)
  r.2.Perm p/\r.2.size=p.size/\1<=r.1/\r.1<=nrem/\Up key r.2 r.1:=by
 intro r;obtain ⟨a,b,c,d⟩:=ysy (key:=key) p (nrem-1) 1 (Nat.le_refl _) (fun i j g v=>by rw [show i=j by omega];exact Int.le_refl _);generalize y:run (ltK key) (kas_asc p (nrem-1) 1)=n at *;have e:r=run (ltK key) (if (n == nrem)=true then .ret (n,p) else if n>1 then .ask (p.getD 0 0) (p.getD (n-1) 0) fun c=>if c=true then .ret (n,p) else kas_descPart n nrem (kas_rev p 0 n)
  else kas_descPart n nrem p):=by show run _ (KasT.bind _ _)=_;rw [yfA,y]
 by_cases x:n=nrem
 .rw [if_pos (by simp [x])] at e;rw [e];exact ⟨Array.Perm.refl _,rfl,a,by show n<=nrem;omega,c⟩
 .rw [if_neg (by simp [x])] at e;have B:=d (by omega)
  by_cases h2:n>1
  .rw [if_pos h2] at e;have e:r=run (ltK key) (if ltK key (p.getD 0 0) (p.getD (n-1) 0)=true then .ret (n,p) else kas_descPart n nrem (kas_rev p 0 n)):=e;rw [ysx] at e
   by_cases w:Kp key p 0<Kp key p (n-1)
   .rw [decide_eq_true w,if_pos rfl] at e;rw [e];exact ⟨Array.Perm.refl _,rfl,a,by show n<=nrem;omega,c⟩
   .rw [decide_eq_false w,if_neg (by simp)] at e;have l:∀ k,0<=k->k<n->Kp key p k=Kp key p (n-1):=fun k _ z=>by have u1:=c 0 k (by omega) z;have C:=c k (n-1) (by omega) (by omega);omega
    have A:∀ k,Kp key (kas_rev p 0 n) k=Kp key p k:=fun k=>yil (by omega) l k
    have s:Dn key (kas_rev p 0 n) (n+1):=fun i j g v=>by grind
    obtain ⟨m,o,u,t,h⟩:=yim (key:=key) (p:=kas_rev p 0 n) (n:=n) (nrem:=nrem) a (by omega) (by rw [yeD];omega) s;rw [e];exact ⟨m.trans (ydC _ _ _),o.trans (yeD _ _ _),u,t,h⟩
  .rw [if_neg h2] at e;have q:n=1:=by omega
   subst q;obtain ⟨m,o,u,t,h⟩:=yim (key:=key) (p:=p) (n:=1) (nrem:=nrem) (by omega) (by omega) hs (fun i j g v=>by grind)
   rw [e];exact ⟨m,o,u,t,h⟩
theorem ykB (c:Up key p k):∀ (f l r:Nat),r<=k->l<=r->r-l<=f->(∀ i,i<l->Kp key p i<=Kp key p k)->(∀ i,r<=i->i<k->Kp key p k<Kp key p i) ->
  let m:=run (ltK key) (kas_place p k f l r)
  m<=k/\(∀ i,i<m->Kp key p i<=Kp key p k)/\(∀ i,m<=i->i<k->Kp key p k<Kp key p i)
 | 0,l,r,d,hl,n,h1,h2=>by
  have:l=r:=by omega
  subst this;exact ⟨d,h1,h2⟩
 | f+1,l,r,d,hl,n,h1,h2=>by
  intro m;have e:m=run (ltK key) (if l>=r then .ret l else .ask _ _ _):=rfl
  by_cases b:l>=r
  .rw [if_pos b] at e;have:l=r:=by omega
   subst this;rw [e];exact ⟨d,h1,h2⟩
  .rw [if_neg b] at e;have e:m=run _ (if ltK key _ _=true then kas_place p k f l _ else kas_place p k f _ r):=e;rw [ysx] at e
   by_cases h:Kp key p k<Kp key p ((l+r)/2)
   .rw [decide_eq_true h,if_pos rfl] at e;rw [e];exact ykB c f l _ (by omega) (by omega) (by omega) h1 (fun i g j=>by have:=c _ i g j;omega)
   .rw [decide_eq_false h,if_neg (by simp)] at e;rw [e];exact ykB c f _ r d (by omega) (by omega) (fun i g=>by have:=c i ((l+r)/2) (by omega);omega) h2
theorem ysA {p:Array Nat}(hs:b<p.size) (c:d<=b) k:Kp key (bubble p b d) k=if k=b-d then Kp key p b else if b-d<k/\k<=b then Kp key p (k-1) else Kp key p k:=by
 unfold Kp;rw [getElem?_bubble hs d c]
 repeat' split
 all_goals rfl
theorem yxw:∀ (f:Nat) (p:Array Nat) (k:Nat),k+f<=p.size->Up key p k->(run (ltK key) (kas_bin f p k)).Perm p/\Up key (run (ltK key) (kas_bin f p k)) (k+f)
 | 0,p,k,_,h=>⟨Array.Perm.refl _,h⟩
 | f+1,p,k,hs,h=>by
  obtain ⟨a1,a2,a3⟩:=ykB (key:=key) h k 0 k (Nat.le_refl _) (by omega) (by omega) (fun i s=>by omega) (fun i h1 h2=>by omega);generalize hl:run (ltK key) (kas_place p k k 0 k)=l at *;have e:run (ltK key) (kas_bin (f+1) p k)=run (ltK key) (kas_bin f (bubble p k (k-l)) (k+1)):=by show run _ (KasT.bind _ _)=_;rw [yfA,hl]
  have d:∀ i,Kp key (bubble p k (k-l)) i=if i=l then Kp key p k else if l<i/\i<=k then Kp key p (i-1) else Kp key p i:=fun i=>by rw [ysA (by omega) (by omega),show k-(k-l)=l by omega]
  have g:Up key (bubble p k (k-l)) (k+1):=fun i j o t=>by
   rw [d,d]
   by_cases n:i=l
   .grind
   .rw [if_neg n]
    by_cases c:l<i/\i<=k
    .rw [if_pos c,if_neg (by omega),if_pos ⟨by omega,by omega⟩];exact h _ _ (by omega) (by omega)
    .rw [if_neg c];have m:i<l:=by omega
     by_cases b:j=l
     .rw [if_pos b];exact a2 i m
     .rw [if_neg b];split
      .exact h _ _ (by omega) (by omega)
      .exact h _ _ (by omega) (by omega)
  obtain ⟨q,r⟩:=yxw f (bubble p k (k-l)) (k+1) (by rw [bubble_size];omega) g;rw [e];exact ⟨q.trans (bubble_perm _ _ _),by grind⟩
theorem ysB (h1:1<=n):(run (ltK key) (kas_sort n)).Perm (toArray (List.range n))/\Up key (run (ltK key) (kas_sort n)) n:=by
 have hs:(toArray (List.range n)).size=n:=by simp
 obtain ⟨a1,a2,a3,a4,a5⟩:=ypn (p:=toArray (List.range n)) h1 (by omega);generalize c:run _ _=r at *;have e:run (ltK key) (kas_sort n)=run (ltK key) (if r.1<n then kas_bin (n-max r.1 1) r.2 (max r.1 1) else .ret r.2):=by show run _ (KasT.bind _ _)=_;rw [yfA,c]
 by_cases h:r.1<n
 .rw [if_pos h] at e;obtain ⟨b,d⟩:=yxw (key:=key) (n-max r.1 1) r.2 (max r.1 1) (by omega) (by simp_all);rw [e];exact ⟨b.trans a1,by grind⟩
 .rw [if_neg h] at e;rw [e];exact ⟨a1,by rw [show n=r.1 by omega];exact a5⟩
noncomputable def AskIn {Y:Type}(P:Nat->Prop) (lt:Nat->Nat->Bool):KasT Y->Prop
 | .ret _=>True
 | .ask i j k=>P i/\P j/\AskIn P lt (k (lt i j))
theorem AskIn.bind {Y e:Type}{P:Nat->Prop}{lt:Nat->Nat->Bool}{f:Y->KasT e}:∀ {t:KasT Y},AskIn P lt t->AskIn P lt (f (run lt t))->AskIn P lt (t.bind f)
 | .ret _,_,h=>h
 | .ask _ _ _,⟨a,b,c⟩,h=>⟨a,b,AskIn.bind c h⟩
theorem yDp {Y:Type}(f:∀ i j C,P i->P j->C (lt i j) s->e i j C s) {Q:Y->Shared->Prop} :
  ∀ t,AskIn P lt t->Q (run lt t) s->t.kasWp e Q s
 | .ret _,_,h=>h
 | .ask i j k,⟨a,b,c⟩,h=>f i j _ a b (yDp f _ c h)
section
variable {P:Nat->Prop}{lt:Nat->Nat->Bool}
noncomputable def All (P:Nat->Prop) (p:Array Nat):Prop:=∀ i,P (p.getD i 0)
theorem All.of_perm {p q:Array Nat}(g:P 0) (h:All P p) (e:q.Perm p):All P q:=fun i=>by
 rw [ykz]
 by_cases b:i<q.size
 .rw [Array.getElem?_eq_getElem b];have c:=e.mem_iff.mp (Array.getElem_mem b);obtain ⟨j,f,d⟩:=Array.getElem_of_mem c;have:=h j;rw [ykz] at this;simp_all
 simp_all
theorem ysC (h:All P p):∀ f n,AskIn P lt (kas_asc p f n)
 | 0,_=>trivial
 | f+1,n=>⟨h _,h _,by show AskIn P lt (if _ then _ else _);split;trivial;exact ysC h f _⟩
theorem ykC (b:P 0):∀ f p n q,All P p->AskIn P lt (kas_desc f p n q)
 | 0,_,_,_,_=>trivial
 | f+1,p,n,q,h=>by
  refine ⟨h _,h _,?_⟩;show AskIn P lt (if _ then _ else _);split
  .split
   .exact ykC b f _ _ _ (h.of_perm b (ydC _ _ _))
   .exact ykC b f _ _ _ h
  .refine ⟨h _,h _,?_⟩;show AskIn P lt (if _ then _ else _);split
   .trivial
   .exact ykC b f _ _ _ h
theorem ygA:∀ f p n q,(run lt (kas_desc f p n q)).1.Perm p
 | 0,_,_,_=>Array.Perm.refl _
 | f+1,p,n,q=>by
  show (run lt (if lt _ _=true then (if q>0 then kas_desc f _ _ 0 else kas_desc f p _ 0)
   else .ask _ _ _)).1.Perm p
  split
  .split
   .exact (ygA f _ _ _).trans (ydC _ _ _)
   .exact ygA f _ _ _
  .show (run lt (if lt _ _=true then .ret _ else kas_desc f p _ _)).1.Perm p;split
   .exact Array.Perm.refl _
   .exact ygA f _ _ _
theorem ypo (b:P 0) (h:All P p) n nrem:AskIn P lt (kas_tail3 n nrem p):=AskIn.bind (ysC (h.of_perm b (ydC _ _ _)) _ _) trivial
theorem yin (b:P 0) (h:All P p) n nrem:AskIn P lt (kas_descPart n nrem p):=by
 refine AskIn.bind (ykC b _ _ _ _ h) ?_;have:=h.of_perm b (ygA (lt:=lt) (nrem-(n+1)) p (n+1) 0);split
 .exact ypo b (this.of_perm b (ydC _ _ _)) _ _
 .exact ypo b this _ _
theorem yvF (b:P 0) (h:All P p) nrem:AskIn P lt (kas_count nrem p):=by
 refine AskIn.bind (ysC h _ _) ?_;split
 .trivial
 .split
  .refine ⟨h _,h _,?_⟩;show AskIn P lt (if _ then _ else _);split
   .trivial
   .exact yin b (h.of_perm b (ydC _ _ _)) _ _
  .exact yin b h _ _
theorem ykD (h:All P p) k:∀ f l r,AskIn P lt (kas_place p k f l r)
 | 0,_,_=>trivial
 | f+1,l,r=>by
  show AskIn P lt (if _ then _ else _);split
  .trivial
  .refine ⟨h _,h _,?_⟩;show AskIn P lt (if _ then _ else _);split
   .exact ykD h k f _ _
   .exact ykD h k f _ _
theorem yxx (b:P 0):∀ f p k,All P p->AskIn P lt (kas_bin f p k)
 | 0,_,_,_=>trivial
 | f+1,p,k,h=>AskIn.bind (ykD h k _ _ _) (yxx b f _ _ (h.of_perm b (bubble_perm _ _ _)))
end
theorem yzV (h1:1<=n):AskIn (· < n) (ltK key) (kas_sort n):=by
 have h:All (· < n) (toArray (List.range n)):=fun i=>by
  by_cases b:i<n
  .simp [b]
  .simp [b];omega
 refine AskIn.bind (yvF (by omega) h n) ?_;obtain ⟨a1,_⟩:=ypn (p:=toArray (List.range n)) h1 (by simp);split
 .exact yxx (by omega) _ _ _ (h.of_perm (by omega) a1)
 .trivial
end
open PySem.Calls
noncomputable def Tps (h:Heap):List Value->List (Int×Tok×Value)->Prop
 | [],[]=>True
 | v::vs,p::ps=>(∃ b o m,v=.ref b/\h.get? b=some o/\o.cls=.type "tuple"/\o.data=.seq #[.int p.1 p.2.1,p.2.2] m)/\Tps h vs ps
 | _,_=>False
theorem Tps.len:∀ {vs:List Value}{ps:List _},Tps h vs ps->ps.length=vs.length
 | [],[],_=>rfl
 | _::_,_::_,⟨_,t⟩=>by rw [length_cons,length_cons,Tps.len t]
 | [],_::_,t=>t.elim
 | _::_,[],t=>t.elim
theorem Tps.get:∀ {vs:List Value}{ps:List _},Tps h vs ps->∀ i,i<vs.length->∃ p b o m,ps[i]?=some p/\vs.getD i .none=.ref b/\h.get? b=some o/\o.cls=.type "tuple"/\o.data=.seq #[.int p.1 p.2.1,p.2.2] m
 | _::_,p::_,⟨⟨b,o,m,e,d,f,g⟩,_⟩,0,_=>⟨p,b,o,m,rfl,by rw [e];rfl,d,f,g⟩
 | _::vs,_::ps,⟨_,t⟩,i+1,c=>by obtain ⟨p,b,o,m,e,d,f⟩:=Tps.get t i (by simpa using c);simp_all
 | [],[],_,_,c=>by simp at c
 | [],_::_,t,_,_=>t.elim
 | _::_,[],t,_,_=>t.elim
theorem Tps.mono {h h':Heap}:∀ {vs:List Value}{ps:List _},Tps h vs ps->(∀ b o,Value.ref b∈vs->h.get? b=some o->h'.get? b=some o)->Tps h' vs ps
 | [],[],_,_=>trivial
 | _::_,_::_,⟨⟨b,o,m,d,c,e⟩,t⟩,k=>⟨⟨b,o,m,d,k b o (by simp_all) c,e⟩,Tps.mono t fun b o f=>k b o (mem_cons_of_mem _ f)⟩
 | [],_::_,t,_=>t.elim
 | _::_,[],t,_=>t.elim
theorem Tps.kat:∀ {vs:List Value}{ps:List _},Tps h vs ps->KatTups h vs (ps.map fun p=>Value.int p.1 p.2.1)
 | [],[],_=>trivial
 | _::_,p::_,⟨⟨b,o,m,d,c,f,e⟩,t⟩=>⟨⟨b,o,_,m,d,c,f,e,rfl⟩,Tps.kat t⟩
 | [],_::_,t=>t.elim
 | _::_,[],t=>t.elim
noncomputable def ygB (ps:List (Int×Tok×Value)) (i:Nat):Int:=((ps[i]?).map (·.1)).getD 0
theorem ysD {ps:List _}(d:(ps.map (·.1)).Nodup) (c:i<ps.length) (b:j<ps.length) (e:ygB ps i=ygB ps j):i=j:=by
 unfold ygB at e;rw [List.getElem?_eq_getElem c,List.getElem?_eq_getElem b] at e;have h1:i<(ps.map (·.1)).length:=by simpa using c
 have h2:j<(ps.map (·.1)).length:=by simpa using b
 exact (List.getElem_inj (h₀:=h1) (h₁:=h2) d).mp (by simpa using e)
section
variable {prog:Program}{w:World}{A:Around}{E:Value->Shared->Prop}{s:Shared}
theorem yzW (c:Tps s.heap vs ps) (t:(ps.map (·.1)).Nodup) (i j:Nat) C (n:i<vs.length) (l:j<vs.length) (f:C (ltK (ygB ps) i j) s) :
  kas_ask prog w A (tuples' true) vs i j C s:=by
 obtain ⟨p,b,o,m,k,q,z,D,v⟩:=c.get i n;obtain ⟨d,G,H,m',h,u,r,F,B⟩:=c.get j l;have k1:ygB ps i=p.1:=by unfold ygB;rw [k];rfl
 have k2:ygB ps j=d.1:=by unfold ygB;rw [h];rfl
 unfold ltK at f;rw [k1,k2] at f;unfold kas_ask;rw [q,u];refine kat_lt z v r B ?_;refine kat_cons (L2.eqAt_V (y:=.int p.1) (x:=.int d.1) ⟨_,rfl⟩ ⟨_,rfl⟩ rfl rfl prog w _ _ ?_);show KatGo prog w A true _ C _ _ _ 0 (p.1 == d.1) s
 by_cases e:p.1=d.1
 .rw [beq_iff_eq.mpr e];have g:i=j:=ysD t (by rw [c.len];exact n) (by rw [c.len];exact l) (by rw [k1,k2,e]);subst g;rw [k] at h;cases h;refine kat_yes (kat_cons (SeqAt.EqAt.same _ prog w _ _ (kat_yes (kat_nil ?_))));grind
 .rw [beq_eq_false_iff_ne.mpr e];exact kat_no (oneLt_int f)
theorem yvG {vs:List Value}(B:s.heap.get? a=some (seqObj "list" vs.toArray n)) (R:Tps s.heap vs ps) (V:Value.ref a∉vs) (Y:(ps.map (·.1)).Nodup) (F:vs.length<64)
  (h:∀ q:Array Nat,q.Perm (toArray (List.range vs.length))->Up (ygB ps) q vs.length->P (.done (.ret .none)) { s with heap:=sortedHeap s.heap a vs (toArray (q.toList.map fun i=>vs.getD i Value.none)) }) :
  wpAny (model prog w) A (Builtin.«list.sort» ⟨[.ref a],[]⟩) P E s:=by
 have ha:a<s.heap.objs.size:=Heap.lt_size B;have u:vs.length<=sizeLine:=by rw [sizeLine_eq];omega
 rw [list_sort_plain];obtain ⟨H,l⟩:∃ H,(s.heap.update a (Obj.mapSeq fun _=>(#[]:Array Value))).get? a=some (seqObj "list" #[] H):=⟨_,get?_update_seq B _⟩
 refine wpAny_bind (listItems_at B rfl (wpAny_bind (listUpdate_at B rfl (wpAny_bind (seqEpoch_at l rfl (wpAny_bind (wpAny_newTuple (wpAny_bind (wpAny_newList (wpAny_holding ?_) (zero_le _))) (by simpa using u))))) (by simpa using u) (zero_le _))));generalize I:((s.heap.update a (Obj.mapSeq fun _=>(#[]:Array Value))).push (seqObj "tuple" vs.toArray 0)).push (seqObj "list" #[] 0)=g;have t:∀ b o,b≠a->s.heap.get? b=some o->g.get? b=some o:=fun b o L e=>by rw [<- I];exact Heap.get?_push_of_some _ (Heap.get?_push_of_some _ ((Heap.get?_update_other _ _ (Ne.symm L)).trans e))
 have d:g.get? a=some (seqObj "list" #[] H):=by rw [<- I];exact Heap.get?_push_of_some _ (Heap.get?_push_of_some _ l)
 have k:Tps g vs ps:=R.mono fun b o L e=>t b o (fun z=>V (z ▸ L)) e
 show wpAny (model prog w) A _ P E { s with heap:=g };dsimp only;have m:=fun q h1 h2=>by have:=h q h1 h2;unfold sortedHeap at this;rw [I] at this;exact this
 by_cases h2:vs.toArray.size<2
 .rw [if_pos h2,if_pos h2];refine wpAny_bind (wpAny_pure ?_);rw [StateT.run_pure];have hz:((arrOf (SortSt.mk' general' (vs.toArray.zip vs.toArray) #[] 7 none)).map (·.2))=toArray ((toArray (List.range vs.length)).toList.map fun i=>vs.getD i Value.none):=by
   show (vs.toArray.zip vs.toArray).map (·.2)=_;apply Array.toList_inj.mp;simp only [Array.toList_map,Array.toList_zip,List.map_snd_zip (Nat.le_refl _)];apply List.ext_getElem
   .simp
   .intro i Z h4;simp;rw [List.getElem?_eq_getElem (by simpa using Z)];rfl
  refine wpAny_bind (wpAny_pure (wpAny_bind (seqEpoch_at d rfl (wpAny_bind (listUpdate_at d rfl ?_ (zero_le _) ?_)))))
  .dsimp only;rw [hz];simp only [bne_self_eq_false,Bool.false_eq_true,if_false];exact wpAny_pure (m _ (Array.Perm.refl _) fun i j U O=>by rw [show i=j by (simp at h2);omega];exact Int.le_refl _)
  .rw [hz];simp;omega
 .rw [if_neg h2,if_neg h2];have N:2<=vs.length:=by simp at h2;omega
  refine wpAny_bind (kat_kind (s:={ s with heap:=g }) (T:=.type "int") k.kat (by rw [length_map,R.len];omega) (fun v X=>?_) rfl ?_)
  .obtain ⟨p,_,rfl⟩:=List.mem_map.mp X;exact .now
  have y:=kat_run (prog:=prog) (w:=w) (A:=A) (E:=E) (s:={ s with heap:=g }) (κ:=tuples' true) (ks:=vs) (vs:=vs)
   (Q:=fun f s'=>s'={ s with heap:=g }/\∃ q:Array Nat,q.Perm (toArray (List.range vs.length))/\Up (ygB ps) q vs.length/\(arrOf f).map (·.2)=toArray (q.toList.map fun i=>vs.getD i Value.none)/\failedOf f=none)
   (G:=fun q s'=>s'={ s with heap:=g }/\q.Perm (toArray (List.range vs.length))/\Up (ygB ps) q vs.length) rfl N F
   (fun q f s' J M D r=>⟨r.1,q,r.2.1,r.2.2,kat_snds rfl M,D⟩)
   (yDp (P:=(· < vs.length)) (lt:=ltK (ygB ps)) (fun i j C S O W=>yzW k Y i j C S O W) _ (yzV (by omega)) ⟨rfl,(ysB (by omega)).1,(ysB (by omega)).2⟩)
  refine wpAny_bind (wpAny_mono y ?_ fun _ _ x=>x);rintro ⟨⟨⟩,f⟩ s' ⟨rfl,q,J,M,D,r⟩;refine wpAny_bind (seqEpoch_at d rfl (wpAny_bind (listUpdate_at d rfl ?_ (zero_le _) ?_)))
  .dsimp only;rw [D,r];simp only [bne_self_eq_false,Bool.false_eq_true,if_false];exact wpAny_pure (m q J M)
  .dsimp only;rw [D];have:=J.size_eq;simp at this ⊢;omega
end
end KasS
namespace PXS
open PySem L2 PySem.Spec PyProof.Rows KasS PX
theorem yvH (x:ObjOk P w H h a o):∃ u,h.get? a=some u:=by
 cases o with
 | lst xs=>obtain ⟨_,_,_,_,e⟩:=x;exact ⟨_,e⟩
 | tup xs=>obtain ⟨_,_,_,ob,e,_⟩:=x;exact ⟨_,e⟩
 | dK kvs=>obtain ⟨_,_,_,_,o,_,_,e,_⟩:=x;exact ⟨_,e⟩
 | dT kvs=>obtain ⟨_,_,_,_,o,_,_,e,_⟩:=x;exact ⟨_,e⟩
 | set S n=>obtain ⟨o,_,_,_,e,_⟩:=x;exact ⟨_,e⟩
 | ins C dx fs=>obtain ⟨_,_,_,e,_⟩:=x;exact ⟨_,e⟩
 | own y=>obtain ⟨_,e⟩:=x;exact ⟨_,e⟩
 | xd fs=>obtain ⟨_,⟨_,_,_,e,_⟩,_⟩:=x;exact ⟨_,e⟩
 | rng lo hi=>obtain ⟨_,_,_,e⟩:=x;exact ⟨_,e⟩
 | frz ob u=>obtain ⟨e,_⟩:=x;exact ⟨_,e⟩
 | tbl ps=>exact ⟨_,x⟩
 | met f y=>exact ⟨_,x⟩
 | ext M=>obtain ⟨_,⟨_,e⟩,_⟩:=x;exact ⟨_,e⟩
section
variable {X:Cx}
theorem yvI:MtM X "dict.items" yxm:=by intro c s Z H x vs v us Q I j l h;obtain ⟨d,kvs,rfl,rfl,g,q⟩:=h;cases j;have b:=l.zero;subst b;obtain ⟨z,i,ws,m,f⟩:=I.hok d _ g;refine call_meetsIn PySem.F.slot_dict_items f.typeIs PySem.F.entry_dict_items (PySem.F.args_dict_items_1 _) (meets_dict_items _ d i) ⟨⟨ws,f⟩,?_⟩;refine ⟨.ref _,_,I.laid (o:=yqa s.heap.objs.size d) (fun _ _ q=>Heap.get?_push_of_some _ q) (Nat.le_refl _) ⟨Heap.get?_push_size _ rfl,⟨_,Heap.get?_push_size _ rfl⟩,fun h1 h2 e k=>k _ e⟩,rfl,q _ I.fresh⟩
theorem yzX {d:List _}{Z:L2.St}{H f:Hp}{s:Shared}{h':Heap}{t':Nat}(I:Inv X d Z H s) (k:∀ b u,s.heap.get? b=some u->h'.get? b=some u) (sub:∀ b o,H b=some o->f b=some o)
  (h:∀ b o,H b=none->f b=some o->s.heap.get? b=none/\ObjOk X.prog X.w f h' b o):Inv X d Z f { s with heap:=h',toks:=t' }:=by
 refine I.un ⟨fun b u q _ _ _=>k b u q,fun b u q _ _ _=>⟨u.slots,k b u q⟩,fun b u q n _=>?_,fun b u q _=>⟨u,k b u q⟩,fun b xs q=>sub _ _ q,fun b u xs q=>sub _ _ q,fun b ps q=>⟨#[],by rw [sub _ _ q];simp⟩⟩ fun b o e=>?_
 .cases e:f b with
  | none=>rfl
  | some o=>simp_all
 .cases g:H b with
  | none=>exact (h b o g e).2
  | some u =>
   have:=sub _ _ g;rw [e] at this;cases this;exact (I.hok b o g).stay (fun c v _ q=>k c v q) (fun c q=>sub _ _ q) fun c xs q=>sub _ _ q
theorem yxy {h:Heap}:∀ (f:List Addr) (ws:List (Key×Value)) (ns:List Int),f.length=ws.length->ws.map (·.1)=ns.map Sum.inl ->
  (∀ (j:Nat) a,f[j]?=some a->∃ key k x,ws[j]?=some (k,x)/\ymZ k key=true/\h.get? a=some { cls:=.type "tuple",data:=.seq #[key,x] }) ->
  ∃ ps,Tps h (f.map Value.ref) ps/\ps.map (·.1)=ns/\ps.map (·.2.2)=ws.map (·.2)
 | [],[],ns,_,e,_=>⟨[],trivial,by simp_all,rfl⟩
 | [],_::_,_,hl,_,_=>by simp at hl
 | _::_,[],_,hl,_,_=>by simp at hl
 | a::f,(k,x)::ws,ns,hl,e,hp=>by
  cases ns with
  | nil=>simp at e
  | cons n ns =>
   simp only [map_cons,List.cons.injEq] at e;obtain ⟨ps,t,s,r⟩:=yxy f ws ns (by simpa using hl) e.2 fun j b p=>by obtain ⟨key,o,x',l,i,m⟩:=hp (j+1) b (by simpa using p);exact ⟨key,o,x',by simpa using l,i,m⟩
   obtain ⟨key,o,x',l,i,m⟩:=hp 0 a rfl;obtain ⟨rfl,rfl⟩:=l;obtain ⟨j,d,g,rfl⟩:∃ j d,k=Sum.inl j/\key=Value.int j d:=by
    rcases ybr i with ⟨j,d,g,q⟩|⟨y,d,g,q⟩
    .simp_all
    simp_all
   rw [g] at e;obtain rfl:j=n:=by injection e.1
   exact ⟨(j,d,x)::ps,⟨⟨a,_,_,rfl,m,rfl,rfl⟩,t⟩,by simp_all,by simp_all⟩
theorem yeE {Y:Type}:∀ {d:List Addr}{ts:List Y}{b:Addr}{t:Y},(d.zip ts).lookup b=some t->∃ j:Nat,d[j]?=some b/\ts[j]?=some t
 | [],_,_,_,h=>by simp at h
 | _::_,[],_,_,h=>by simp at h
 | a::d,u::ts,b,t,h=>by
  rw [zip_cons_cons,lookup_cons] at h;split at h
  .rename_i e;cases h;exact ⟨0,by rw [eq_of_beq e];rfl,rfl⟩
  .obtain ⟨j,h1,h2⟩:=yeE h;exact ⟨j+1,by simpa using h1,by simpa using h2⟩
theorem ypp:∀ {kvs:List (Key×V)}{ws:List _},KV kvs ws->ws.map (·.1)=kvs.map (·.1)/\∀ i,i<kvs.length->RelV ((kvs.map (·.2)).getD i .non) ((ws.map (·.2)).getD i .none):=by
 intro kvs ws h
 induction h with
 | nil=>exact ⟨rfl,fun i b=>rfl⟩
 | @cons p q _ _ h1 _ ih =>
  refine ⟨by rw [map_cons,map_cons,ih.1,h1.1],fun i b=>?_⟩;cases i with
  | zero=>exact h1.2
  | succ i=>simpa using ih.2 i (by simpa using b)
theorem ypq {Y:Type}{f:Y->V}{g:Y->Value}:∀ {l:List Y},(∀ i∈l,RelV (f i) (g i))->Vals (l.map f) (l.map g)
 | [],_=>.nil
 | i::l,h=>.cons (h i mem_cons_self) (ypq fun j b=>h j (mem_cons_of_mem _ b))
theorem yhy (hc:X.calm=true):yfY X (.builtin "sorted") rSI:=by
 intro pins s K H xs us Q I rr hh;obtain ⟨r,d,kvs,ns,rfl,hr,hd,hk,h64,q⟩:=hh;obtain ⟨u,rfl,rx⟩:=vals1 rr;cases rx;obtain ⟨W,_,_⟩:=I.hok r _ hr;obtain ⟨z,sy,ws,kv,hD⟩:=I.hok d _ hd;obtain ⟨ep,hat⟩:=hD.dictAt;obtain ⟨M,kv2⟩:=ypp kv;have lw:ws.length=kvs.length:=by have:=congrArg length M;simpa using this
 have ln:ns.length=kvs.length:=by have:=congrArg length hk;simpa using this.symm
 have nd:ns.Nodup:=by obtain ⟨_,_,_,_,_,_,_,_,n⟩:=hD;rw [M,hk] at n;exact (List.pairwise_map.mp n).imp fun h e=>h (by rw [e])
 refine Calls.call_function_entry kind_sorted plain_sorted entry_sorted (args_sorted1 _) ?_;unfold Builtin.«sorted»;refine wpAny_bind (m:=checkCount "sorted" 1 1 _) (wpAny_pure ?_);refine wpAny_bind (PySem.W.kdx_collect (A:=X.A.in1) (knd:=ycN X.prog X.w) (kvs:=ws) (ep:=ep) (I.ok.hd hc) ⟨_,W,rfl,rfl⟩ hat (by rw [lw];exact z) fun h' P g N hl hG=>wpAny_bind (wpAny_newList ?_ (by rw [length_map,hl,lw];exact z)));obtain ⟨ps,tp,e1,G⟩:=yxy (h:=h') g ws ns hl (by rw [M,hk]) fun j a v=>hG.pairs j a v
 have la:g.length=ns.length:=by omega
 have U:∀ a∈g,s.heap.objs.size<a:=hG.above;have F:∀ a∈g,a<h'.objs.size:=fun a v=>hG.there v
 generalize hB:h'.objs.size=B at *;have L:s.heap.get? B=none:=by
  cases e:s.heap.get? B with
  | none=>rfl
  | some o=>exact absurd (Heap.lt_size (N B o e)) (by rw [hB];exact lt_irrefl _)
 have T:∀ a∈g,s.heap.get? a=none:=fun a v=>Heap.get?_none_of_le (le_of_lt (U a v))
 have D:∀ b,s.heap.get? b=none->H b=none:=fun b e=>by
  cases G:H b with
  | none=>rfl
  | some o=>obtain ⟨u,hu⟩:=yvH (I.hok b o G);rw [e] at hu;cases hu
 have Y:(h'.push { cls:=.type "list",data:=.seq (g.map Value.ref).toArray }).get? B=some (seqObj "list" (g.map Value.ref).toArray 0):=by rw [<- hB];exact Heap.get?_push_size _ rfl
 refine wpAny_bind (wpAny_holding (wpAny_call_entry PySem.F.slot_list_sort ⟨_,Y,rfl⟩ PySem.F.entry_list_sort ?body (PySem.F.args_list_sort_1 _)))
 case body =>
  refine yvG (s:={ s with heap:=h'.push { cls:=.type "list",data:=.seq (g.map Value.ref).toArray },toks:=P }) (ps:=ps) Y (tp.mono fun b o _ e=>Heap.get?_push_of_some _ e) (fun z=>?_) (by rw [e1];exact nd) (by rw [length_map];omega) fun w z1 z2=>?_
  .obtain ⟨a,v,e⟩:=List.mem_map.mp z;cases e;exact absurd (F B v) (lt_irrefl _)
  refine ⟨_,rfl,wpAny_pure ⟨_,rfl,?_⟩⟩;have lq:w.toList.length=ns.length:=by have:=z1.size_eq;simpa [la] using this
  have pq:w.toList.Perm (List.range ns.length):=by have:=Array.perm_iff_toList_perm.mp z1;simpa [la] using this
  have E:∀ i∈w.toList,i<ns.length:=fun i C=>by have:=pq.mem_iff.mp C;simpa using this
  have nda:g.Nodup:=hG.rise.imp fun h=>ne_of_lt h
  have ndq:w.toList.Nodup:=pq.nodup_iff.mpr List.nodup_range;generalize hS:sortedHeap (h'.push { cls:=.type "list",data:=.seq (g.map Value.ref).toArray }) B (g.map Value.ref) (toArray (w.toList.map fun i=>(g.map Value.ref).getD i Value.none))=S;have hFa:∀ b o,b≠B->h'.get? b=some o->S.get? b=some o:=fun b o hb e=>by rw [<- hS];unfold sortedHeap;exact (Heap.get?_update_other _ _ (Ne.symm hb)).trans (Heap.get?_push_of_some _ (Heap.get?_push_of_some _ ((Heap.get?_update_other _ _ (Ne.symm hb)).trans (Heap.get?_push_of_some _ e))))
  have hFB:∃ c,S.get? B=some (seqObj "list" (toArray (w.toList.map fun i=>(g.map Value.ref).getD i Value.none)) c):=by rw [<- hS];unfold sortedHeap;exact ⟨_,get?_update_seq (Heap.get?_push_of_some _ (Heap.get?_push_of_some _ (get?_update_seq Y _))) _⟩
  have hF:∀ b o,s.heap.get? b=some o->S.get? b=some o:=fun b o e=>hFa b o (fun z=>by rw [z,L] at e;cases e) (N b o e)
  have p:∀ i,i<ns.length->∃ a,g[i]?=some a/\g.getD i 0=a/\a∈g:=fun i C=>by
   have h1:i<g.length:=by omega
   exact ⟨g[i],List.getElem?_eq_getElem h1,by simp [getD,List.getElem?_eq_getElem h1],getElem_mem h1⟩
  have O:∀ a∈(w.toList.map fun i=>g.getD i 0),a∈g:=fun a v=>by obtain ⟨i,C,rfl⟩:=List.mem_map.mp v;obtain ⟨a,_,e,m⟩:=p i (E i C);rw [e];exact m
  have neB:∀ a∈g,a≠B:=fun a v=>ne_of_lt (F a v)
  have Z:∀ i,ygB ps i=ns.getD i 0:=fun i=>by unfold ygB;rw [<- e1];simp [getD]
  refine ⟨.ref B,yEV H B (w.toList.map fun i=>g.getD i 0) (w.toList.map fun i=>[V.int (ns.getD i 0),(kvs.map (·.2)).getD i .non]),?_,rfl,q B _ w.toList pq ?_ nd (by simp) ?_ ?_⟩
  .show L2.Inv X pins K _ { s with heap:=S,toks:=P };refine yzX I hF (fun b o e=>?_) fun b o e G=>?_
   .unfold yEV upd ypb;rw [if_neg fun z=>by rw [z,D _ L] at e;cases e];cases e3:List.lookup b ((w.toList.map fun i=>g.getD i 0).zip (w.toList.map fun i=>[V.int (ns.getD i 0),(kvs.map (·.2)).getD i .non])) with
    | none=>exact e
    | some t =>
     obtain ⟨j,l,_⟩:=yeE e3;rw [D _ (T b (O b (mem_of_getElem? l)))] at e;cases e
   .unfold yEV upd ypb at G;split at G
    .rename_i hb;subst hb;cases G;obtain ⟨c,hc⟩:=hFB;refine ⟨L,by simp [lq];rw [ln];exact z,_,c,?_,hc⟩;rw [map_map];refine ypq fun i C=>?_
     obtain ⟨a,f1,f2,_⟩:=p i (E i C);show RelV (V.ref (g.getD i 0)) _;rw [f2];simp [getD,f1];rfl
    .split at G
     .rename_i t e3;cases G;obtain ⟨j,l,J⟩:=yeE e3;rw [getElem?_map] at l J;cases e4:w.toList[j]? with
      | none=>rw [e4] at l;cases l
      | some i =>
       rw [e4] at l J;have C:=E i (mem_of_getElem? e4);obtain ⟨a,f1,f2,f3⟩:=p i C;simp only [map_some,Option.some.injEq] at l J;rw [f2] at l;subst l;subst J;obtain ⟨key,k,x,w1,w2,w3⟩:=hG.pairs i a f1;have wk:k=Sum.inl (ns.getD i 0):=by
        have h1:(ws.map (·.1))[i]?=some k:=by rw [getElem?_map,w1];rfl
        rw [M,hk,getElem?_map] at h1;rw [List.getElem?_eq_getElem C] at h1;simp [getD,List.getElem?_eq_getElem C] at h1 ⊢;exact h1.symm
       obtain ⟨tk2,rfl⟩:∃ P,key=Value.int (ns.getD i 0) P:=by
        rcases ybr w2 with ⟨j,P,l,J⟩|⟨y,P,l,J⟩
        .rw [wk] at l;cases l;exact ⟨P,J⟩
        .rw [wk] at l;cases l
       have wx:(ws.map (·.2)).getD i .none=x:=by simp [getD,w1]
       refine ⟨T a f3,by simp [sizeLine_eq],[_,x],.cons ⟨_,rfl⟩ (.cons ?_ .nil),_,hFa a _ (neB a f3) w3,rfl,_,rfl⟩;rw [<- wx];exact kv2 i (by omega)
     .rw [e] at G;cases G
  .refine List.pairwise_iff_getElem.mpr fun i j C hj R=>?_
   have:=z2 i j (le_of_lt R) (by simpa [la,lq] using hj);unfold Kp at this;rw [Z,Z] at this;have hi':i<w.size:=by simpa using C
   have hj':j<w.size:=by simpa using hj
   rw [Array.getElem?_eq_getElem hi',Array.getElem?_eq_getElem hj'] at this;simpa using this
  .intro a v;rcases mem_cons.mp v with rfl|v
   .exact D _ L
   .exact D _ (T a (O a v))
  .refine List.nodup_cons.mpr ⟨fun h=>neB _ (O _ h) rfl,?_⟩;refine List.pairwise_map.mpr (ndq.imp_of_mem fun {i j} C hj R e=>R ?_);obtain ⟨a,f1,f2,_⟩:=p i (E i C);obtain ⟨b,l,J,_⟩:=p j (E j hj);rw [f2,J] at e;subst e;exact (List.getElem?_inj (by have:=E i C;omega) nda).mp (f1.trans l.symm)
variable {A:Nat->Addr}{o:Expr}{xa:XE}{pos p apos cpos:Pos}{x:Str}
theorem z_sortI (h:ZE X A o xa) (j:X.mg x=none) (i:X.calm=true:=by rfl) (m:Nm x:=by exact ⟨by rfl',by rfl',by rfl'⟩) (f:Gl X x:=by rfl) (g:bootBuiltins x=some (.builtin "sorted"):=by rfl') (b:attributeBase o "items" X.env (eval o X.env)=eval o X.env:=by rfl) (c:(apos.endLine == cpos.line)=true:=by rfl) (e:starEach [.Call (.Attribute o "items" apos) [] [] cpos] X.env=(false,eval (.Call (.Attribute o "items" apos) [] [] cpos) X.env)::starEach [] X.env:=by rfl) (d:(backTo pos (starEach [] X.env)).any (·.1)=false:=by rfl) :
  ZO X A (.Call (.Name x p) [.Call (.Attribute o "items" apos) [] [] cpos] [] pos) (yjA xa) :=
 wO (yjW (yhy i) f j g (yfZ (ywU PySem.F.plainAttrs_dict PySem.F.slot_dict_items PySem.F.type_dict_items yvI h.of b c) yjp e) m.n m.d e d) (ysd sE)
end
end PXS
namespace PX
open PySem L2 PySem.Spec PyProof.Rows
section
theorem yvJ {P:Program}{w:World}{K:Frag}{O:Expr}(a l:Addr) (m:Nat):Turn P w K O (ItR K a m) [l] l (fun i h=>i<=m/\h.IsRevIter l a ((m:Int)-1-(i:Nat))) where
 mem:=by simp
 obj:=fun i h st b n=>by
  have e:b=l:=by simpa using n
  subst e;obtain ⟨_,o,e,c,d⟩:=st;simp_all
 keep:=fun i h h' st k=>⟨st.1,st.2.at fun o e=>k l (by simp) o e⟩
 item:=by
  intro X J G F C i q s σ H E I r st t;subst J G F;obtain ⟨Z,xs,x,D,B⟩:=t;obtain ⟨its,Y,p,hz⟩:=I.list D;obtain ⟨u,S,Q⟩:=Y.get B;obtain ⟨f0,z,T,A,v,y⟩:=r l (by simp);have U:(m:Int)-1-(i:Nat)=((m-1-i:Nat):Int):=by omega
  have g:=st.2;rw [U] at g;refine wpAny_pyNext_rev_item g p.isList (x:=u) (by simpa using S) fun h' j W=>?_
  have L:=I.turned (t':=s.toks) (fun b o n e=>(W.2 b n).trans e) f0 z A v y;obtain ⟨o,e,c,d⟩:=id j;have R:((m-1-i:Nat):Int)-1=(m:Int)-1-((i+1:Nat):Int):=by omega
  rw [R] at j;exact ⟨u,rfl,ypJ e c d (by decide) ⟨x,H,L,Q,⟨rfl,fun ys N=>by rw [I.list_inj N D];exact B⟩,⟨Z,j⟩,fun b n=>(r b n).1⟩⟩
 done:=by intro X J G F C i q s σ H E I r st t;obtain rfl:i=m:=t;obtain ⟨f0,z,T,A,v,y⟩:=r l (by simp);have g:=st.2;rw [show (i:Int)-1-(i:Nat)=-1 by omega] at g;exact wpAny_pyNext_rev_end (I.ok.hd C) g fun h' M=>⟨rfl,I.turned (fun b o n e=>M b o n e) f0 z A v y⟩
 self:=fun _ _ _ _ _ st h=>wpAny_pyIter_revIter st.2 h
variable {X:Cx}{A:Nat->Addr}{tg a:Expr}{p pos:Pos}{xa:XE}
theorem yDq (m:Gl X "reversed") (v:X.mg "reversed" = none) (t:PE X a j) (n:starEach [a] X.env=(false,eval a X.env)::starEach [] X.env) (hs:starEach [a] X.env=[(false,eval a X.env)]):PI X tg (.Call (.Name "reversed" p) [a] [] pos) (yHH X.K j):=by
 intro d s Z H R I h;refine Call_ (yjn I m v ynV (PyProof.Rows.callWith_type1 (thn (yfZ t yjp n pos d s Z H (fun vs f=>match vs with|[x]=>∃ b xs,x=.ref b/\SqL X.K f b xs/\R (ItR X.K b xs.length) f|_=>False) I h) fun us s1 z=>?_) hs rfl));obtain ⟨vs,f,g,l,i⟩:=z;cases l with
 | nil=>exact i.elim
 | cons r rr =>
  cases rr with
  | cons=>exact i.elim
  | nil =>
  obtain ⟨b,xs,e,u,q⟩:=i;subst e;cases r;obtain ⟨its,y,k,hz⟩:=g.list u;have hl:=y.length;refine call_reversed_list k.isList (wpAny_pyIter_revIter ⟨_,Heap.get?_push_size _ rfl,rfl,rfl⟩ ?_);refine ⟨s1.heap.objs.size,_,_,_,f,rfl,g.kept fun b o e=>Heap.get?_push_of_some _ e,yvJ b _ xs.length,⟨zero_le _,_,Heap.get?_push_size _ rfl,rfl,?_⟩,fun b w=>?_,q⟩
  .show Data.fields _=Data.fields _;rw [hl];simp
  .have e:=by simpa using w
   subst e;exact g.fpOk (Nat.le_refl _) (g.hok.fresh (Nat.le_refl _))
theorem yzY {rest:List Stmt}(f:ZE X A a xa) (c:ZG X A tg y) (d:ZSs X A rest s) (hp:PassesOwn (model X.prog X.w) X.A X.env X.xe:=by exact PassesOwn.never) (e:X.calm=true:=by rfl) (hs:∀ x,foldedSetIterable a X.env x=pure x:=by exact fun _=>rfl):ZS X A (.For tg a rest [] pos) (ykx false xa y s) :=
 wS (yqK hp e (yne f.of) c.of d.of hs) (yvw sE sG sS)
theorem yzZ {rest:List Stmt}{s:XS}{y:XG}{c:Pos}(k:X.mg "reversed" = none) (g:ZE X A a xa) (i:ZG X A tg y) (h:ZSs X A rest s) (hp:PassesOwn (model X.prog X.w) X.A X.env X.xe:=by exact PassesOwn.never) (f:X.calm=true:=by rfl) (d:Gl X "reversed":=by rfl) (j:starEach [a] X.env=(false,eval a X.env)::starEach [] X.env:=by rfl) (e:starEach [a] X.env=[(false,eval a X.env)]:=by rfl) (hs:∀ x,foldedSetIterable (.Call (.Name "reversed" p) [a] [] c) X.env x=pure x:=by exact fun _=>rfl):ZS X A (.For tg (.Call (.Name "reversed" p) [a] [] c) rest [] pos) (ykx true xa y s) :=
 wS (yqK hp f (yDq d k g.of j e) i.of h.of hs) (yvx sE sG sS)
end
section
variable {X:Cx}{A:Nat->Addr}{a o:Expr}{xa xb:XE}{pos apos cpos:Pos}
theorem yDr:MtM X "dict.update" yHI:=by
 intro p s Z H x vs v us Q I r B h;obtain ⟨d,b,kvs,g,rfl,rfl,m,n,w,hz,q⟩:=h;cases r;obtain ⟨u,rfl,t⟩:=B.one;cases t;obtain ⟨z,D,vs,f,dd⟩:=yzt I.hok n;obtain ⟨E,k,j,e,l⟩:=yzt I.hok w;refine call_meetsIn PySem.F.slot_dict_update dd.typeIs PySem.F.entry_dict_update (PySem.F.args_dict_update_2 _ _) (meets_dict_update _ d b m k) ⟨vs,j,dd,l,by rw [<- f.length,<- e.length];exact hz,fun h' i _ hs=>?_⟩;have C:∃ q,h'.get? d=some q:=let ⟨q,_,_,y,_⟩:=i;⟨q,y⟩
 refine ⟨.non,_,ynK I (by rw [n];exact True.intro) hs C (yxi ?_ D (e.merge f) i),rfl,q⟩;exact Nat.le_trans (ygx g kvs) hz
end
variable {X:Cx}{A:Nat->Addr}{x:Str}
theorem ysE {elt iter k:Expr}{o:Pos}{scope:Scope}{l:Pos}{p:XA}{xe:XE}{q:XT}{ix:List Nat} j (r:ZI X A (.Name x o) iter p) (t:∀ g C c d fp b,ZE (cxC X scope g C (x::j) c d fp b) A elt xe) (u:∀ g C c d fp b,ZT (cxC X scope g C (x::j) c d fp b) A k q) (s:X.calm=true:=by rfl) (n:FrOk X scope ix j:=by repeat' first|exact True.intro|exact rfl|refine And.intro ?_ ?_) (m:(x::j).Nodup:=by rfl') (i:scope.kind=.function:=by rfl) (h:∀ y∈scope.names,y.2≠.cell:=by rfl') (e:∀ y∈scope.names,y.2=.local->scope.names.lookup y.1=some .local:=by rfl') (f:∀ y∈scope.names,y.2=.free->y.1∈j:=by rfl') (w:scope.names.lookup x=some .local:=by rfl) (hs:∀ v,foldedSetIterable iter X.env v=pure v:=by exact fun _=>rfl):ZO X A (.ListComp elt [⟨.Name x o,iter,[k],0⟩] scope l) (yfO p ix q xe) :=
 wO (yhK ix j s r.of n (fun g C c d fp b=>(t g C c d fp b).of) (fun g C c d fp b=>.one (u g C c d fp b).of) m i h e f w hs) (ysg ix sI sT sE)
end PX
namespace PX
open PySem L2 PySem.Spec PyProof.Rows
variable {X:Cx}{A:Nat->Addr}{x y:Str}{py spos:Pos}{iy:Nat}
theorem yAa {k b:Nat}{f:Addr}{a:FuncData}{ps:List Str}{p pos:Pos}{c} (M:Mk X.K (A k) f) (F:FnOk X.prog X.w X.K X.mg X.base CX0 b f a ps (spI (ckX X A) 0 k c)) (g:X.mg x=some (.ref (A k))) (e:Binds X.K a ps []) (hr:Room (b+1) X.A:=by exact hr.mono (by omega)) (m:Nm x:=by exact ⟨by rfl',by rfl',by rfl'⟩) (d:Gl X x:=by rfl):ZO X A (.Call (.Name x p) [] [] pos) (yge c yh) :=
 wO (yus M F hr d g e .nil ylE m.d) (yoQ ykj ynD)
end PX
namespace PX
open PySem L2 PySem.Spec PyProof.Rows KasS PXS
section
variable {X:Cx}{A:Nat->Addr}
theorem yhW (h:IntsAre vs ns):Vals (ns.map V.int) vs:=by
 induction h with
 | nil=>exact .nil
 | cons n t _ ih=>exact .cons ⟨t,rfl⟩ ih
variable {a:Expr}{xa:XE}{aa:XA}{pos p:Pos}{x:Str}{n:Nat}
end
section
noncomputable def NF (X:Cx) (a:Addr):Prop:=∀ o u,X.H₀ a≠some (.frz o u)
theorem yHK {X:Cx}{f:List _}{Z:L2.St}{H:Hp}{s:Shared}{d:Addr}{g u1:HO}(I:L2.Inv X f Z H s) (v:H d=some g) (B:∀ xs,g≠.tup xs) (A:∀ y,g≠.own y) (nb:∀ ps,g≠.tbl ps) (m:NF X d)
  (w:ObjOk X.prog X.w H s.heap d g->ObjOk X.prog X.w H s.heap d u1):L2.Inv X f Z (upd H d u1) s:=by
 have i:∀ {b:Addr},H b=none->upd H d u1 b=none:=fun {b} e=>(yL fun z=>by simp_all).trans e
 refine ⟨I.ok,I.os,I.bare,⟨I.base.keep,I.base.slot,fun b o e n t=>i (I.base.free b o e n t),I.base.there,fun b xs e=>?_,fun b o u e=>?_,fun b ps e=>?_⟩,I.loc,I.cell,i I.free,fun x c e=>i (I.freeC x c e),fun p hp=>?_,fun b u e=>?_,I.len⟩
 .have:=I.base.tups b xs e
  exact (yL fun z=>by simp_all).trans this
 .have:=I.base.frzs b o u e
  exact (yL fun z=>by subst z;exact m o u e).trans this
 .obtain ⟨h,this⟩:=I.base.tbls b ps e;exact ⟨h,(yL fun z=>by simp_all).trans this⟩
 .obtain ⟨h1,h2,r⟩:=I.pin p hp;exact ⟨h1,i h2,r⟩
 .have l:∀ c y,H c=some _->upd H d u1 c=some (.own y):=fun c y q=>(yL fun z=>by simp_all).trans q
  have k:∀ c xs,H c=some _->upd H d u1 c=some (.tup xs):=fun c xs q=>(yL fun z=>by simp_all).trans q
  by_cases j:b=d
  .subst j;rw [yK] at e;cases e;exact (w (I.hok b g v)).stay (fun _ _ _ q=>q) (fun c q=>l c b q) k
  .rw [yL j] at e;exact (I.hok b u e).stay (fun _ _ _ q=>q) (fun c q=>l c b q) k
theorem ysF {P:Program}{w:World}{K:Frag}{tg:Expr}(d t:Addr) (ob:Obj) (kvs:List (Key×V)) {es:Array DictEntry}{ep:Nat}(n:ob.data=.dict es ep):Turn P w K tg (ItD d ob kvs) [t] t (fun i h=>h.IsKeyIter t d i kvs.length ep) where
 mem:=by simp
 obj:=fun i h st b p=>by
  have e:b=t:=by simpa using p
  subst e;obtain ⟨o,e,c,q⟩:=st;exact ⟨o,e,fun v z=>by rw [q] at z;cases z⟩
 keep:=fun i h h' st k=>st.at fun o e=>k t (by simp) o e
 item:=by
  intro X hP L hK hc i m s σ H E I C st Z;subst hP L hK;obtain ⟨r,S⟩:=Z;obtain ⟨u,z,sy,ws,T,hD⟩:=I.hok d _ S;obtain ⟨M,f⟩:=hD.dictAt;obtain ⟨o',J,g,D,j,G⟩:=id f;rw [u] at g;cases g;rw [n] at j;cases j;obtain ⟨l,F⟩:=ypp T;have lw:ws.length=kvs.length:=by have:=congrArg length l;simpa using this
  have A:i<ws.length:=by omega
  obtain ⟨f0,R,f2,f3,Y,O⟩:=C t (by simp);rw [<- lw] at st;refine wpAny_pyNext_dict_item st f (k:=ws[i].1) (v:=ws[i].2) (List.getElem?_eq_getElem A) fun key h' B x sb=>?_
  have I1:L2.Inv X m σ H { s with heap:=h' }:=I.turned (t':=s.toks) (fun b o p e=>(sb.2 b p).trans e) f0 R f3 Y O;obtain ⟨o,e,c,q⟩:=id x;rw [lw] at x;have hk:(kvs[i]'r).1=ws[i].1:=by
   have h1:(ws.map (·.1))[i]?=(kvs.map (·.1))[i]?:=by rw [l]
   rw [getElem?_map,getElem?_map,List.getElem?_eq_getElem A,List.getElem?_eq_getElem r] at h1;exact (Option.some.inj h1).symm
  have Q:RelV (kV (kvs[i]'r).1) key:=by
   rw [hk];rcases ybr B with ⟨i,N,W,U⟩|⟨y,N,W,U⟩
   .rw [W,U];exact ⟨N,rfl⟩
   .rw [W,U];exact ⟨N,rfl⟩
  exact ⟨key,rfl,ypJ (s:={ s with heap:=h' }) e c q (by decide) ⟨kV (kvs[i]'r).1,H,I1,Q,⟨rfl,_,List.getElem?_eq_getElem r,rfl⟩,x,fun b p=>(C b p).1⟩⟩
 done:=by
  intro X hP L hK hc i m s σ H E I C st Z;subst hP L hK;obtain ⟨r,S⟩:=Z;subst r;obtain ⟨u,z,sy,ws,T,hD⟩:=I.hok d _ S;obtain ⟨M,f⟩:=hD.dictAt;obtain ⟨o',J,g,D,j,G⟩:=id f;rw [u] at g;cases g;rw [n] at j;cases j;obtain ⟨l,F⟩:=ypp T;have lw:ws.length=kvs.length:=by have:=congrArg length l;simpa using this
  obtain ⟨f0,R,f2,f3,Y,O⟩:=C t (by simp);rw [<- lw] at st;exact wpAny_pyNext_dict_end (I.ok.hd hc) st f (by simp) fun h' eb=>⟨rfl,I.turned (t':=s.toks) (fun b o p e=>eb b o p e) f0 R f3 Y O⟩
 self:=fun _ _ _ _ _ st h=>wpAny_pyIter_keyiter st h
variable {X:Cx}{A:Nat->Addr}{tg a:Expr}{p pos:Pos}{xa:XE}
theorem yAb (y:PE X a n):PI X tg a (yDc (NF X) n):=by
 intro f s Z H R I h;refine thn (y f s Z H _ I h) fun v s1 z'=>?_
 obtain ⟨x,M,i,L,B⟩:=z';obtain ⟨d,kvs,e,r,q⟩:=B;subst e;cases L;have m:NF X d:=fun o u z=>by have:=i.base.frzs d o u z;simp_all
 obtain ⟨z,D,ws,J,G⟩:=id (i.hok d _ r);obtain ⟨ep,g⟩:=G.dictAt;obtain ⟨ob,es,E,t,k,w⟩:=id g;obtain ⟨l,F⟩:=ypp J;have lw:=by have:=congrArg length l;simpa using this
 have j:=yHK (u1:=.frz ob _) i r (fun _ z=>by cases z) (fun _ z=>by cases z) (fun _ z=>by cases z) m fun x=>⟨E,x⟩
 refine wpAny_pyIter_dict D g ?_;refine ⟨s1.heap.objs.size,_,_,_,_,rfl,j.kept fun b o e=>Heap.get?_push_of_some _ e,ysF d _ ob kvs k,⟨_,Heap.get?_push_size _ rfl,rfl,by rw [lw];rfl⟩,fun b C=>?_,q ob m⟩;have e:=by simpa using C
 subst e;exact j.fpOk (Nat.le_refl _) (j.hok.fresh (Nat.le_refl _))
end
end PX
namespace PX
open PySem L2 PySem.Spec PyProof.Rows
section
variable {X:Cx}{A:Nat->Addr}
theorem yAc:MtR X "str.find" yrh:=by
 intro b s Z H x xs v us Q I f g h;obtain ⟨z,c,rfl,rfl,hz,d,q⟩:=h;obtain ⟨t,rfl⟩:=f;obtain ⟨u,rfl,i,rfl⟩:=vals1 g;rcases yrj z c with ⟨_,h2⟩|⟨r,h1,_⟩
 .exact absurd d h2
 .refine SC.find ?_;have e:Txt.find z ⟨#[c]⟩=(z.cps.toList.idxOf c:Int):=by unfold Txt.find;rw [h1]
  rw [e];exact ⟨.int _,H,I.tok _,⟨_,rfl⟩,q⟩
variable {pos p apos:Pos}{x m:Str}{e:Expr}{es:List Expr}{aa:XA}{n:Nat}
theorem yDs {ss:List Str}(f:X.mg x=some (.ref a)) (c:KTp X.K a (ss.map V.str)) (nm:Nm x:=by exact ⟨by rfl',by rfl',by rfl'⟩) (d:Gl X x:=by rfl):ZE X A (.Name x pos) (xC (.tup (ss.map PV.str))):=wE (yns d f nm.d) (yvz c)
structure yvK (K:Frag) (C:Addr) (m:Str) (f:Addr):Prop where
 rd:PySem.W.readsIn K C (.type "type")=true
 fc:PySem.W.findCls K (.ref C) (.type "type") m=some (.val (.ref f))
 sp:PySem.W.specialIn K (.ref C) "__getattribute__" = some (some (.builtin "type.__getattribute__"))
 kp:keepIn K (.ref f)=true
theorem yAd {pl:Sem Bool}(c:yvK X.K C m f) (J:Gl X x) (N:X.mg x=some (.ref C)) (F:FnOk X.prog X.w X.K X.mg X.base CX k f l ps sp) (y:Room k X.A) (O:Binds X.K l ps []) (G:ygt CX X E) (L:PA X (e::es) t)
  (P:(x == "__debug__")=false)
  (i:starEach (e::es) X.env=(false,eval e X.env)::starEach es X.env) (g:(backTo pos (starEach es X.env)).any (·.1)=false)
  (B:eval (.Call (.Attribute (.Name x p) m apos) (e::es) [] pos) X.env=do
   let q <- eval (.Name x p) X.env
   standAt apos.atName
   let (f,first) <- holding [q] (getMethod q m pl)
   callWith pos f first (backTo pos (starEach (e::es) X.env)) (backToKw pos (keywordEach [] X.env))) :
  PE X (.Call (.Attribute (.Name x p) m apos) (e::es) [] pos) (yup sp [] E t):=by
 intro b s Z H Q I h;refine PySem.W.methodCall_KW (thn (yns J N P b s Z H (fun v j=>v=.ref C/\j=H) I ⟨rfl,rfl⟩) fun u s1 z'=>?_) B;obtain ⟨v,j,d,z,w,D⟩:=z';subst w D;obtain rfl:u=Value.ref C:=z;refine PySem.W.method_cls d.kIn c.sp (PySem.W.cls_value d.kIn c.rd c.fc rfl ?_);have d:=d.tok (s1.toks+1);refine PySem.W.callWith_K I.ok.mod.kin c.kp (thn (L pos b _ Z j _ d h) fun us s2 y'=>?_) i g;obtain ⟨vs,R,o,r,M⟩:=y';refine ⟨o.kIn,?_⟩;exact ylw F y O .nil G o r M
theorem yAe {C f:Addr}{d k:Nat}{g:FuncData}{ps:List Str}{j} {pl:Sem Bool}{o:Expr}{sp:Pos}(c:yvK X.K C m f) (l:X.mg x=some (.ref C)) (F:FnOk X.prog X.w X.K X.mg X.base CX0 d f g ps (spJ (ckX X A) n k j)) (q:Binds X.K g ps []) (h:ZA X A es n aa) (nm:Nm x:=by exact ⟨by rfl',by rfl',by rfl'⟩) (u:Gl X x:=by rfl) (hr:Room d X.A:=by exact hr.mono (by omega)) (s:PE X o (yqw 0):=by exact yjm rfl (by first|exact Or.inl rfl|exact Or.inr (Or.inl rfl)) (by rfl') (by rfl')) (a:starEach (o::es) X.env=(false,eval o X.env)::starEach es X.env:=by rfl) (b:(backTo pos (starEach es X.env)).any (·.1)=false:=by rfl) (r:eval (.Call (.Attribute (.Name x p) m apos) (o::es) [] pos) X.env=(do
   let i <- eval (.Name x p) X.env
   standAt apos.atName
   let (f,first) <- holding [i] (getMethod i m pl)
   callWith pos f first (backTo pos (starEach (o::es) X.env)) (backToKw pos (keywordEach [] X.env))):=by rfl) (t:swapsWith (.Call (.Attribute (.Name x p) m apos) (o::es) [] pos) none sp.line X.env=pure false:=by rfl):ZF X A (.Expr (.Call (.Attribute (.Name x p) m apos) (o::es) [] pos) sp) (xBI k j aa) :=
 wF (yjR (yAd c u l F hr q ylE (yfZ s h.of a) nm.d a b r) t) (yzK sA h.len)
end
section
variable {P:Program}{w:World}{K:Frag}{mg:Str->Option Value}{base:Heap}{A:Nat->Addr}
theorem yIv {x b:Str}{st:Stmt}{f:Addr}{i:FuncData}{N ps:List Str}{k g n:Nat}{s:XS}(F:Fun K x b st f i) (S:yez N ps (ybF st)) (m:ps.length=n+1) (l:n+1<=N.length)
  (h:∀ c e outer d H E,Room k (e.deeper (envOfC b (ybF st) d.heap.objs.size f c))->ZFs (yut CX0 P w K mg base N b (ybF st) f c e outer d H E).nox A (yga st) s) :
  FnOk P w K mg base CX0 (k+1) f i ps (spJ ⟨K,A⟩ n g (ymY N.length g s)) :=
 F.ok S (fun _ _ _ _ h=>(yzJ h).trans m.symm) fun c e outer d H vs Q E o j=>⟨_,(h c e outer d H E o).of,ysi l sF j⟩
end
open Builtin Builtin.Str in
section
variable {prog:Program}{w:World}{A:Around}{E:Value->Shared->Prop}{s:Shared}
theorem yqf {x y:Str}{Q:Value->Shared->Prop}(e:(y.length == 0)=false) (hz:x.length+2<=sizeLine)
  (h:∀ l k,l.map (·.1)=Txt.split x y->Q (.ref s.heap.objs.size) { s with heap:=s.heap.push { cls:=.type "list",data:=.seq (strValues l).toArray },toks:=k }) :
  wpAny (model prog w) A (call (.builtin "str.split") [.str x t,.str y u]) Q E s:=by
 have h2:(partsBetween x (occurrences x y 0 x.length (x.length+1)) y.length).length<=sizeLine:=by have:=StrLaws.occ_length_le x y 0 x.length (x.length+1);rw [length_partsBetween];omega
 by_cases b:(decide (x.length<y.length) || decide (strKind x<strKind y))=true
 .exact call_meets F.slot_str_split (typeIs_str _ _ _) F.entry_str_split (F.args_str_split_2 _ _) (meets_str_split_cannot_occur x y t u b) (h [(x,t)] s.toks (if_pos b).symm)
 .have c:(decide (x.length<y.length) || decide (strKind x<strKind y))=false:=by simpa using b
  by_cases d:(occurrences x y 0 x.length (x.length+1)).isEmpty=true
  .exact call_meets F.slot_str_split (typeIs_str _ _ _) F.entry_str_split (F.args_str_split_2 _ _) (meets_str_split_not_found x y t u c e d) (h [(x,t)] s.toks ((if_neg b).trans (if_pos d)).symm)
  .refine call_meets F.slot_str_split (typeIs_str _ _ _) F.entry_str_split (F.args_str_split_2 _ _) (meets_str_split_sep x y t u c e (by simpa using d) (by omega) h2) ?_;rw [strsFrom_eq];exact h _ _ ((numbered_texts _ _).trans ((if_neg b).trans (if_neg d)).symm)
end
theorem ypr z:Txt.split z " " = yxo z:=by have e:(" ":Str)=⟨#[32]⟩:=rfl;have h:=yii (Txt.split z " ") (fun q=>by have:=split_pos z " ";rw [q] at this;simp at this) (by exact StrLaws.split_free z 32);rw [StrLaws.join_split] at h;exact h.symm
theorem ymt:∀ l,Vals ((l.map (·.1)).map V.str) (strValues l)
 | []=>.nil
 | (_,t)::l=>.cons ⟨t,rfl⟩ (ymt l)
section
variable {X:Cx}{A:Nat->Addr}
theorem yvL:MtR X "str.split" yxp:=by
 intro c s Z H x xs v us Q I i j h;obtain ⟨z,rfl,rfl,hz,q⟩:=h;obtain ⟨t,rfl⟩:=i;obtain ⟨u,rfl,f⟩:=vals1 j;obtain ⟨t',rfl⟩:=f;have hs:z.length+2<=sizeLine:=by simp only [PySem.sizeLine_eq];omega
 refine yqf (rfl) hs fun l k e=>?_
 have g:=e.trans (ypr z);have d:=split_le z " ";rw [ypr] at d;refine ⟨.ref s.heap.objs.size,_,I.laid (fun b o e=>Heap.get?_push_of_some _ e) (Nat.le_refl _) ?_,rfl,q _ (I.hok.fresh (Nat.le_refl _))⟩;exact ⟨by rw [length_map];exact Nat.le_trans d hs,_,0,g ▸ ymt l,Heap.get?_push_size _ rfl⟩
end
section
variable {X:Cx}{A:Nat->Addr}{tg a:Expr}{p pos:Pos}{xa:XE}{x:Str}{es:List Expr}{aa:XA}{n:Nat}
theorem ynX (M:Mk X.K (A k) f) (F:FnOk X.prog X.w X.K X.mg X.base CX0 c f g ps (spE (ckX X A) (n+1+1) e)) (h:X.mg x=some (.ref (A k))) (j:Binds X.K g ps []) (d:ZA X A (a::es) (n+1) aa) (hr:Room (c+1) X.A:=by exact hr.mono (by omega)) (m:Nm x:=by exact ⟨by rfl',by rfl',by rfl'⟩) (l:Gl X x:=by rfl) (i:starEach (a::es) X.env=(false,eval a X.env)::starEach es X.env:=by rfl) (b:(backTo pos (starEach es X.env)).any (·.1)=false:=by rfl):ZE X A (.Call (.Name x p) (a::es) [] pos) (yij k e aa) :=
 wE (yqY M F hr l h j .nil ylE d.of m.d i b) (ysm sA d.len)
theorem yps (t:X.calm=true):yfY X (.builtin "any") yHJ:=by
 intro k s Z H xs us Q I r h;obtain ⟨p,bs,rfl,hp,q⟩:=h;obtain ⟨u,rfl,m⟩:=vals1 r;cases m;obtain ⟨its,n,y,e,hz⟩:=I.lst hp;have f:=yjZ y;subst f;have hl:s.heap.IsList p _:=⟨_,e,rfl,n,rfl⟩
 have g:=Heap.lt_size e;refine call_any_walk (wpAny_pyIter_list hl ?_);refine ⟨s.heap.objs.size,_,_,_,_,_,fun i=>bs[i]?.getD false,rfl,Walks.list (A:=X.A.in1) (I.ok.hd t) _ p (ne_of_lt g) _,
  ⟨⟨_,Heap.get?_push_size _ rfl,rfl,rfl⟩,hl.push _⟩,fun i v s' B C d j=>?_,fun h' D l=>?_⟩
 .have d:(bs.map Value.bool)[i]?=some v:=by simpa using d
  rw [getElem?_map] at d;cases f:bs[i]? with
  | none=>simp_all
  | some b =>
   rw [f] at d;cases d;simp only [f,Option.getD_some] at j;exact wpAny_truthy_bool j
 .have z:((List.range (bs.map Value.bool).toArray.size).any fun i=>bs[i]?.getD false)=bs.any id:=by rw [size_toArray,length_map];exact LSm.range_any bs
  rw [z];exact ⟨.bl _,H,I.kept fun b o eo=>l b o (fun w=>by rw [List.mem_singleton.mp w] at eo;exact absurd (Heap.lt_size eo) (lt_irrefl _)) (Heap.get?_push_of_some _ eo),rfl,q⟩
theorem yAf {elt iter:Expr}{t:Pos}{scope:Scope}{k:Pos}{xe:XE}{ix:List Nat} j (u:ZE X A iter xa) (q:∀ l C d e fp c,ZE (cxC X scope l C (x::j) d e fp c) A elt xe) (r:X.calm=true:=by rfl) (o:FrOk X scope ix j:=by repeat' first|exact True.intro|exact rfl|refine And.intro ?_ ?_) (m:(x::j).Nodup:=by rfl') (h:scope.kind=.function:=by rfl) (i:∀ y∈scope.names,y.2≠.cell:=by rfl') (f:∀ y∈scope.names,y.2=.local->scope.names.lookup y.1=some .local:=by rfl') (g:∀ y∈scope.names,y.2=.free->y.1∈j:=by rfl') (s:scope.names.lookup x=some .local:=by rfl) (hs:∀ v,foldedSetIterable iter X.env v=pure v:=by exact fun _=>rfl):ZO X A (.ListComp elt [⟨.Name x t,iter,[],0⟩] scope k) (ymp xa ix xe) :=
 wO (yzO (yhK ix j r (yne u.of) o (fun l C d e fp c=>(q l C d e fp c).of) (fun _ _ _ _ _ _=>.nil) m h i f g s hs)) (ysn ix sE sE)
end
open KasS PXS
section
variable {X:Cx}{A:Nat->Addr}{xa:XE}{x:Str}
theorem yAg {elt iter:Expr}{p:Pos}{scope:Scope}{i:Pos}{xe:XE}{ix:List Nat} l (E:ZE X A iter xa) (t:∀ m C c e fp b,ZE (cxC X scope m C (x::l) c e fp b) A elt xe) (D:X.calm=true:=by rfl) (n:FrOk X scope ix l:=by repeat' first|exact True.intro|exact rfl|refine And.intro ?_ ?_) (o:(x::l).Nodup:=by rfl') (k:scope.kind=.function:=by rfl) (j:∀ y∈scope.names,y.2≠.cell:=by rfl') (f:∀ y∈scope.names,y.2=.local->scope.names.lookup y.1=some .local:=by rfl') (g:∀ y∈scope.names,y.2=.free->y.1∈l:=by rfl') (G:scope.names.lookup x=some .local:=by rfl) (hs:∀ v,foldedSetIterable iter X.env v=pure v:=by exact fun _=>rfl):ZO X A (.ListComp elt [⟨.Name x p,iter,[],0⟩] scope i) (yjB xa ix xe):=by
 have u:PE X (.ListComp elt [⟨.Name x p,iter,[],0⟩] scope i) (yxs (NF X) (cE (ckX X A) xa) ix (cE (ckX X A) xe)):=by
  intro b s Z H Q I h;refine thn (yzO (yhK ix l D (yAb E.of) n (fun m C c e fp b=>(t m C c e fp b).of) (fun _ _ _ _ _ _=>.nil) o k j f g G hs) b s Z H _ I h) fun v s1 z'=>?_
  obtain ⟨y,J,B,w,d,ob,kvs,r,F,q⟩:=z';exact ⟨y,_,yHK B F (fun _ z=>by cases z) (fun _ z=>by cases z) (fun _ z=>by cases z) r fun x=>x.2,w,q⟩
 exact wO u (yso ix sE sE)
end
end PX
namespace PX
open PySem L2
variable {K:Ck}
noncomputable def yHL:PV->Option Str
 | .str x=>some x
 | .int i=>if i.natAbs.log2<1920 then some (toString i:String) else none
 | _=>none
def xFv (e:XE):XE:=fun ρ h=>ob (e ρ h) fun x h1=>match yHL x with|some z=>if z.length<=100000 then some (.str z,h1) else none|none=>none
noncomputable abbrev XJ:=PSt->AH->Str->Option (Str×AH)
def ydb:XJ:=fun _ h acc=>if acc.length<=100000 then some (acc,h) else none
def yk (e:XE) (r:XJ):XJ:=fun ρ h acc=>ob (e ρ h) fun x h1=>match x with|.str z=>if (acc++z).length<=100000 then r ρ h1 (acc++z) else none|_=>none
def xJn (r:XJ):XE:=fun ρ h=>ob (r ρ h "") fun z h1=>some (.str z,h1)
noncomputable abbrev TJ:=Str->St->Hp->(Str->Hp->Prop)->Prop
def yHM:TJ:=fun acc _ H Q=>acc.length<=sizeLine/\Q acc H
noncomputable def yDt (te:TE) (t:TJ):TJ:=fun acc Z H Q=>te Z H fun x H1=>∃ z,x=.str z/\(acc++z).length<=sizeLine/\t (acc++z) Z H1 Q
def tJn (t:TJ):TE:=fun Z H Q=>t "" Z H fun z H1=>Q (.str z) H1
def yDu (K:Ck) (t:TJ) (r:XJ):Prop:=∀ (W0 W:Wd) (ρ:PSt) (Z:St) (acc:Str) (Q:Str->Hp->Prop) (z:Str) (h':AH),Good K W0 W ρ Z->r ρ W.h acc=some (z,h')->(∀ W',W'.h=h'->Le K W W'->Q z W'.H)->t acc Z W.H Q
noncomputable def tFv (te:TE):TE:=fun Z H Q=>te Z H fun v H1=>∃ z:Str,(v=.str z\/∃ i:Int,v=.int i/\i.natAbs.log2<1920/\z=(toString i:String))/\z.length<=sizeLine/\Q (.str z) H1
theorem yDv (a:ybH K h j):ybH K (tFv h) (xFv j):=by
 intro k W ρ Z Q y h' g e q;obtain ⟨x,h1,m,c⟩:=yj e;refine a k W ρ Z _ x h1 g m fun v l n o f=>?_
 split at c
 .rename_i z hz;split at c
  .rename_i hl;cases c;refine ⟨z,?_,Nat.le_trans hl (by decide),q _ l n o rfl⟩;cases x with
   | str s=>cases hz;exact .inl f
   | int i =>
    have hz:(if i.natAbs.log2<1920 then some _ else none)=some z:=hz
    by_cases d:i.natAbs.log2<1920
    .rw [if_pos d] at hz;cases hz;exact .inr ⟨i,f,d,rfl⟩
    simp_all
   | _=>cases hz
  .cases c
 .cases c
theorem yvM:yDu K yHM ydb:=by
 intro W0 W ρ Z acc Q z h' g e q;unfold ydb at e;split at e
 .rename_i hl;cases e;exact ⟨Nat.le_trans hl (by decide),q W rfl (.refl g.ok)⟩
 .cases e
theorem ysG (a:ybH K h j) (b:yDu K t r):yDu K (yDt h t) (yk j r):=by
 intro i W ρ Z u Q z h' g e q;obtain ⟨x,h1,n,d⟩:=yj e;refine a i W ρ Z _ x h1 g n fun v m p f k=>?_
 subst p;split at d
 .rename_i s;split at d
  .rename_i hl;exact ⟨s,k,Nat.le_trans hl (by decide),b i m ρ Z _ _ z h' (g.step f) d fun o w l=>q o w (f.trans l)⟩
  .cases d
 .cases d
theorem yDw (b:yDu K t r):ybH K (tJn t) (xJn r):=by intro f W ρ Z Q y h' g e q;obtain ⟨z,h1,c,h⟩:=yj e;cases h;exact b f W ρ Z "" _ z _ g c fun d w l=>q _ d w l rfl
end PX
namespace L2
open PySem PySem.Spec PyProof.Rows PX
section
variable {X:Cx}{e e':Expr}{es:List Expr}{te:TE}{t:TJ}{pos:Pos}
theorem yGx (h:PE X e te):PE X (.FormattedValue e (-1) none pos) (tFv te):=by
 intro b s Z H Q I q;refine wpAny_FormattedValue_plain (thn (h b s Z H _ I q) fun v s1 z'=>?_);obtain ⟨x,c,f,g,z,hz,hl,d⟩:=z';rcases hz with rfl|⟨i,rfl,j,rfl⟩
 .obtain ⟨k,rfl⟩:=g;exact wpAny_formatField_str ⟨.str z,c,f,⟨_,rfl⟩,d⟩ ⟨.str z,c,f.tok _,⟨_,rfl⟩,d⟩ hl
 .obtain ⟨k,rfl⟩:=g;exact wpAny_formatField_int j ⟨.str _,c,f.tok _,⟨_,rfl⟩,d⟩
def PJs (X:Cx) (es:List Expr) (t:TJ):Prop:=∀ (pins:List (Addr×Obj)) (s:Shared) (Z:L2.St) (H:Hp) (acc:Str) (Q:Str->Hp->Prop),Inv X pins Z H s->t acc Z H Q ->
 Joins (model X.prog X.w) X.A X.xe (evalEach es X.env) acc (fun out s1=>∃ H1,Inv X pins Z H1 s1/\out.length<=sizeLine/\Q out H1) s
theorem yDx:PJs X [] yHM:=fun _ _ _ H _ _ I q=>⟨H,I,q.1,q.2⟩
theorem yAh (h1:PE X e te) (h2:PJs X es t):PJs X (e::es) (yDt te t):=by
 intro b s Z H h Q I q;refine thn (h1 b s Z H _ I q) fun v s1 z'=>?_
 obtain ⟨x,g,i,c,z,f,hl,d⟩:=z';subst f;obtain ⟨j,rfl⟩:=c;exact ⟨z,j,rfl,hl,h2 b s1 Z g _ Q i d⟩
theorem yjC {Q f:Str->Shared->Prop}:∀ {a:List _}{d:Str}{s:Shared},Joins M A E a d Q s->(∀ c s1,Q c s1->f c s1)->Joins M A E a d f s
 | [],_,_,h,k=>k _ _ h
 | _::_,_,_,h,k=>thn h fun _ _ ⟨y,t,e,hl,j⟩=>⟨y,t,e,hl,yjC j k⟩
theorem yGy (h:PJs X (e::e'::es) t):PE X (.JoinedStr (e::e'::es) pos) (tJn t):=by intro b s Z H Q I q;refine wpAny_joinPartsRec _ _ _ _ (yjC (h b s Z H "" _ I q) fun c s1 z=>?_);obtain ⟨f,g,hl,d⟩:=z;exact ⟨hl,.str c,f,g.tok _,⟨_,rfl⟩,d⟩
end
end L2
namespace PX
open PySem L2 PySem.Spec PyProof.Rows
structure ZJ (X:Cx) (A:Nat->Addr) (es:List Expr) (r:XJ):Prop where
 ex:∃ t:TJ,PJs X es t/\yDu (ckX X A) t r
section
variable {X:Cx}{A:Nat->Addr}{e e':Expr}{es:List Expr}{xa:XE}{r:XJ}{pos:Pos}
theorem yfh:ZJ X A [] ydb:=⟨_,yDx,yvM⟩
theorem yw (h1:ZE X A e xa) (h2:ZJ X A es r):ZJ X A (e::es) (yk xa r):=by obtain ⟨t,p,q⟩:=h2.ex;exact ⟨_,yAh h1.of p,ysG sE q⟩
theorem ysH (h:ZJ X A (e::e'::es) r):ZE X A (.JoinedStr (e::e'::es) pos) (xJn r):=by obtain ⟨t,p,q⟩:=h.ex;exact wE (yGy p) (yDw q)
theorem ygV (h:ZE X A e xa):ZE X A (.FormattedValue e (-1) none pos) (xFv xa):=wE (yGx h.of) (yDv sE)
end
end PX
namespace L2
open PySem PySem.Spec PyProof.Rows PX
noncomputable def yjD (ix:List Nat) (Z:L2.St) (a b:V):L2.St:=some a::some b::ix.map fun i=>(Z[i]?).getD none
def yxz (K:Frag) (J:It) (tc:TT) (te:TE) (inn:V->V->L2.St) (D:Addr) (Q:VK) (H:Hp):Prop:=∃ W:Nat->Nat->Hp->Prop,(∃ m,W 0 m H)/\∀ i m H,W i m H ->
 (J.stop i H/\Q (.ref D) H)\/(J.go i H/\∀ x H',J.yld i H x H'->∃ p a b,x=.ref p/\SqT K H' p [a,b]/\tc (inn a b) H' fun k H1=>if k=true then te (inn a b) H1 fun y H2=>∃ acc,H2 D=some (.lst acc)/\acc.length<sizeLine/\∃ m',m'<m/\W (i+1) m' (upd H2 D (.lst (acc++[y]))) else ∃ m',m'<m/\W (i+1) m' H1)
def yxA (K:Frag) (wi:TI) (ix:List Nat) (tc:TT) (te:TE):TE:=fun Z H Q=>wi Z H fun J H1=>∀ D,H1 D=none->yxz K J tc te (yjD ix Z) D Q (upd H1 D (.lst []))
theorem yAi {K:Frag}{J:It}{tc:TT}{te:TE}{ix:List Nat}{Z:L2.St}{D:Addr}{Q:VK}{H:Hp}(h:yxz K J tc te (yjD ix Z) D Q H):yph J (yEJ K 2 (yug (ynd 0) (yug (ynd 1) yFj))) 2 tc te (ix.map fun i=>Z[i]?.getD none) D Q H:=by
 obtain ⟨W,w0,t⟩:=h;refine ⟨W,w0,fun i m H w=>(t i m H w).imp id fun z=>⟨z.1,fun x f y os d=>?_⟩⟩;obtain ⟨p,a,b,e,s,q⟩:=z.2 x f y
 match os,d with
 | [o,g],_=>exact ⟨p,_,e,s,rfl,a,[b],rfl,b,[],rfl,rfl,⟨[some a,some b],rfl,rfl⟩,q⟩
theorem yvN {X:Cx} ix j (w:X.calm=true) (A:PI X (.Tuple [.Name x z,.Name x2 m] q u) iter t) (p:FrOk X scope ix j)
  (E:∀ o C c d fp b,PE (cxC X scope o C (x::x2::j) c d fp b) elt te)
  (F:∀ o C c d fp b,PTs (cxC X scope o C (x::x2::j) c d fp b) cs tc)
  (l:(x::x2::j).Nodup) (g:scope.kind=.function) (i:∀ y∈scope.names,y.2≠.cell)
  (e:∀ y∈scope.names,y.2=.local->scope.names.lookup y.1=some .local) (f:∀ y∈scope.names,y.2=.free->y.1∈j) (s:scope.names.lookup x=some .local) (k:scope.names.lookup x2=some .local)
  (hs:∀ v,foldedSetIterable iter X.env v=pure v):PE X (.ListComp elt [⟨.Tuple [.Name x z,.Name x2 m] q u,iter,cs,0⟩] scope n) (yxA X.K t ix tc te):=ypi (xs:=[x,x2]) (gt:=yEJ X.K 2 _) ix j w A p (fun o C c d fp b=>ywL w (yjT (yjS l rfl (.inl (lookup_relabel_local s)) (.inr (lookup_relabel_local s))) (yjT (yjS l rfl (.inl (lookup_relabel_local k)) (.inr (lookup_relabel_local k))) yqG)))
  E F g i e f hs fun _ _ _ h=>⟨_,h,fun _ _ r D B=>yAi (r D B)⟩
end L2
namespace PX
open PySem L2 PySem.Spec PyProof.Rows
section
variable {K:Ck}
theorem ymu (g:Good K c W ρ Z) (l:Le K W b) (ix:List Nat) (r:ycC K b x v) (r2:ycC K b x2 v2):Good K b b (yiY ix ρ x x2) (yjD ix Z v v2) where
 le:=.refl l.ok
 len:=by simp [yiY,yjD]
 val:=fun j y e=>by
  cases j with
  | zero=>simp [yiY] at e;subst e;exact ⟨v,rfl,r⟩
  | succ j =>
  cases j with
  | zero=>simp [yiY] at e;subst e;exact ⟨v2,rfl,r2⟩
  | succ j =>
   have e:(ix.map (yoK ρ))[j]?=some (.val y):=e;rw [getElem?_map] at e;cases ei:ix[j]? with
   | none=>rw [ei] at e;cases e
   | some i =>
    rw [ei] at e;have e:=Option.some.inj e;unfold yoK at e;split at e
    .rename_i z hz;cases e;obtain ⟨w,h1,h2⟩:=g.val i _ hz;exact ⟨w,by show (ix.map _)[j]?=_;simp_all,l.rep h2⟩
    .cases e
 own:=fun j d e=>by
  cases j with
  | zero=>simp [yiY] at e
  | succ j =>
  cases j with
  | zero=>simp [yiY] at e
  | succ j =>
   have e:(ix.map (yoK ρ))[j]?=some (.own d):=e;rw [getElem?_map] at e;cases ei:ix[j]? with
   | none=>rw [ei] at e;cases e
   | some i =>
    rw [ei] at e;have e:=Option.some.inj e;unfold yoK at e;split at e<;>cases e
 ne:=fun j k d d' _ e _=>by
  cases j with
  | zero=>simp [yiY] at e
  | succ j =>
  cases j with
  | zero=>simp [yiY] at e
  | succ j =>
   have e:(ix.map (yoK ρ))[j]?=some (.own d):=e;rw [getElem?_map] at e;cases ei:ix[j]? with
   | none=>rw [ei] at e;cases e
   | some i =>
    rw [ei] at e;have e:=Option.some.inj e;unfold yoK at e;split at e<;>cases e
theorem ysI ix (a:SndI K N T) (c:yjr K tA eA) (b:ybH K C B):ykg K (yxA K.K N ix tA C) (ymq T ix eA B):=by
 intro W0 W ρ j Q d h' F e q;obtain ⟨xs,h1,e1,G⟩:=yj e;split at G
 .rename_i t;obtain ⟨zs,h2,e2,f2⟩:=yj G;cases f2;refine a W0 W ρ j _ xs h1 F e1 fun J W1 w1 s H D S=>ykk (ST:=fun x P k g=>∃ p a b,x=.ref p/\SqT K.K P p [a,b]/\tA (yjD ix j a b) P fun k' O=>if k'=true then C (yjD ix j a b) O k else g O) xs.length (fun i h r=>yzM eA B _ (xs.drop i) h=some (r,h')) s.ok (le_of_lt t) S (w1 ▸ e2) (fun i n r l m f=>?_) (fun n r l f=>?_) fun n u l f X n2 hd rd=>?_
  .refine ⟨H.go i n l.lf l.ok m,fun v H2 hy k g hk hg=>?_⟩;obtain ⟨rfl,x,U,L⟩:=H.yld i n v H2 l.lf l.ok m hy;rw [List.getElem?_eq_getElem m] at U;cases U;rw [List.drop_eq_getElem_cons m] at f;unfold yzM at f;split at f
   .rename_i va vb ev;obtain ⟨k0,h0,E,f0⟩:=yj f;rw [ev] at L;obtain ⟨pa,vs,rfl,I,A⟩:=L;obtain ⟨wa,wr,rfl,M,rr⟩:=A;obtain ⟨wb,we,rfl,R,Z⟩:=rr;cases Z;refine ⟨pa,wa,wb,rfl,I.elim (fun h=>SqT.of (l.ok.le _ _ h)) .inr,?_⟩;refine c n n _ _ _ k0 h0 (ymu F (s.trans l) ix M R) E fun W2 w2 o=>?_
    subst w2;cases k0 with
    | false=>exact hg W2 o f0
    | true =>
     rw [if_pos rfl] at f0 ⊢;obtain ⟨y,h3,k1,f3⟩:=yj f0;obtain ⟨ys,h4,k2,f4⟩:=yj f3;cases f4;exact b W2 W2 _ _ _ y h3 (ymu F (s.trans (l.trans o)) ix (o.rep M) (o.rep R)) k1 fun w W3 w3 Y r3=>hk w y ys W3 (o.trans Y) rfl r3 (w3 ▸ k2)
   .cases f
  .rw [List.drop_length] at f;cases f;exact ⟨rfl,H.stop n l.lf l.ok⟩
  .rw [List.drop_length] at f;cases f;exact q D n rfl (s.trans l) X (s.fresh S) (fun z=>by cases z) ⟨n2,u,hd,rd⟩
 .cases G
theorem yAj:yjr K yEW yDh:=fun W0 W ρ Z Q k h g e q=>by cases e;exact q W rfl (.refl g.ok)
end
variable {X:Cx}{A:Nat->Addr}{x:Str}
theorem yvO {elt iter:Expr}{p j r:Pos}{s:Nat}{x2:Str}{scope:Scope}{k:Pos}{q:XA}{xe:XE}{ix:List Nat} i (u:ZI X A (.Tuple [.Name x p,.Name x2 j] s r) iter q) (z:∀ l C c d fp b,ZE (cxC X scope l C (x::x2::i) c d fp b) A elt xe) (t:X.calm=true:=by rfl) (m:FrOk X scope ix i:=by repeat' first|exact True.intro|exact rfl|refine And.intro ?_ ?_) (n:(x::x2::i).Nodup:=by rfl') (g:scope.kind=.function:=by rfl) (h:∀ y∈scope.names,y.2≠.cell:=by rfl') (e:∀ y∈scope.names,y.2=.local->scope.names.lookup y.1=some .local:=by rfl') (f:∀ y∈scope.names,y.2=.free->y.1∈i:=by rfl') (w:scope.names.lookup x=some .local:=by rfl) (o:scope.names.lookup x2=some .local:=by rfl) (hs:∀ v,foldedSetIterable iter X.env v=pure v:=by exact fun _=>rfl):ZO X A (.ListComp elt [⟨.Tuple [.Name x p,.Name x2 j] s r,iter,[],0⟩] scope k) (ymq q ix yDh xe) :=
 wO (yvN ix i t u.of m (fun l C c d fp b=>(z l C c d fp b).of) (fun l C c d fp b=>.nil) n g h e f w o hs) (ysI ix sI yAj sE)
end PX
namespace L2
open PySem PySem.Spec PyProof.Rows
noncomputable def yDy:R2:=fun x y H Q=>∃ a,x=.bl a/\y=.bl true/\Q (.bl (!a)) H
theorem yAk:OpR X (compareOp .IsNot) yDy:=by intro c s Z H x y v u Q I e d h;obtain ⟨a,rfl,rfl,q⟩:=h;cases e;cases d;exact isnot_bool (ybp I q (by cases a<;>rfl))
end L2
namespace PX
open PySem L2
variable {K:Ck}
noncomputable def yvP:P2:=fun x y h=>match x,y with|.bl a,.bl true=>some (.bl (!a),h)|_,_=>none
theorem yDz:yvP (.bl a) (.bl true) h=some (.bl (!a),h):=id rfl
theorem yDA:yck K yDy yvP:=by
 intro W x y v u Q z h' w rx ry e q;unfold yvP at e;split at e
 .cases e;exact ⟨_,rx,ry,q _ W rfl (.refl w) rfl⟩
 .cases e
end PX
namespace My
open PySem L2 PX
theorem yHN:("":Str).length=0:=by rfl'
theorem yHO:(" ; ":Str).length=3:=by rfl'
theorem yAl:("abcdefgh":Str).length=8:=by rfl'
section
def sl_ (s:String):Array (Lean.TSyntax `Lean.Parser.Tactic.simpLemma):=(s.splitOn " ").toArray.map fun s=>⟨Lean.mkNode `Lean.Parser.Tactic.simpLemma #[Lean.mkNullNode,Lean.mkNullNode,Lean.mkIdent s.toName]⟩
local macro_rules | `(tactic| simpa [$ls,*])=>`(tactic| simp only [$(sl_ "ybo yFE yCy yrM yCz x_c yEQ yFG yIp yHz yzj yxf yCA yFH yIq yFI yIr yve yCB yFJ yFK yzk yzl yFL x_call yIs yFM yER yzm yCC yCD yeB yib yFN yrN yrO yzn yrP yCE yCF yCG yzo yCH yFO yFP yFQ yFR ynJ yzp yFS yFT x_i yIt ykl yCI yCJ yFU yFV yFW yFX yFY yFZ yCK yxh yCL yGa yzq yGb yGc yCM yzr yGd yGe yCN ymf yCO yCP yzs yrR yFF bind_some Option.bind_none List.set_cons_zero List.set_cons_succ length_cons length_nil decide_eq_true_eq Bool.not_eq_true' decide_eq_false_iff_not if_true if_false ite_true ite_false and_self Int.reducePow Int.reduceToNat Int.reduceLT Int.reduceLE Int.reduceNeg Int.reduceAdd Int.reduceSub Nat.reduceLT Nat.reduceLeDiff Nat.reduceAdd true_and and_true reduceIte Nat.reduceEqDiff eq_self yET yGo yHB yHC yHD yGk yGl yGm yGn Int.reduceEq Bool.not_true Bool.not_false yAl"),*,$ls,*])
local macro_rules | `(tactic| symm)=>`(tactic| simpa [ybo])
noncomputable def tbO (cs:List Nat):List (Nat×Nat×Bool):=cs.flatMap fun i=>cs.map fun j=>(i,j,i == j)
def yer:List (Nat×Nat×Bool):=tbO [1,2,3,4,5,6,7,8,9]
def yfT:List PV->AH->Option (Nd×AH):=ymY 1 11 (ym (ycy [11] 0 "stack" (ylr (yeU (yb (ylr (ypX)) (yh))))) (ycy [11] 0 "last_seen" (ylr (ypX))))
def yeF:Fn:=ybg 4 (ym (ybs (xOp (ycM) (yY [11] "stack" (ye 0)) (xUn yCo (xC (.int 1)))) (yv 3)) (ykr (ye 3) (ye 1) (ye 2)))
def yes:Fn:=ybg 3 (ym (ykx true (yY [11] "stack" (ye 0)) (yv 2) (ybG (yt (yBo false (ye 1) (ye 2))) (yO (yid (ye 2) (ye 1))) (yS))) (yO (xC .non)))
def yeG:Fn:=ybg 1 (ybf (xBM yhb (yiX) (yY [11] "stack" (ye 0)) (yb (ylr (ypX)) (yh))))
def ydW:Fn:=ybg 3 (ym (ybs (xBM yhb (yhv) (yY [11] "stack" (ye 0)) (yh)) (yv 1)) (ym (ybs (xOp (ycM) (yY [11] "stack" (ye 0)) (xUn yCo (xC (.int 1)))) (yv 2)) (ybf (xBM yse (yDb) (ye 2) (yb (ye 1) (yh))))))
def yfB:Fn:=ybg 1 (ybf (xBM yhb (yhv) (yY [11] "stack" (ye 0)) (yh)))
def ygC:Fn:=ybg 3 (ykr (yY [11] "last_seen" (ye 0)) (ye 1) (ye 2))
def yfi:Fn:=ybg 1 (yO (xFz (yjA (yY [11] "last_seen" (ye 0)))))
def yeH:Fn:=ybg 2 (ym (ybs (xOp (ycM) (yY [11] "stack" (ye 0)) (xC (.int 0))) (yv 1)) (yO (xFz (yjA (ye 1)))))
def yhM:Fn:=ybg 3 (ym (ybG (yt (xOp (oEq) (ye 0) (xC (.str "plus")))) (yO (xOp oMod (xOp yeP (ye 1) (ye 2)) (xC (.int 18446744073709551616)))) (yS)) (ym (ybG (yt (xOp (oEq) (ye 0) (xC (.str "minus")))) (yO (xOp oMod (xOp ytU (ye 1) (ye 2)) (xC (.int 18446744073709551616)))) (yS)) (ym (ybG (yt (xOp (oEq) (ye 0) (xC (.str "times")))) (yO (xOp oMod (xOp yBl (ye 1) (ye 2)) (xC (.int 18446744073709551616)))) (yS)) (ym (ybG (yt (xOp (oEq) (ye 0) (xC (.str "less")))) (yO (xIf (yt (xOp (oLt) (ye 1) (ye 2))) (xC (.int 1)) (xC (.int 0)))) (yS)) (yO (xIf (yt (xOp (oEq) (ye 1) (ye 2))) (xC (.int 1)) (xC (.int 0))))))))
def yet:Fn:=ybg 1 (yO (ykh (xCB (yiW yer) (yb (ye 0) (yb (xC (.ty "int")) (yh)))) (yyA (xCB (yiW yer) (yb (ye 0) (yb (xC (.ty "bool")) (yh)))))))
def ydc:Fn:=ybg 1 (yO (ykh (yJ yet (yb (ye 0) (yh))) (yfM (oLe) (oLt) (xC (.int 0)) (ye 0) (xC (.int 18446744073709551616)))))
def ydn:Fn:=ybg 2 (yO (xCB (ytW) (yb (xFz (yfd (xIS (ye 0)) [1] (xOp (yEO) (ye 0) (ye 1)))) (yh))))
def yeI:Fn:=ybg 2 (ym (ybG (xOr (yjs (yt (yfM (oLe) (oLe) (xC (.int 1)) (xCB (ynG) (yb (ye 0) (yh))) (xC (.int 20))))) (yjs (yt (yJ ydn (yb (ye 0) (yb (xC (.str "0123456789")) (yh))))))) (yO (xC .non)) (yS)) (ym (ybG (yyB (yt (xOp (oEq) (xOp (yrE) (ye 0) (xC (.int 0))) (xC (.str "0")))) (yt (xOp (oNe) (ye 0) (xC (.str "0"))))) (yO (xC .non)) (yS)) (ym (ybs (xCB (yrI) (yb (ye 0) (yh))) (yv 1)) (yO (xIf (yt (xOp (oLt) (ye 1) (xC (.int 18446744073709551616)))) (ye 1) (xC .non))))))
def yio:Fn:=ybg 1 (yO (xOp (yGh false) (ye 0) (xC (.tup [.str "plus",.str "minus",.str "times",.str "less",.str "same"]))))
def yip:Fn:=ybg 1 (yO (ykh (xOp (oEq) (xCB (ynG) (yb (ye 0) (yh))) (xC (.int 1))) (xOp (yEO) (ye 0) (xC (.str "abcdefgh")))))
def ydX:Fn:=ybg 1 (yO (xBM isStr (ynH) (xC (.str "abcdefgh")) (yb (ye 0) (yh))))
def yiq:Fn:=ybg 1 (yO (ykh (yfM (oLe) (oLe) (xC (.int 1)) (xCB (ynG) (yb (ye 0) (yh))) (xC (.int 8))) (yJ ydn (yb (ye 0) (yb (xC (.str "abcdefghijklmnopqrstuvwxyz")) (yh))))))
def yfj:List PV->AH->Option (Nd×AH):=ymY 3 12 (ym (ycy [12] 0 "held" (ylr (yhX (ybc) (yb (ye 1) (yh))))) (ym (ycy [12,14] 0 "width" (ye 2)) (ycy [12] 0 "log" (ylr (yge yfT (yh))))))
def yba:Fn:=ybg 2 (yO (xOp (ycM) (yY [12] "held" (ye 0)) (yJ ydX (yb (ye 1) (yh)))))
def ybY:Fn:=ybg 3 (ymi (yY [12] "held" (ye 0)) (yJ ydX (yb (ye 1) (yh))) (ye 2))
def ybI:Fn:=ybg 2 (yO (xOp oMod (yg 12 "held_in" yba (ye 0) (yb (ye 1) (yh))) (yY [12,14] "width" (ye 0))))
def ycc:Fn:=ybg 5 (ybf (yg 12 "hold" ybY (ye 0) (yb (ye 2) (yb (yJ yhM (yb (ye 1) (yb (yg 12 "held_in" yba (ye 0) (yb (ye 3) (yh))) (yb (yg 12 "held_in" yba (ye 0) (yb (ye 4) (yh))) (yh))))) (yh)))))
def ycR:Fn:=ybg 3 (ybf (yg 11 "write" yeF (yY [12] "log" (ye 0)) (yb (yg 12 "box_at" ybI (ye 0) (yb (ye 1) (yh))) (yb (yg 12 "held_in" yba (ye 0) (yb (ye 2) (yh))) (yh)))))
def ydh:Fn:=ybg 2 (yO (xOp (yze) (yg 11 "own" yes (yY [12] "log" (ye 0)) (yb (yg 12 "box_at" ybI (ye 0) (yb (ye 1) (yh))) (yh))) (xC .non)))
def ycn:Fn:=ybg 3 (ybf (yg 12 "hold" ybY (ye 0) (yb (ye 1) (yb (yg 11 "own" yes (yY [12] "log" (ye 0)) (yb (yg 12 "box_at" ybI (ye 0) (yb (ye 2) (yh))) (yh))) (yh)))))
def ycH:Fn:=ybg 5 (ym (ybs (yg 12 "box_at" ybI (ye 0) (yb (ye 2) (yh))) (yv 4)) (ym (ybf (yg 11 "see" ygC (yY [12] "log" (ye 0)) (yb (ye 4) (yb (xOp (ycM) (ye 3) (ye 4)) (yh))))) (ybf (yg 12 "hold" ybY (ye 0) (yb (ye 1) (yb (xOp (ycM) (ye 3) (ye 4)) (yh)))))))
def yir:Fn:=ybg 2 (ym (ybG (yt (xOp (oEq) (xOp (ybO) (ye 1) (xC (.int 0))) (xC (.str "wait")))) (yO (xOp (oEq) (xOp (ybO) (ye 0) (xC (.int 0))) (xC (.str "either")))) (yS)) (yO (ykh (xOp (oEq) (xOp (ybO) (ye 0) (xC (.int 0))) (xC (.str "guard"))) (xOp (oEq) (xOp (ybO) (ye 0) (xC (.int 1))) (xOp (ybO) (ye 1) (xC (.int 1)))))))
def yep:List PV->AH->Option (Nd×AH):=ymY 4 12 (ym (xBI 12 yfj (yb (ye 2) (yb (ye 3) (yh)))) (ym (ycy [12] 0 "rows" (ye 1)) (ym (ycy [10,12] 0 "at" (xC (.int 0))) (ym (ycy [12] 0 "seen_stamps" (ylr (ypX))) (ycy [12] 0 "sides" (ylr (yeU (yh))))))))
def ydI:Fn:=ybg 1 (yO (xOp (ycM) (yY [12] "rows" (ye 0)) (yY [10,12] "at" (ye 0))))
def ycE:Fn:=ybg 2 (yO (xCB (yxq) (yb (xFz (yjB (yY [12] "seen_stamps" (ye 0)) [1,0] (xOp (oNe) (xOp (ycM) (ye 1) (ye 0)) (yid (yY [12] "seen_stamps" (ye 2)) (ye 0))))) (yh))))
def ybz:Fn:=ybg 3 (ym (ybs (xCB (ybW) (yb (yY [12] "sides" (ye 0)) (yh))) (yv 2)) (ym (ydy 1000 (yyB (yt (xOp (oGt) (ye 2) (xC (.int 0)))) (yjs (yt (yJ yir (yb (xOp (ybO) (xOp (ycM) (yY [12] "sides" (ye 0)) (xOp ytU (ye 2) (xC (.int 1)))) (xC (.int 0))) (yb (ye 1) (yh))))))) (ybs (xOp ytU (ye 2) (xC (.int 1))) (yv 2))) (yO (ye 2))))
def loB:XS:=(ym (ybG (yt (xOp (oEq) (xOp (ybO) (ye 1) (xC (.int 0))) (xC (.str "take")))) (yO (yg 12 "sees_at" ydh (ye 0) (yb (xOp (ybO) (ye 1) (xC (.int 2))) (yh)))) (yS)) (ym (ybG (xOr (yt (xOp (oEq) (xOp (ybO) (ye 1) (xC (.int 0))) (xC (.str "wait")))) (yt (xOp (oEq) (xOp (ybO) (ye 1) (xC (.int 0))) (xC (.str "throw"))))) (yO (xOp (oEq) (yg 12 "taker_layer" ybz (ye 0) (yb (ye 1) (yh))) (xC (.int 0)))) (yS)) (yO (xOp (oEq) (xOp (ybO) (ye 1) (xC (.int 0))) (xC (.str "lay"))))))
def ybt:Fn:=ybg 2 (ym (ybs (yg 12 "row" ydI (ye 0) (yh)) (yv 1)) loB)
def ydi:Fn:=ybg 5 (ym (ybs (yg 12 "row" ydI (ye 0) (yh)) (yv 3)) (ym (ybs (yg 12 "box_at" ybI (ye 0) (yb (xOp (ybO) (ye 3) (xC (.int 2))) (yh))) (yv 4)) (ym (ykr (yY [12] "seen_stamps" (ye 0)) (ye 4) (xOp (ycM) (ye 2) (ye 4))) (ym (ybf (yg 12 "take_seen" ycH (ye 0) (yb (xOp (ybO) (ye 3) (xC (.int 1))) (yb (xOp (ybO) (ye 3) (xC (.int 2))) (yb (ye 1) (yh)))))) (ym (ycZ [10,12] "at" (ye 0) (xOp yeP (yY [10,12] "at" (ye 0)) (xC (.int 1)))) (yO (ye 4)))))))
def yE:Fn:=ybg 2 (ybG (yt (xOp (oEq) (xOp (ybO) (ye 1) (xC (.int 0))) (xC (.str "let")))) (ybf (yg 12 "hold" ybY (ye 0) (yb (xOp (ybO) (ye 1) (xC (.int 1))) (yb (xOp (ybO) (ye 1) (xC (.int 2))) (yh))))) (ybG (yt (xOp (oEq) (xOp (ybO) (ye 1) (xC (.int 0))) (xC (.str "take")))) (ybf (yg 12 "take_own" ycn (ye 0) (yb (xOp (ybO) (ye 1) (xC (.int 1))) (yb (xOp (ybO) (ye 1) (xC (.int 2))) (yh))))) (ybG (yt (xOp (oEq) (xOp (ybO) (ye 1) (xC (.int 0))) (xC (.str "put")))) (ybf (yg 12 "do_put" ycR (ye 0) (yb (xOp (ybO) (ye 1) (xC (.int 1))) (yb (xOp (ybO) (ye 1) (xC (.int 2))) (yh))))) (ybf (yg 12 "do_reckon" ycc (ye 0) (yb (xOp (ybO) (ye 1) (xC (.int 0))) (yb (xOp (ybO) (ye 1) (xC (.int 1))) (yb (xOp (ybO) (ye 1) (xC (.int 2))) (yb (xOp (ybO) (ye 1) (xC (.int 3))) (yh))))))))))
def ybR:Fn:=ybg 2 (ybG (yt (xOp (oEq) (xOp (ybO) (ye 1) (xC (.int 0))) (xC (.str "jump")))) (ycZ [10,12] "at" (ye 0) (xOp (ybO) (ye 1) (xC (.int 1)))) (ybG (yt (xOp (oEq) (yg 12 "held_in" yba (ye 0) (yb (xOp (ybO) (ye 1) (xC (.int 1))) (yh))) (xC (.int 0)))) (ycZ [10,12] "at" (ye 0) (xOp (ybO) (ye 1) (xC (.int 2)))) (yS)))
abbrev lvC:XT:=(yt (xOp (oGe) (xCB (ybW) (yb (yY [12] "sides" (ye 0)) (yh))) (ye 2)))
abbrev lvB:XS:=(ym (ybf (xBM yhb (yhv) (yY [12] "sides" (ye 0)) (yh))) (ybf (yg 11 "drop" yfB (yY [12] "log" (ye 0)) (yh))))
def yco:Fn:=ybg 5 (ym (ybs (yg 12 "taker_layer" ybz (ye 0) (yb (ye 1) (yh))) (yv 2)) (ym (ybs (xOp (ycM) (yY [12] "sides" (ye 0)) (xOp ytU (ye 2) (xC (.int 1)))) (yv 3)) (ym (ydy 1000 lvC lvB) (ym (ybs (xOp (ybO) (ye 3) (xC (.int 0))) (yv 4)) (ym (ycZ [12] "held" (ye 0) (ylr (yhX (ybc) (yb (xOp (ybO) (ye 3) (xC (.int 1))) (yh))))) (ym (ycZ [10,12] "at" (ye 0) (xOp (ybO) (ye 4) (xUn yCo (xC (.int 1))))) (yO (ye 4))))))))
def ycI:Fn:=ybg 4 (ym (ybs (yg 12 "held_in" yba (ye 0) (yb (xOp (ybO) (ye 1) (xC (.int 2))) (yh))) (yv 2)) (ym (ybs (yg 12 "leave" yco (ye 0) (yb (ye 1) (yh))) (yv 3)) (ybf (yg 12 "hold" ybY (ye 0) (yb (xOp (ybO) (ye 3) (xC (.int 2))) (yb (ye 2) (yh)))))))
def goS:XS:=(ym (ybf (xBM yhb (yhv) (yY [12] "sides" (ye 0)) (yh))) (ybf (yg 11 "settle" ydW (yY [12] "log" (ye 0)) (yh))))
def goE:XS:=(ym (ybf (xBM yhb (yiX) (yY [12] "sides" (ye 0)) (yb (yen (yb (ye 1) (yb (xFz (yhX (ybc) (yb (yY [12] "held" (ye 0)) (yh)))) (yh)))) (yh)))) (ybf (yg 11 "begin" yeG (yY [12] "log" (ye 0)) (yh))))
def goB:XS:=(ybG (yt (xOp (oEq) (xOp (ybO) (ye 1) (xC (.int 0))) (xC (.str "wait")))) (ybf (yg 12 "leave" yco (ye 0) (yb (ye 1) (yh)))) (ybG (yt (xOp (oEq) (xOp (ybO) (ye 1) (xC (.int 0))) (xC (.str "throw")))) (ybf (yg 12 "throw" ycI (ye 0) (yb (ye 1) (yh)))) (ybG (xOr (yt (xOp (oEq) (xOp (ybO) (ye 1) (xC (.int 0))) (xC (.str "jump")))) (yt (xOp (oEq) (xOp (ybO) (ye 1) (xC (.int 0))) (xC (.str "unless"))))) (ybf (yg 12 "lead" ybR (ye 0) (yb (ye 1) (yh)))) (ybG (xOr (yt (xOp (oEq) (xOp (ybO) (ye 1) (xC (.int 0))) (xC (.str "either")))) (yt (xOp (oEq) (xOp (ybO) (ye 1) (xC (.int 0))) (xC (.str "guard"))))) goE (ybG (yt (xOp (oEq) (xOp (ybO) (ye 1) (xC (.int 0))) (xC (.str "settle")))) goS (ybf (yg 12 "go_plain" yE (ye 0) (yb (ye 1) (yh)))))))))
def yci:Fn:=ybg 2 (ym (ybs (yg 12 "row" ydI (ye 0) (yh)) (yv 1)) (ym (ycZ [10,12] "at" (ye 0) (xOp yeP (yY [10,12] "at" (ye 0)) (xC (.int 1)))) goB))
def ycp:Fn:=ybg 1 (ym (ybG (yt (xOp (oEq) (yY [14] "nth" (ye 0)) (xCB (ybW) (yb (yY [14] "deeds" (ye 0)) (yh))))) (yO (xC (.str "ended"))) (yS)) (yO (xIf (yt (yY [14] "sleeps" (ye 0))) (xC (.str "asleep")) (xC (.str "awake")))))
def ycd:Fn:=ybg 2 (ym (ybs (xIf (yt (xOp (oLt) (yY [14] "nth" (ye 0)) (xCB (ybW) (yb (yY [14] "deeds" (ye 0)) (yh))))) (xOp (ycM) (yY [14] "deeds" (ye 0)) (yY [14] "nth" (ye 0))) (xFz (yeU (yh)))) (yv 1)) (yO (ylr (yge yep (yb (ye 1) (yb (yY [14] "before" (ye 0)) (yb (yY [12,14] "width" (ye 0)) (yh))))))))
def ybS:Fn:=ybg 1 (ym (ycZ [14] "sleeps" (ye 0) (xC (.bl false))) (ycZ [14] "run" (ye 0) (yg 14 "new_run" ycd (ye 0) (yh))))
def ycj:Fn:=ybg 1 (ycZ [14] "sleeps" (ye 0) (xC (.bl true)))
def ydY:Fn:=ybg 2 (ym (ycZ [14] "nth" (ye 0) (xOp yeP (yY [14] "nth" (ye 0)) (xC (.int 1)))) (ym (ycZ [14] "before" (ye 0) (xFz (yhX (ybc) (yb (ye 1) (yh))))) (ycZ [14] "run" (ye 0) (yg 14 "new_run" ycd (ye 0) (yh)))))
def ybT:Fn:=ybg 3 (ym (ycZ [14] "deeds" (ye 0) (xFz (yhX (ybc) (yb (ye 1) (yh))))) (ym (ycZ [12,14] "width" (ye 0) (ye 2)) (ym (ycZ [14] "nth" (ye 0) (xC (.int 0))) (ym (ycZ [14] "sleeps" (ye 0) (xC (.bl false))) (ym (ycZ [14] "before" (ye 0) (xFz (yuC yCt (xFz (yeU (yb (xC (.int 0)) (yh)))) (xCB (ynG) (yb (xC (.str "abcdefgh")) (yh)))))) (ycZ [14] "run" (ye 0) (yg 14 "new_run" ycd (ye 0) (yh))))))))
def yfU:List PV->AH->Option (Nd×AH):=ymY 3 1 (ym (ycy [1,2,3,4,5,7,8] 0 "slot" (ye 1)) (ycy [1] 0 "number" (ye 2)))
def yeu:List PV->AH->Option (Nd×AH):=ymY 5 2 (ym (ycy [2] 0 "word" (ye 1)) (ym (ycy [1,2,3,4,5,7,8] 0 "slot" (ye 2)) (ym (ycy [2] 0 "one" (ye 3)) (ycy [2] 0 "other" (ye 4)))))
def yfk:List PV->AH->Option (Nd×AH):=ymY 3 3 (ym (ycy [1,2,3,4,5,7,8] 0 "slot" (ye 1)) (ycy [3,4] 0 "place" (ye 2)))
def yfV:List PV->AH->Option (Nd×AH):=ymY 3 4 (ym (ycy [3,4] 0 "place" (ye 1)) (ycy [1,2,3,4,5,7,8] 0 "slot" (ye 2)))
def ygD:List PV->AH->Option (Nd×AH):=ymY 4 5 (ym (ycy [1,2,3,4,5,7,8] 0 "slot" (ye 1)) (ym (ycy [5,6,7] 0 "parts" (xFz (yhX (ybc) (yb (ye 2) (yh))))) (ycy [5,6,7] 0 "others" (xFz (yhX (ybc) (yb (ye 3) (yh)))))))
def yev:List PV->AH->Option (Nd×AH):=ymY 3 6 (ym (ycy [5,6,7] 0 "parts" (xFz (yhX (ybc) (yb (ye 1) (yh))))) (ycy [5,6,7] 0 "others" (xFz (yhX (ybc) (yb (ye 2) (yh))))))
def yfW:List PV->AH->Option (Nd×AH):=ymY 5 7 (ym (ycy [5,6,7] 0 "parts" (xFz (yhX (ybc) (yb (ye 1) (yh))))) (ym (ycy [7,8] 0 "name" (ye 2)) (ym (ycy [1,2,3,4,5,7,8] 0 "slot" (ye 3)) (ycy [5,6,7] 0 "others" (xFz (yhX (ybc) (yb (ye 4) (yh))))))))
def yeR:List PV->AH->Option (Nd×AH):=ymY 3 8 (ym (ycy [7,8] 0 "name" (ye 1)) (ycy [1,2,3,4,5,7,8] 0 "slot" (ye 2)))
def yjE:Fn:=ybg 1 (yO (xC (.int 1)))
def ygE:Fn:=ybg 1 (yO (xC (.int 1)))
def yis:Fn:=ybg 1 (yO (xC (.int 1)))
def yjF:Fn:=ybg 1 (yO (xC (.int 1)))
def yhn:Fn:=ybg 1 (yO (xC (.int 1)))
def yit:Fn:=ybg 1 (yO (xC (.int 1)))
mutual
noncomputable def yiu:Nat->Nat->Fn
 | 0,_=>fun _ _=>none
 | n+1,k=>match k with|1=>yjE|2=>ygE|3=>yis|4=>yjF|5=>yiv n|6=>yeJ n|7=>yhf n|8=>yhn|9=>yit|_=>fun _ _=>none
noncomputable def yU:Nat->Fn
 | 0=>fun _ _=>none
 | n+1=>ybg 1 (yO (xCB (yEP) (yb (xFz (yfd (xIL (ye 0)) [] (ynI "long" (yiu n) (ye 0)))) (yh))))
noncomputable def yiv:Nat->Fn
 | 0=>fun _ _=>none
 | n+1=>ybg 1 (yO (xOp yeP (xOp yeP (xC (.int 2)) (yJ (yU n) (yb (yY [5,6,7] "parts" (ye 0)) (yh)))) (yJ (yU n) (yb (yY [5,6,7] "others" (ye 0)) (yh)))))
noncomputable def yeJ:Nat->Fn
 | 0=>fun _ _=>none
 | n+1=>ybg 1 (yO (xOp yeP (xOp yeP (xC (.int 3)) (yJ (yU n) (yb (yY [5,6,7] "parts" (ye 0)) (yh)))) (yJ (yU n) (yb (yY [5,6,7] "others" (ye 0)) (yh)))))
noncomputable def yhf:Nat->Fn
 | 0=>fun _ _=>none
 | n+1=>ybg 1 (yO (xOp yeP (xOp yeP (xC (.int 3)) (yJ (yU n) (yb (yY [5,6,7] "parts" (ye 0)) (yh)))) (yJ (yU n) (yb (yY [5,6,7] "others" (ye 0)) (yh)))))
end
def yho:Fn:=ybg 1 (ym (ybG (yt (xCB (yiW yer) (yb (ye 0) (yb (xC (.cls 1)) (yh))))) (yO (xFz (yeU (yb (yen (yb (xC (.str "let")) (yb (yY [1,2,3,4,5,7,8] "slot" (ye 0)) (yb (yY [1] "number" (ye 0)) (yh))))) (yh))))) (yS)) (ym (ybG (yt (xCB (yiW yer) (yb (ye 0) (yb (xC (.cls 2)) (yh))))) (yO (xFz (yeU (yb (yen (yb (yY [2] "word" (ye 0)) (yb (yY [1,2,3,4,5,7,8] "slot" (ye 0)) (yb (yY [2] "one" (ye 0)) (yb (yY [2] "other" (ye 0)) (yh)))))) (yh))))) (yS)) (ym (ybG (yt (xCB (yiW yer) (yb (ye 0) (yb (xC (.cls 3)) (yh))))) (yO (xFz (yeU (yb (yen (yb (xC (.str "take")) (yb (yY [1,2,3,4,5,7,8] "slot" (ye 0)) (yb (yY [3,4] "place" (ye 0)) (yh))))) (yh))))) (yS)) (ym (ybG (yt (xCB (yiW yer) (yb (ye 0) (yb (xC (.cls 4)) (yh))))) (yO (xFz (yeU (yb (yen (yb (xC (.str "put")) (yb (yY [3,4] "place" (ye 0)) (yb (yY [1,2,3,4,5,7,8] "slot" (ye 0)) (yh))))) (yh))))) (yS)) (ym (ybG (yt (xCB (yiW yer) (yb (ye 0) (yb (xC (.cls 8)) (yh))))) (yO (xFz (yeU (yb (yen (yb (xC (.str "throw")) (yb (yY [7,8] "name" (ye 0)) (yb (yY [1,2,3,4,5,7,8] "slot" (ye 0)) (yh))))) (yh))))) (yS)) (ym (ybG (yt (xCB (yiW yer) (yb (ye 0) (yb (xC (.cls 9)) (yh))))) (yO (xFz (yeU (yb (yen (yb (xC (.str "wait")) (yh))) (yh))))) (yS)) (yO (xFz (yeU (yh))))))))))
def yeK:Fn:=ybg 2 (ym (ybG (yt (xCB (yiW yer) (yb (ye 0) (yb (xC (.cls 5)) (yh))))) (yO (yen (yb (xC (.str "unless")) (yb (yY [1,2,3,4,5,7,8] "slot" (ye 0)) (yb (ye 1) (yh)))))) (yS)) (ym (ybG (yt (xCB (yiW yer) (yb (ye 0) (yb (xC (.cls 6)) (yh))))) (yO (yen (yb (xC (.str "either")) (yb (ye 1) (yh))))) (yS)) (yO (yen (yb (xC (.str "guard")) (yb (yY [7,8] "name" (ye 0)) (yb (yY [1,2,3,4,5,7,8] "slot" (ye 0)) (yb (ye 1) (yh)))))))))
def ydj:Fn:=ybg 2 (ym (ybG (yt (xCB (yiW yer) (yb (ye 0) (yb (xC (.cls 5)) (yh))))) (yO (xFz (yeU (yb (yen (yb (xC (.str "jump")) (yb (ye 1) (yh)))) (yh))))) (yS)) (yO (xFz (yeU (yb (yen (yb (xC (.str "settle")) (yh))) (yb (yen (yb (xC (.str "jump")) (yb (ye 1) (yh)))) (yh)))))))
def ptT:XT:=xOr (yt (xCB (yiW yer) (yb (ye 0) (yb (xC (.cls 5)) (yh))))) (xOr (yt (xCB (yiW yer) (yb (ye 0) (yb (xC (.cls 6)) (yh))))) (yt (xCB (yiW yer) (yb (ye 0) (yb (xC (.cls 7)) (yh))))))
mutual
noncomputable def ycq:Nat->Fn
 | 0=>fun _ _=>none
 | n+1=>ybg 4 (ym (ygb (yeU (yh)) 2) (ym (yiV (xIL (ye 0)) (yv 3) (ynP 2 (yJ (ydJ n) (yb (ye 3) (yb (xOp yeP (ye 1) (ypY 2)) (yh)))))) (yrt 2 (yO (ye 2)))))
noncomputable def ydJ:Nat->Fn
 | 0=>fun _ _=>none
 | n+1=>ybg 2 (ym (ybG (ptT) (yO (yJ (ydZ n) (yb (ye 0) (yb (ye 1) (yh))))) (yS)) (yO (yJ yho (yb (ye 0) (yh)))))
noncomputable def ydZ:Nat->Fn
 | 0=>fun _ _=>none
 | n+1=>ybg 6 (ym (ybs (xOp yeP (ye 1) (ynI "long" (yiu 45) (ye 0))) (yv 2)) (ym (ybs (xOp ytU (ye 2) (yJ (yU 45) (yb (yY [5,6,7] "others" (ye 0)) (yh)))) (yv 3)) (ym (ybs (yJ (ycq n) (yb (yY [5,6,7] "parts" (ye 0)) (yb (xOp yeP (ye 1) (xC (.int 1))) (yh)))) (yv 4)) (ym (ybs (yJ (ycq n) (yb (yY [5,6,7] "others" (ye 0)) (yb (ye 3) (yh)))) (yv 5)) (yO (xFz (yuC yrG (xFz (yuC yrG (xFz (yuC yrG (xFz (yeU (yb (yJ yeK (yb (ye 0) (yb (ye 3) (yh)))) (yh)))) (ye 4))) (yJ ydj (yb (ye 0) (yb (ye 2) (yh)))))) (ye 5))))))))
end
def yew:Fn:=ybg 1 (yO (xFz (yuC yrG (yJ (ycq 45) (yb (ye 0) (yb (xC (.int 0)) (yh)))) (xFz (yeU (yb (yen (yb (xC (.str "lay")) (yh))) (yh)))))))
def ydd:List PV->AH->Option (Nd×AH):=ymY 2 10 (ym (ycy [10] 0 "words" (xFz (yhX (ybc) (yb (ye 1) (yh))))) (ycy [10,12] 0 "at" (xC (.int 0))))
def yfC:Fn:=ybg 1 (ym (ybG (yt (xOp (oEq) (ye 0) (xC (.str "")))) (yO (xFz (yeU (yh)))) (yS)) (yO (xBM isStr (ypf) (ye 0) (yb (xC (.str " ")) (yh)))))
def ybw:Fn:=ybg 1 (ym (ybG (yt (xOp (oLt) (yY [10,12] "at" (ye 0)) (xCB (ybW) (yb (yY [10] "words" (ye 0)) (yh))))) (yO (xOp (ycM) (yY [10] "words" (ye 0)) (yY [10,12] "at" (ye 0)))) (yS)) (yO (xC .non)))
def ybx:Fn:=ybg 2 (ym (ybs (yg 10 "ahead" ybw (ye 0) (yh)) (yv 1)) (ym (ybG (yt (xOp (yze) (ye 1) (xC .non))) (yfJ) (yS)) (ym (ycZ [10,12] "at" (ye 0) (xOp yeP (yY [10,12] "at" (ye 0)) (xC (.int 1)))) (yO (ye 1)))))
def yQ:Fn:=ybg 3 (ym (ybs (yg 10 "taken" ybx (ye 0) (yh)) (yv 2)) (ybG (yt (xOp (oNe) (ye 2) (ye 1))) (yfJ) (yS)))
def yy:Fn:=ybg 2 (ym (ybs (yg 10 "taken" ybx (ye 0) (yh)) (yv 1)) (ym (ybG (yjs (yt (yJ yip (yb (ye 1) (yh))))) (yfJ) (yS)) (yO (ye 1))))
def ybC:Fn:=ybg 2 (ym (ybs (yg 10 "taken" ybx (ye 0) (yh)) (yv 1)) (ym (ybG (yjs (yt (yJ yiq (yb (ye 1) (yh))))) (yfJ) (yS)) (yO (ye 1))))
def ybJ:Fn:=ybg 3 (ym (ybs (yg 10 "taken" ybx (ye 0) (yh)) (yv 1)) (ym (ybs (yJ yeI (yb (ye 1) (yh))) (yv 2)) (ym (ybG (yt (xOp (yze) (ye 2) (xC .non))) (yfJ) (yS)) (yO (ye 2)))))
def ybK:Fn:=ybg 5 (ym (ybs (yg 10 "slot_taken" yy (ye 0) (yh)) (yv 2)) (ym (ybs (yg 10 "slot_taken" yy (ye 0) (yh)) (yv 3)) (ym (ybs (yg 10 "slot_taken" yy (ye 0) (yh)) (yv 4)) (yO (xFz (yge yeu (yb (ye 1) (yb (ye 2) (yb (ye 3) (yb (ye 4) (yh)))))))))))
def yz:Fn:=ybg 5 (ym (ybG (yt (xOp (oEq) (ye 1) (xC (.str "let")))) (ym (ybs (yg 10 "slot_taken" yy (ye 0) (yh)) (yv 2)) (yO (xFz (yge yfU (yb (ye 2) (yb (yg 10 "number_taken" ybJ (ye 0) (yh)) (yh))))))) (yS)) (ym (ybG (yt (xOp (oEq) (ye 1) (xC (.str "take")))) (ym (ybs (yg 10 "slot_taken" yy (ye 0) (yh)) (yv 2)) (yO (xFz (yge yfk (yb (ye 2) (yb (yg 10 "slot_taken" yy (ye 0) (yh)) (yh))))))) (yS)) (ym (ybG (yt (xOp (oEq) (ye 1) (xC (.str "put")))) (ym (ybs (yg 10 "slot_taken" yy (ye 0) (yh)) (yv 3)) (yO (xFz (yge yfV (yb (ye 3) (yb (yg 10 "slot_taken" yy (ye 0) (yh)) (yh))))))) (yS)) (ym (ybG (yt (xOp (oEq) (ye 1) (xC (.str "throw")))) (ym (ybs (yg 10 "name_taken" ybC (ye 0) (yh)) (yv 4)) (yO (xFz (yge yeR (yb (ye 4) (yb (yg 10 "slot_taken" yy (ye 0) (yh)) (yh))))))) (yS)) (ym (ybG (yt (xOp (oEq) (ye 1) (xC (.str "wait")))) (yO (xFz (yrK 9))) (yS)) (ym (ybG (yt (yJ yio (yb (ye 1) (yh)))) (yO (yg 10 "reckon_taken" ybK (ye 0) (yb (ye 1) (yh)))) (yS)) (yfJ)))))))
def ykE:XT:=yt (xOp (oEq) (yg 10 "ahead" ybw (ye 0) (yh)) (xC (.str ";")))
mutual
noncomputable def ybD:Nat->Fn
 | 0=>fun _ _=>none
 | n+1=>ybg 3 (ym (ybG (xOr (yt (xOp (yze) (yg 10 "ahead" ybw (ye 0) (yh)) (xC .non))) (yt (xOp (oEq) (yg 10 "ahead" ybw (ye 0) (yh)) (xC (.str ")"))))) (yO (xFz (yeU (yh)))) (yS)) (ym (ygb (yeU (yb (yg 10 "part_taken" (yF n) (ye 0) (yb (ye 1) (yh))) (yh))) 2) (ym (ydy 100 (ykE) (ym (ybf (yg 10 "pass_over" yQ (ye 0) (yb (xC (.str ";")) (yh)))) (yeV 2 (yg 10 "part_taken" (yF n) (ye 0) (yb (ye 1) (yh)))))) (yrt 2 (yO (ye 2))))))
noncomputable def yr:Nat->Fn
 | 0=>fun _ _=>none
 | n+1=>ybg 3 (ym (ybf (yg 10 "pass_over" yQ (ye 0) (yb (xC (.str "(")) (yh)))) (ym (ybs (yg 10 "list_taken" (ybD n) (ye 0) (yb (ye 1) (yh))) (yv 2)) (ym (ybf (yg 10 "pass_over" yQ (ye 0) (yb (xC (.str ")")) (yh)))) (yO (ye 2)))))
noncomputable def yF:Nat->Fn
 | 0=>fun _ _=>none
 | n+1=>ybg 3 (ym (ybG (yt (xOp (oGt) (ye 1) (xC (.int 8)))) (yfJ) (yS)) (ym (ybs (yg 10 "taken" ybx (ye 0) (yh)) (yv 2)) (ym (ybG (yt (xOp (oEq) (ye 2) (xC (.str "if")))) (yO (yg 10 "if_taken" (ybU n) (ye 0) (yb (xOp yeP (ye 1) (xC (.int 1))) (yh)))) (yS)) (ym (ybG (yt (xOp (oEq) (ye 2) (xC (.str "either")))) (yO (yg 10 "either_taken" (ybn n) (ye 0) (yb (xOp yeP (ye 1) (xC (.int 1))) (yh)))) (yS)) (ym (ybG (yt (xOp (oEq) (ye 2) (xC (.str "try")))) (yO (yg 10 "try_taken" (ybL n) (ye 0) (yb (xOp yeP (ye 1) (xC (.int 1))) (yh)))) (yS)) (yO (yg 10 "plain_taken" yz (ye 0) (yb (ye 2) (yh)))))))))
noncomputable def ybU:Nat->Fn
 | 0=>fun _ _=>none
 | n+1=>ybg 5 (ym (ybs (yg 10 "slot_taken" yy (ye 0) (yh)) (yv 2)) (ym (ybs (yg 10 "side_taken" (yr n) (ye 0) (yb (ye 1) (yh))) (yv 3)) (ym (ybf (yg 10 "pass_over" yQ (ye 0) (yb (xC (.str "else")) (yh)))) (ym (ybs (yg 10 "side_taken" (yr n) (ye 0) (yb (ye 1) (yh))) (yv 4)) (yO (xFz (yge ygD (yb (ye 2) (yb (ye 3) (yb (ye 4) (yh)))))))))))
noncomputable def ybn:Nat->Fn
 | 0=>fun _ _=>none
 | n+1=>ybg 4 (ym (ybs (yg 10 "side_taken" (yr n) (ye 0) (yb (ye 1) (yh))) (yv 2)) (ym (ybf (yg 10 "pass_over" yQ (ye 0) (yb (xC (.str "or")) (yh)))) (ym (ybs (yg 10 "side_taken" (yr n) (ye 0) (yb (ye 1) (yh))) (yv 3)) (yO (xFz (yge yev (yb (ye 2) (yb (ye 3) (yh)))))))))
noncomputable def ybL:Nat->Fn
 | 0=>fun _ _=>none
 | n+1=>ybg 6 (ym (ybs (yg 10 "side_taken" (yr n) (ye 0) (yb (ye 1) (yh))) (yv 2)) (ym (ybf (yg 10 "pass_over" yQ (ye 0) (yb (xC (.str "on")) (yh)))) (ym (ybs (yg 10 "name_taken" ybC (ye 0) (yh)) (yv 3)) (ym (ybs (yg 10 "slot_taken" yy (ye 0) (yh)) (yv 4)) (ym (ybs (yg 10 "side_taken" (yr n) (ye 0) (yb (ye 1) (yh))) (yv 5)) (yO (xFz (yge yfW (yb (ye 2) (yb (ye 3) (yb (ye 4) (yb (ye 5) (yh)))))))))))))
end
def ymv:Fn:=ybg 3 (ym (ybs (ylr (yge ydd (yb (yJ yfC (yb (ye 0) (yh))) (yh)))) (yv 1)) (ym (ybs (yg 10 "list_taken" (ybD 45) (ye 1) (yb (xC (.int 0)) (yh))) (yv 2)) (ym (ybG (yt (xOp (yuW) (yg 10 "ahead" ybw (ye 1) (yh)) (xC .non))) (yfJ) (yS)) (ym (ybG (yt (xOp (oGt) (xOp yeP (yJ (yU 45) (yb (ye 2) (yh))) (xC (.int 1))) (xC (.int 80)))) (yfJ) (yS)) (yO (ye 2))))))
def ydD:Fn:=ybg 1 (ym (ybG (yjs (yt (yfM (oLe) (oLe) (xC (.int 1)) (xCB (ybW) (yb (ye 0) (yh))) (xC (.int 16))))) (yfJ) (yS)) (ybG (yjs (yt (xCB (ytW) (yb (xFz (yfd (xIL (ye 0)) [] (yJ ydc (yb (ye 0) (yh))))) (yh))))) (yfJ) (yS)))
def ycr:Fn:=ybg 1 (yO (xFz (yfd (xIL (ye 0)) [] (yJ yew (yb (yJ ymv (yb (ye 0) (yh))) (yh))))))
def ycs:Fn:=ybg 1 (ym (ybG (yjs (yt (yfM (oLe) (oLe) (xC (.int 1)) (xCB (ybW) (yb (ye 0) (yh))) (xC (.int 8))))) (yfJ) (yS)) (ym (ybG (yt (xCB (yxq) (yb (xFz (yfd (xIL (ye 0)) [] (xOp (oGt) (xCB (ybW) (yb (ye 0) (yh))) (xC (.int 6))))) (yh)))) (yfJ) (yS)) (yO (xFz (yfd (xIL (ye 0)) [] (yJ ycr (yb (ye 0) (yh))))))))
def yct:Fn:=ybg 3 (ym (ybf (yJ ydD (yb (ye 1) (yh)))) (ym (ycZ [15] "numbers" (ye 0) (ylr (yhX (ybc) (yb (ye 1) (yh))))) (ym (ycZ [15] "marks" (ye 0) (ylr (yuC yCt (xFz (yeU (yb (xC (.int 0)) (yh)))) (xCB (ybW) (yb (ye 1) (yh)))))) (ym (ycZ [15] "crew" (ye 0) (ylr (yfd (xIL (yJ ycs (yb (ye 2) (yh)))) [1] (yij 14 ybT (yb (ye 0) (yb (xCB (ybW) (yb (ye 1) (yh))) (yh))))))) (ycZ [15] "entries" (ye 0) (ylr (yeU (yh))))))))
def ydo:Fn:=ybg 1 (yO (xFz (yhX (ybc) (yb (yY [15] "numbers" (ye 0)) (yh)))))
def ycS:Fn:=ybg 1 (yO (xFz (yhX (ybc) (yb (yY [15] "marks" (ye 0)) (yh)))))
def ybd:Fn:=ybg 1 (yO (xCB (ybW) (yb (yY [15] "crew" (ye 0)) (yh))))
def ybm:Fn:=ybg 2 (ym (ybG (xOr (yjs (yt (yJ yet (yb (ye 1) (yh))))) (yjs (yt (yfM (oLe) (oLt) (xC (.int 0)) (ye 1) (xCB (ybW) (yb (yY [15] "crew" (ye 0)) (yh))))))) (yfJ) (yS)) (yO (xOp (ycM) (yY [15] "crew" (ye 0)) (ye 1))))
def ybe:Fn:=ybg 2 (yO (yg 14 "state" ycp (yg 15 "hand_at" ybm (ye 0) (yb (ye 1) (yh))) (yh)))
def yea:Fn:=ybg 2 (yO (yY [14] "nth" (yg 15 "hand_at" ybm (ye 0) (yb (ye 1) (yh)))))
def yeb:Fn:=ybg 2 (yO (xFz (yhX (ybc) (yb (yY [12] "held" (yY [14] "run" (yg 15 "hand_at" ybm (ye 0) (yb (ye 1) (yh))))) (yh)))))
def yfD:Fn:=ybg 2 (yO (yg 11 "saw" yfi (yY [12] "log" (yY [14] "run" (yg 15 "hand_at" ybm (ye 0) (yb (ye 1) (yh))))) (yh)))
def yce:Fn:=ybg 1 (yO (xFz (ymp (yY [15] "entries" (ye 0)) [] (yen (yb (xOp (ybO) (ye 0) (xC (.int 0))) (yb (xOp (ybO) (ye 0) (xC (.int 1))) (yb (xOp (ybO) (ye 0) (xC (.int 2))) (yb (xFz (yhX (ybc) (yb (xOp (ybO) (ye 0) (xC (.int 3))) (yh)))) (yb (xFz (yhX (ybc) (yb (xOp (ybO) (ye 0) (xC (.int 4))) (yh)))) (yb (xFz (yhX (ybc) (yb (xOp (ybO) (ye 0) (xC (.int 5))) (yh)))) (yh)))))))))))
def wkB:XS:=(ybG (yyB (yt (xOp (oEq) (yg 14 "state" ycp (ye 1) (yh)) (xC (.str "asleep")))) (yt (yg 12 "is_stale" ycE (yY [14] "run" (ye 1)) (yb (yY [15] "marks" (ye 0)) (yh))))) (ybf (yg 14 "begin_anew" ybS (ye 1) (yh))) (yS))
def ybA:Fn:=ybg 2 (ykx false (yY [15] "crew" (ye 0)) (yv 1) wkB)
def ycu:Fn:=ybg 6 (ym (ybs (xOp (ycM) (yY [15] "crew" (ye 0)) (ye 1)) (yv 5)) (ym (ybf (xBM yhb (yiX) (yY [15] "entries" (ye 0)) (yb (yen (yb (ye 1) (yb (yY [14] "nth" (ye 5)) (yb (ye 2) (yb (yg 11 "saw" yfi (yY [12] "log" (yY [14] "run" (ye 5))) (yh)) (yb (ye 3) (yb (xFz (yhX (ybc) (yb (ye 4) (yh)))) (yh)))))))) (yh)))) (ybf (yg 14 "go_on" ydY (ye 5) (yb (ye 4) (yh))))))
def ldB:XS:=(ym (ybs (xOp (ybO) (ye 4) (xC (.int 0))) (yv 5)) (ym (ymi (yY [15] "numbers" (ye 0)) (ye 5) (xOp (ybO) (ye 4) (xC (.int 1)))) (ymi (yY [15] "marks" (ye 0)) (ye 5) (xOp yeP (xOp (ycM) (yY [15] "marks" (ye 0)) (ye 5)) (xC (.int 1))))))
def ycT:Fn:=ybg 6 (ym (ybs (yY [14] "run" (xOp (ycM) (yY [15] "crew" (ye 0)) (ye 1))) (yv 2)) (ym (ybs (yg 11 "wrote" yeH (yY [12] "log" (ye 2)) (yh)) (yv 3)) (ym (yiV (xIL (ye 3)) (yv 4) ldB) (ym (ybf (yg 15 "end_deed" ycu (ye 0) (yb (ye 1) (yb (yen (yb (xC (.str "done")) (yh))) (yb (ye 3) (yb (yY [12] "held" (ye 2)) (yh))))))) (ybf (yg 15 "wake_stale" ybA (ye 0) (yh)))))))
def yT:Fn:=ybg 6 (ym (ybs (xOp (ycM) (yY [15] "crew" (ye 0)) (ye 1)) (yv 3)) (ym (ybs (yg 12 "row" ydI (yY [14] "run" (ye 3)) (yh)) (yv 4)) (ym (ybG (yt (xOp (oEq) (xOp (ybO) (ye 4) (xC (.int 0))) (xC (.str "take")))) (ym (ybs (yg 12 "see_next" ydi (yY [14] "run" (ye 3)) (yb (yY [15] "numbers" (ye 0)) (yb (yY [15] "marks" (ye 0)) (yh)))) (yv 5)) (yO (yen (yb (xC (.str "seen")) (yb (ye 2) (yb (ye 5) (yb (xOp (ycM) (yY [15] "numbers" (ye 0)) (ye 5)) (yh)))))))) (yS)) (ym (ybG (yt (xOp (oEq) (xOp (ybO) (ye 4) (xC (.int 0))) (xC (.str "wait")))) (ym (ybf (yg 14 "fall_asleep" ycj (ye 3) (yh))) (yO (yen (yb (xC (.str "asleep")) (yb (ye 2) (yh)))))) (yS)) (ym (ybG (yt (xOp (oEq) (xOp (ybO) (ye 4) (xC (.int 0))) (xC (.str "throw")))) (ym (ybf (yg 15 "end_deed" ycu (ye 0) (yb (ye 1) (yb (yen (yb (xC (.str "fell")) (yb (xOp (ybO) (ye 4) (xC (.int 1))) (yb (yg 12 "held_in" yba (yY [14] "run" (ye 3)) (yb (xOp (ybO) (ye 4) (xC (.int 2))) (yh))) (yh))))) (yb (xFz (yeU (yh))) (yb (yY [14] "before" (ye 3)) (yh))))))) (yO (yen (yb (xC (.str "fell")) (yb (ye 2) (yh)))))) (yS)) (ym (ybf (yg 15 "lay_down" ycT (ye 0) (yb (ye 1) (yh)))) (yO (yen (yb (xC (.str "done")) (yb (ye 2) (yh)))))))))))
def yC:Fn:=ybg 4 (ym (ybs (yg 15 "hand_at" ybm (ye 0) (yb (ye 1) (yh))) (yv 2)) (ym (ybG (yt (xOp (oNe) (yg 14 "state" ycp (ye 2) (yh)) (xC (.str "awake")))) (yO (yen (yb (xC (.str "idle")) (yh)))) (yS)) (ym (ybs (yY [10,12] "at" (yY [14] "run" (ye 2))) (yv 3)) (ym (ybG (yjs (yt (yg 12 "is_looked_over" ybt (yY [14] "run" (ye 2)) (yh)))) (ym (ybf (yg 12 "go" yci (yY [14] "run" (ye 2)) (yh))) (yO (yen (yb (xC (.str "gone")) (yb (ye 3) (yh)))))) (yS)) (ym (ybG (yt (yg 12 "is_stale" ycE (yY [14] "run" (ye 2)) (yb (yY [15] "marks" (ye 0)) (yh)))) (ym (ybf (yg 14 "begin_anew" ybS (ye 2) (yh))) (yO (yen (yb (xC (.str "anew")) (yb (ye 3) (yh)))))) (yS)) (yO (yg 15 "looked_over_told" yT (ye 0) (yb (ye 1) (yb (ye 3) (yh))))))))))
def ydp:Fn:=ybg 1 (yO (xCB (ytW) (yb (xFz (yfd (yhI (yb (yg 15 "hands" ybd (ye 0) (yh)) (yh))) [0] (xOp (oNe) (yg 15 "state" ybe (ye 1) (yb (ye 0) (yh))) (xC (.str "awake"))))) (yh))))
def rdB:XS:=ybG (yt (xOp (oEq) (yg 15 "state" ybe (ye 0) (yb (ye 2) (yh))) (xC (.str "awake")))) (yeV 1 (yen (yb (ye 2) (yb (yg 15 "turn" yC (ye 0) (yb (ye 2) (yh))) (yh))))) (yS)
def ygF:Fn:=ybg 3 (ym (ygb (yeU (yh)) 1) (ym (ydy 100000 (yjs (yt (yJ ydp (yb (ye 0) (yh))))) (yiV (yhI (yb (yg 15 "hands" ybd (ye 0) (yh)) (yh))) (yv 2) (rdB))) (yrt 1 (yO (ye 1)))))
def yX:Fn:=ybg 2 (ym (ybG (yt (xOp (oLt) (ye 1) (xCB (ybW) (yb (ye 0) (yh))))) (yO (xOp (ycM) (ye 0) (ye 1))) (yS)) (yO (xC (.int 0))))
def ycz:Fn:=ybg 1 (ym (ybG (yt (xOp (oEq) (xOp oMod (ye 0) (xC (.int 3))) (xC (.int 0)))) (yO (xOp oMod (xOp oDiv (ye 0) (xC (.int 3))) (xC (.int 4)))) (yS)) (ym (ybG (yt (xOp (oEq) (xOp oMod (ye 0) (xC (.int 3))) (xC (.int 1)))) (yO (xOp ytU (xOp ytU (xOp yBm (xC (.int 2)) (xC (.int 64))) (xC (.int 1))) (xOp oMod (xOp oDiv (ye 0) (xC (.int 3))) (xC (.int 4))))) (yS)) (yO (xOp oMod (xOp oDiv (ye 0) (xC (.int 3))) (xOp yBm (xC (.int 2)) (xC (.int 64)))))))
def sdC:XS:=ym (ybG (yt (xOp (oEq) (ye 0) (xC (.int 6)))) (yO (yen (yb (xOp yhZ (ye 8) (xC (.str "( let g 0 ; put e g ) else ( wait )"))) (yb (xC (.int 7)) (yh))))) (yS)) (ym (ybG (yt (xOp (oEq) (ye 0) (xC (.int 7)))) (ym (ybs (xOp yhZ (xOp yhZ (xC (.str "either ( ")) (ye 8)) (xC (.str "( ) else ( wait ) ) or "))) (yv 9)) (yO (yen (yb (xOp yhZ (ye 9) (xJn (yk (xC (.str "( let e ")) (yk (xFv (ye 7)) (yk (xC (.str " ; put e ")) (yk (xFv (ye 2)) (yk (xC (.str " )")) (ydb)))))))) (yb (xC (.int 10)) (yh)))))) (yS)) (ym (ybG (yt (xOp (oEq) (ye 0) (xC (.int 8)))) (ym (ybs (xJn (yk (xC (.str "try ( let e ")) (yk (xFv (ye 4)) (yk (xC (.str " ; put e ")) (yk (xFv (ye 2)) (yk (xC (.str " ; ")) (ydb))))))) (yv 9)) (yO (yen (yb (xOp yhZ (ye 9) (xJn (yk (xC (.str "throw ")) (yk (xFv (ye 6)) (yk (xC (.str " ")) (yk (xFv (ye 3)) (yk (xC (.str " ) on odd ")) (yk (xFv (ye 5)) (yk (xC (.str " ( take ")) (yk (xFv (ye 2)) (yk (xC (.str " e )")) (ydb)))))))))))) (yb (xC (.int 7)) (yh)))))) (yS)) (ym (ybG (yt (xOp (oEq) (ye 0) (xC (.int 9)))) (yO (yen (yb (xJn (yk (xC (.str "if ")) (yk (xFv (ye 2)) (yk (xC (.str " ( throw ")) (yk (xFv (ye 6)) (yk (xC (.str " ")) (yk (xFv (ye 3)) (yk (xC (.str " ) else ( let ")) (yk (xFv (ye 2)) (yk (xC (.str " 1 )")) (ydb))))))))))) (yb (xC (.int 4)) (yh))))) (yS)) (yO (yen (yb (xJn (yk (xC (.str "let e ")) (yk (xFv (ye 4)) (yk (xC (.str " ; take h e ; put e ")) (yk (xFv (ye 2)) (yk (xC (.str " ; take ")) (yk (xFv (ye 3)) (yk (xC (.str " e")) (ydb))))))))) (yb (xC (.int 4)) (yh))))))))
def yec:Fn:=ybg 10 (ym (ybs (xOp (yrE) (xC (.str "abcdefgh")) (xOp oMod (xOp oDiv (ye 1) (xC (.int 176))) (xC (.int 8)))) (yv 5)) (ym (ybs (xOp (ycM) (xFz (yeU (yb (xC (.str "odd")) (yb (xC (.str "bad")) (yh))))) (xOp oMod (xOp oDiv (ye 1) (xC (.int 5))) (xC (.int 2)))) (yv 6)) (ym (ybs (xOp oMod (xOp oDiv (ye 1) (xC (.int 3))) (xC (.int 4))) (yv 7)) (ym (ybs (xJn (yk (xC (.str "let e ")) (yk (xFv (ye 4)) (yk (xC (.str " ; take f e ; if f ")) (ydb))))) (yv 8)) (sdC)))))
def pcC:XS:=ym (ybG (yt (xOp (oEq) (ye 2) (xC (.int 0)))) (yO (yen (yb (xJn (yk (xC (.str "let ")) (yk (xFv (ye 5)) (yk (xC (.str " ")) (yk (xFv (ye 7)) (ydb)))))) (yb (xC (.int 1)) (yh))))) (yS)) (ym (ybG (yt (xOp (oEq) (ye 2) (xC (.int 1)))) (yO (yen (yb (xJn (yk (xFv (ye 8)) (yk (xC (.str " ")) (yk (xFv (ye 3)) (yk (xC (.str " ")) (yk (xFv (ye 4)) (yk (xC (.str " ")) (yk (xFv (ye 5)) (ydb))))))))) (yb (xC (.int 1)) (yh))))) (yS)) (ym (ybG (yt (xOp (oEq) (ye 2) (xC (.int 2)))) (yO (yen (yb (xJn (yk (xC (.str "let e ")) (yk (xFv (ye 6)) (yk (xC (.str " ; take ")) (yk (xFv (ye 3)) (yk (xC (.str " e")) (ydb))))))) (yb (xC (.int 2)) (yh))))) (yS)) (ym (ybG (yt (xOp (oEq) (ye 2) (xC (.int 3)))) (yO (yen (yb (xJn (yk (xC (.str "let e ")) (yk (xFv (ye 6)) (yk (xC (.str " ; put e ")) (yk (xFv (ye 3)) (ydb)))))) (yb (xC (.int 2)) (yh))))) (yS)) (ym (ybG (yt (xOp (oLt) (ye 2) (xC (.int 6)))) (yO (yen (yb (xJn (yk (xC (.str "let e ")) (yk (xFv (ye 6)) (yk (xC (.str " ; take f e ; plus f f ")) (yk (xFv (ye 3)) (yk (xC (.str " ; let d 1 ; put e f")) (ydb))))))) (yb (xC (.int 5)) (yh))))) (yS)) (yO (yJ yec (yb (ye 2) (yb (ye 1) (yb (ye 3) (yb (ye 4) (yb (ye 6) (yh))))))))))))
def yed:Fn:=ybg 9 (ym (ybs (xOp oMod (xOp yBl (ye 0) (xC (.int 48271))) (xC (.int 2147483647))) (yv 1)) (ym (ybs (xOp oMod (ye 1) (xC (.int 11))) (yv 2)) (ym (ybs (xOp (yrE) (xC (.str "abcd")) (xOp oMod (xOp oDiv (ye 1) (xC (.int 11))) (xC (.int 4)))) (yv 3)) (ym (ybs (xOp (yrE) (xC (.str "abcd")) (xOp oMod (xOp oDiv (ye 1) (xC (.int 44))) (xC (.int 4)))) (yv 4)) (ym (ybs (xOp (yrE) (xC (.str "abcdefgh")) (xOp oMod (xOp oDiv (ye 1) (xC (.int 176))) (xC (.int 8)))) (yv 5)) (ym (ybs (xOp oMod (xOp oDiv (ye 1) (xC (.int 1408))) (xC (.int 4))) (yv 6)) (ym (ybs (yJ ycz (yb (xOp oDiv (ye 0) (xC (.int 7))) (yh))) (yv 7)) (ym (ybs (xOp (ycM) (xFz (yeU (yb (xC (.str "plus")) (yb (xC (.str "minus")) (yb (xC (.str "times")) (yb (xC (.str "less")) (yb (xC (.str "same")) (yh)))))))) (xOp oMod (xOp oDiv (ye 1) (xC (.int 1408))) (xC (.int 5)))) (yv 8)) (pcC)))))))))
def ybi:Fn:=ybg 6 (ym (ygb (yeU (yh)) 1) (ym (ybs (xC (.int 1)) (yv 2)) (ym (yiV (xIL (ye 0)) (yv 3) (ym (ybs (yJ yed (yb (ye 3) (yh))) (yCk 2 (yrs (yv 4) (yrs (yv 5) (yEN))))) (ym (yeV 1 (ye 4)) (ybs (xOp yeP (ye 2) (ye 5)) (yv 2))))) (yrt 1 (yO (yen (yb (xBM isStr (yrJ) (xC (.str " ; ")) (yb (ye 1) (yh))) (yb (ye 2) (yh)))))))))
def yee:Fn:=ybg 5 (ym (ybs (xOp oDiv (yJ yX (yb (ye 0) (yb (xC (.int 0)) (yh)))) (xC (.int 3))) (yv 1)) (ym (ybs (yJ yX (yb (ye 0) (yb (xC (.int 1)) (yh)))) (yv 2)) (ym (ybs (yJ yX (yb (ye 0) (yb (xC (.int 2)) (yh)))) (yv 3)) (ym (ybs (xOp (ycM) (xFz (yeU (yb (xC (.int 1)) (yb (xC (.int 2)) (yb (xC (.int 3)) (yb (xC (.int 4)) (yb (xC (.int 3)) (yb (xC (.int 2)) (yb (xC (.int 16)) (yb (xC (.int 5)) (yh))))))))))) (xOp oMod (ye 1) (xC (.int 8)))) (yv 4)) (yO (xFz (yfd (yhI (yb (ye 4) (yh))) [2,3] (xOp yBl (yJ ycz (yb (xOp oDiv (ye 1) (xOp yeP (ye 0) (xC (.int 1)))) (yh))) (xOp oMod (xOp oDiv (ye 2) (xOp yeP (ye 0) (xC (.int 1)))) (xC (.int 2)))))))))))
def yef:Fn:=ybg 6 (ym (ybs (xOp yeP (xC (.int 2)) (xOp oMod (yJ yX (yb (ye 0) (yb (xC (.int 0)) (yh)))) (xC (.int 3)))) (yv 1)) (ym (ybs (xFz (yqx yoM (ye 0) (yeo (xC (.int 3))) (yeo (xC (.int 33))))) (yv 2)) (ym (ygb (yeU (yh)) 3) (ym (yiV (yhI (yb (ye 1) (yh))) (yv 4) (ym (ybs (xFz (yfO (yhI (yb (xCB (ybW) (yb (ye 2) (yh))) (yh))) [2,4,1] (yt (xOp (oEq) (xOp oMod (ye 0) (ye 3)) (ye 2))) (xOp (ycM) (ye 1) (ye 0)))) (yv 5)) (yeV 3 (xFz (yfd (yxk (yb (xC (.int 0)) (yb (xCB (ykt) (yb (xCB (ybW) (yb (ye 5) (yh))) (yb (xC (.int 6)) (yh)))) (yb (xC (.int 2)) (yh))))) [5] (yJ ybi (yb (xFz (yqx yoM (ye 1) (yeo (ye 0)) (yeo (xOp yeP (ye 0) (xC (.int 2)))))) (yh)))))))) (yrt 3 (yO (ye 3)))))))
def yeg:Fn:=ybg 1 (yO (xFz (yfd (xIL (ye 0)) [] (xFz (ymq (xIL (ye 0)) [] (yDh) (ye 0))))))
def tuB:XS:=ym (yeV 2 (xOp oMod (ye 4) (ye 1))) (ybs (xOp oDiv (ye 4) (ye 1)) (yv 4))
def ycK:Fn:=ybg 6 (ym (ygb (yeU (yh)) 2) (ym (yiV (xIL (xFz (yqx yoM (ye 0) (yeo (xC (.int 33))) (yeo (xC (.int 83)))))) (yv 3) (ym (ybs (xOp oMod (ye 3) (xOp yBm (xC (.int 10)) (xC (.int 9)))) (yv 4)) (yiV (yhI (yb (xC (.int 5)) (yh))) (yv 5) (tuB)))) (yrt 2 (yO (ye 2)))))
def ybX:Fn:=ybg 1 (yO (xCB (ybW) (yb (xFz (yfO (yhI (yb (yg 15 "hands" ybd (ye 0) (yh)) (yh))) [0] (yt (xOp (oEq) (yg 15 "state" ybe (ye 1) (yb (ye 0) (yh))) (xC (.str "awake")))) (ye 0))) (yh))))
def lkB:XS:=yeV 1 (xFz (yeU (yb (yg 15 "state" ybe (ye 0) (yb (ye 2) (yh))) (yb (yg 15 "which" yea (ye 0) (yb (ye 2) (yh))) (yb (yg 15 "slots" yeb (ye 0) (yb (ye 2) (yh))) (yb (yg 15 "saw" yfD (ye 0) (yb (ye 2) (yh))) (yh)))))))
def ybZ:Fn:=ybg 3 (ym (ygb (yeU (yb (yg 15 "boxes" ydo (ye 0) (yh)) (yb (yg 15 "stamps" ycS (ye 0) (yh)) (yb (yg 15 "journal" yce (ye 0) (yh)) (yh))))) 1) (ym (yiV (yhI (yb (yg 15 "hands" ybd (ye 0) (yh)) (yh))) (yv 2) (lkB)) (yrt 1 (yO (ye 1)))))
def ydE:Fn:=ybg 3 (ym (ygb (yeU (yh)) 1) (ym (ydy 100000 (yt (xOp (oGt) (yJ ybX (yb (ye 0) (yh))) (xC (.int 0)))) (yiV (yhI (yb (yg 15 "hands" ybd (ye 0) (yh)) (yh))) (yv 2) (rdB))) (yrt 1 (yO (ye 1)))))
def lwB:XS:=ym (ybs (yJ ydp (yb (ye 3) (yh))) (yv 6)) (ym (ybG (xOr (yjs (yt (xCB (yiW yer) (yb (ye 6) (yb (xC (.ty "bool")) (yh)))))) (yt (xOp (oNe) (ye 6) (xOp (oEq) (yJ ybX (yb (ye 3) (yh))) (xC (.int 0)))))) (yO (xC (.bl false))) (yS)) (ybG (yt (xOp (ytZ) (yg 15 "turn" yC (ye 3) (yb (ye 5) (yh))) (yg 15 "turn" yC (ye 4) (yb (ye 5) (yh))))) (yO (xC (.bl false))) (yS)))
def lqE:XS:=ym (ybs (yJ ygF (yb (ye 3) (yh))) (yv 7)) (ym (ybG (xOr (yjs (yt (xCB (yiW yer) (yb (ye 7) (yb (xC (.ty "list")) (yh)))))) (xOr (yt (xOp (ytZ) (ye 7) (yJ ydE (yb (ye 4) (yh))))) (yt (xOp (yvP) (yJ ydp (yb (ye 3) (yh))) (xC (.bl true)))))) (yO (xC (.bl false))) (yS)) (ym (ybG (xOr (yt (xOp (ytZ) (yJ ybZ (yb (ye 3) (yh))) (yJ ybZ (yb (ye 4) (yh))))) (yt (xOp (oNe) (yJ ybX (yb (ye 3) (yh))) (xC (.int 0))))) (yO (xC (.bl false))) (yS)) (yO (ykh (xOp (yzD) (yJ ygF (yb (ye 3) (yh))) (xFz (yeU (yh)))) (xOp (yzD) (yJ ybZ (yb (ye 3) (yh))) (yJ ybZ (yb (ye 4) (yh))))))))
def yvQ:Fn:=ybg 8 (ym (ybs (yJ yeg (yb (yJ yef (yb (ye 0) (yh))) (yh))) (yv 1)) (ym (ybs (yJ yee (yb (ye 0) (yh))) (yv 2)) (ym (ybs (yij 15 yct (yb (ye 2) (yb (ye 1) (yh)))) (yv 3)) (ym (ybs (yij 15 yct (yb (ye 2) (yb (ye 1) (yh)))) (yv 4)) (ym (yiV (xIL (yJ ycK (yb (ye 0) (yb (xCB (ybW) (yb (ye 1) (yh))) (yh))))) (yv 5) (lwB)) (lqE))))))
noncomputable abbrev tI (n:Int):Str:=Str.ofString (toString n)
noncomputable abbrev B64:Int:=18446744073709551616
theorem ypt:("":Str).length=0:=by rfl'
theorem yfl (a b:Str):(a++b).length=a.length+b.length:=by show (a.cps++b.cps).size=_;simp [Str.length]
theorem ymw (a b c:Str):a++b++c=a++(b++c):=by
 show (⟨a.cps++b.cps++c.cps⟩:Str)=⟨a.cps++(b.cps++c.cps)⟩
 rw [Array.append_assoc]
theorem ycF a {b:Int}(h:0<b):0<=a%b/\a%b<b:=⟨Int.emod_nonneg a (by omega),Int.emod_lt_of_pos a h⟩
theorem ysJ:B64<10 ^ 20:=by decide
theorem yvR sep x r (h:1<=x.length):1<=(Str.join sep (x::r)).length:=by
 cases r with
 | nil=>exact h
 | cons y r =>
  show 1<=(x++sep++Str.join sep _).length;rw [yfl,yfl];omega
noncomputable def ysK (m:Nat):List Nat:=(Nat.toDigits 10 m).map Char.toNat
theorem yDB:∀ d,d<10->(Nat.digitChar d).toNat=48+d:=by
 intro d h;have:d=0\/d=1\/d=2\/d=3\/d=4\/d=5\/d=6\/d=7\/d=8\/d=9:=by omega
 rcases this with rfl|rfl|rfl|rfl|rfl|rfl|rfl|rfl|rfl|rfl
 all_goals decide
theorem yvS cs (c:Nat):yyv (cs++[c])=yyv cs*10+(c-48):=by unfold yyv;simp_all
theorem ysL:∀ m:Nat,ysK m≠[]/\(∀ c∈ysK m,48<=c/\c<=57)/\yyv (ysK m)=m/\(m≠0->(ysK m)[0]?≠some 48):=by
 intro m
 induction m using Nat.strongRecOn with
 | ind m ih =>
  unfold ysK at *
  by_cases h:m<10
  .rw [Nat.toDigits_of_lt_base h,List.map_singleton,yDB m h];refine ⟨by simp,fun c d=>?_,?_,fun i e=>?_⟩
   .rw [List.mem_singleton.mp d];omega
   .show (0:Int)*10+(((48+m:Nat):Int)-48)=m;omega
   .have:48+m=48:=by simpa using e
    omega
  .rw [Nat.toDigits_of_base_le (by decide) (by omega),map_append,List.map_singleton,yDB (m%10) (by omega)];obtain ⟨h1,h2,f,g⟩:=ih (m/10) (by omega);refine ⟨by simp,fun c d=>?_,?_,fun _ e=>?_⟩
   .rcases List.mem_append.mp d with d|d
    .exact h2 c d
    .rw [List.mem_singleton.mp d];omega
   .rw [yvS,f];omega
   .refine g (by omega) ?_;generalize (Nat.toDigits 10 (m/10)).map Char.toNat=l at *;cases l with
    | nil=>exact absurd rfl h1
    | cons a l=>simpa using e
theorem ysM {n:Int}(h:0<=n):(Str.ofString (toString n)).cps.toList=ysK n.toNat:=by
 obtain ⟨m,rfl⟩:∃ m:Nat,n=m:=⟨n.toNat,by omega⟩
 rw [Str.ofString_eq_toList];show (toString m).toList.map Char.toNat=_;rw [show toString m=m.repr from rfl,Nat.toList_repr];rfl
theorem yhN:∀ {a b:List Str},a≠[]->b≠[]->Str.join sep (a++b)=Str.join sep a++sep++Str.join sep b
 | [],_,h,_=>absurd rfl h
 | [x],[],_,h=>absurd rfl h
 | [x],y::b,_,_=>rfl
 | x::y::a,b,_,d=>by have e:=yhN (sep:=sep) (a:=y::a) (fun z=>by cases z) d;show x++sep++Str.join sep (y::a++b)=x++sep++Str.join sep _++sep++Str.join sep b;rw [e];simp only [ymw]
theorem ysN (h:b≠[]):Str.join sep (x::b)=x++sep++Str.join sep b:=yhN (a:=[x]) (fun z=>by cases z) h
theorem yDC:(" ; ":Str) = " "++";"++" ":=by rfl'
noncomputable def fr (w:Str):Prop:=32∉w.cps.toList/\w.length≠0/\w.length<=20
theorem yxB (h:0<=n) (h2:n<B64):fr (toString n):=by
 have e:=ysM h;obtain ⟨b,c,_⟩:=ysL n.toNat;refine ⟨fun z=>?_,fun z=>b ?_,str_len h (by decide) (Int.lt_trans h2 ysJ)⟩
 .rw [e] at z;have:=c _ z;omega
 .rw [<- e];have:(Str.ofString _).cps.size=0:=z;simp_all
theorem yja s (h:decide (32∉s.cps.toList/\s.length≠0/\s.length<=20)=true):fr s:=show 32∉s.cps.toList/\s.length≠0/\s.length<=20 from of_decide_eq_true h
def frs (l:List Str):Prop:=∀ w∈l,fr w
theorem yfm (h:frs a) (k:frs b):frs (a++b):=fun x d=>(List.mem_append.mp d).elim (h x) (k x)
theorem yAm (h:frs l) (hl:l≠[]):Str.join sep l≠"":=by
 cases l with
 | nil=>exact absurd rfl hl
 | cons x r =>
  intro e;have h1:=(h x mem_cons_self).2.1;have:=yvR sep x r;rw [e,ypt] at this;omega
theorem ykF sep (hs:sep.length<=3):∀ l,frs l->(Str.join sep l).length<=23*l.length
 | [],_=>by show ("":Str).length<=_;rw [ypt];omega
 | [x],f=>by have:=(f x mem_cons_self).2.2;show x.length<=23*1;omega
 | x::y::r,f=>by
  have h1:=(f x mem_cons_self).2.2;have h2:=ykF sep hs _ fun w b=>f w (mem_cons_of_mem _ b)
  show (x++sep++Str.join sep _).length<=23*((y::r).length+1);rw [yfl,yfl];omega
theorem ymx:(("throw":Str) = "take")=False:=eq_false (by rfl')
theorem yhp:(("throw":Str) = "wait")=False:=eq_false (by rfl')
theorem ynY:(("wait":Str) = "take")=False:=eq_false (by rfl')
section
variable {h:AH}
theorem ysO (e:ye i ρ h=some (.lst xs,h)):xIL (ye i) ρ h=some (xs,h):=yES e
theorem yGz (e:ye i ρ h=some (.str z,h)) (hl:z.length<=100000):xIS (ye i) ρ h=some (z.cps.toList.map sgn,h):=by unfold xIS;rw [e];exact if_pos hl
theorem yqg {x y:Str}(hl:x.length<=1000):ydn [.str x,.str y] h=some (.bl (x.cps.toList.all fun c=>decide (c∈y.cps.toList)),h):=by unfold ydn;rw [yo];have hz:x.cps.toList.length=x.length:=rfl;symm;rw [yGz rfl (by omega),ybo];rw [if_pos (by grind)];rw [ygi (f:=sgn) (g:=fun c=>.bl _) fun c _=>rfl];symm;unfold ytW ybM;rw [show (x.cps.toList.map _)=(x.cps.toList.map _).map PV.bl by rw [map_map];rfl];simp only [yme,List.all_map];rfl
theorem yvT (h1:48<=c) (h2:c<=57):c∈("0123456789":Str).cps.toList:=by rw [show ("0123456789":Str).cps.toList=(List.range 10).map (· + 48) by rfl'];exact List.mem_map.mpr ⟨c-48,List.mem_range.mpr (by omega),by omega⟩
theorem ymy (g:0<=n) (h1:n<B64):yeI [.str (toString n:String)] h=some (.int n,h):=by
 obtain ⟨d1,d2,d3,r⟩:=ysL n.toNat;have hl:=str_len g (k:=20) (by decide) (Int.lt_trans h1 ysJ);have t:(Str.ofString (toString n)).length≠0:=(yxB g h1).2.1;have e:=ysM g;have hz:n=0->Str.ofString (toString n) = "0":=fun z=>by subst z;rfl'
 have i:atI (Str.ofString (toString n)).cps.toList 0=some ((ysK n.toNat).headD 0):=by
  rw [e];cases q:ysK n.toNat with
  | nil=>exact absurd q d1
  | cons a l=>exact yET
 have p:(ysK n.toNat).headD 0=48->n=0:=fun q=>Classical.byContradiction fun z=>r (by omega) (by
  cases f:ysK n.toNat with
  | nil=>exact absurd f d1
  | cons a l=>rw [f] at q;simpa using q)
 generalize hs:Str.ofString (toString n)=z at *;unfold yeI;rw [yo];show ob (ym _ _ [.val (.str z),.no] h) fnK=_;have o:=List.all_eq_true.mpr fun c j=>decide_eq_true (yvT (d2 c (e ▸ j)).1 (d2 c (e ▸ j)).2)
 symm;rw [if_pos (by omega:z.length<=100000)];simp only [show (1:Int)<=z.length by omega,show (z.length:Int)<=20 by omega];symm;rw [yqg (by omega),o];symm;rw [i];symm;have m:∀ h:AH,yrI [.str z] h=some (.int n,h):=fun h=>by unfold yrI;show (if _ then _ else _)=_;rw [if_pos ⟨by rw [e];exact d1,by rw [e];exact d2,by omega⟩,e,d3,Int.toNat_of_nonneg g]
 rw [if_neg (not_not_intro trivial),if_pos (by omega)];simp only [sgn,m];symm;rw [if_pos h1];split
 .rename_i q;have q:(ysK n.toNat).headD 0=48:=by have f:=congrArg (fun s:Str=>s.cps.toList) q;rw [show ("0":Str).cps.toList=[48] by rfl'] at f;simpa using f
  rw [if_neg (not_not_intro (hz (p q)))]
 .rfl
end
theorem ykG:(("times":Str) = "plus")=False:=eq_false (by rfl')
theorem yjb:(("times":Str) = "minus")=False:=eq_false (by rfl')
theorem ymz:(("less":Str) = "plus")=False:=eq_false (by rfl')
theorem ykH:(("less":Str) = "minus")=False:=eq_false (by rfl')
theorem ykI:(("less":Str) = "times")=False:=eq_false (by rfl')
theorem ykJ:(("times":Str) = "less")=False:=eq_false (by rfl')
theorem ymA:(("same":Str) = "plus")=False:=eq_false (by rfl')
theorem ykK:(("same":Str) = "minus")=False:=eq_false (by rfl')
theorem ykL:(("same":Str) = "times")=False:=eq_false (by rfl')
theorem ymB:(("same":Str) = "less")=False:=eq_false (by rfl')
section
variable {h:AH}
noncomputable def Stk (h:AH):List Nat->List (List Key×List PV)->Prop
 | [],[]=>True
 | l::ls,d::ds=>h[l]?=some (.dct d.1 d.2)/\Stk h ls ds
 | _,_=>False
theorem Stk.get {h:AH}:∀ {ls:List Nat}{ds:List (List Key×List PV)}(k:Nat),Stk h ls ds->k<ls.length->∃ l d,ls[k]?=some l/\ds[k]?=some d/\h[l]?=some (.dct d.1 d.2)
 | l::ls,d::ds,0,s,_=>⟨l,d,rfl,rfl,s.1⟩
 | l::ls,d::ds,k+1,s,hk=>by obtain ⟨l',d',e1,e2,e3⟩:=Stk.get k s.2 (by simpa using hk);exact ⟨l',d',by simpa using e1,by simpa using e2,e3⟩
 | [],[],_,_,hk=>by simp at hk
 | [],_::_,_,s,_=>s.elim
 | _::_,[],_,s,_=>s.elim
def yxC (ds:List (List Key×List PV)) (j:Key):Nat->PV
 | 0=>.non
 | k+1=>match ds[k]? with|some d=>(match yko d.1 d.2 j with|some x=>x|none=>yxC ds j k)|none=>.non
structure LG (h:AH) (o s b:Nat) (ls:List Nat) (ds:List (List Key×List PV)) (ks:List Key) (xs:List PV):Prop where
 ob:h[o]?=some (.ins 11 ["stack","last_seen"] [.loc s,.loc b])
 st:h[s]?=some (.lst (ls.map .loc))
 sn:h[b]?=some (.dct ks xs)
 dl:Stk h ls ds
theorem ygk (e:h[o]?=some (.ins 11 ["stack","last_seen"] [.loc s,.loc b])):yeZ [11] "stack" (.loc o) h=some (.loc s,h):=by unfold yeZ yha;simp only [e];rfl
theorem ysP (e:h[o]?=some (.ins 11 ["stack","last_seen"] [.loc s,.loc b])):yeZ [11] "last_seen" (.loc o) h=some (.loc b,h):=by unfold yeZ yha;simp only [e];rfl
theorem ysQ (e:h[n]?=some (.lst ((l++[t]).map PV.loc))):ycM (.loc n) (.int (-1)) h=some (.loc t,h):=by
 unfold ycM;simp only [e];have:atI ((l++[t]).map PV.loc) (-1)=some (.loc t):=by unfold atI ixN;simp;rw [if_pos (by omega),show (-1+((l.length:Int)+1)).toNat=l.length by omega];simp
 rw [this]
theorem yAn (c:ek ρ h=some (.int i,h)) (b:ed ρ h=some (.loc n,h)) (e:h[n]?=some (.dct ks xs)):yBo false ek ed ρ h=some (.bl (yko ks xs (.inl i)).isSome,h):=by unfold yBo;rw [c,ybo,b,ybo];unfold yzx;simp only [e,keyOf];rfl
theorem yvU (b:ed ρ h=some (.loc n,h)) (c:ek ρ h=some (.int i,h)) (e:h[n]?=some (.dct ks xs)) (d:yko ks xs (.inl i)=some x):yid ed ek ρ h=some (x,h):=by unfold yid;rw [b,ybo,c,ybo];unfold yzx;simp only [e,keyOf,d]
theorem ykM (b:ev ρ h=some (x,h)) (c:ed ρ h=some (.loc n,h)) (d:ek ρ h=some (.int i,h)) (e:h[n]?=some (.dct ks xs)) (hl:ks.length<1000) :
  ykr ed ek ev ρ h=some (.nx ρ,h.set n (.dct (ydm ks xs (.inl i) x).1 (ydm ks xs (.inl i) x).2)):=by
 unfold ykr;rw [b,ybo,c,ybo,d,ybo];simp only [e,keyOf];rw [if_pos hl]
end
section
variable {h:AH}{o s b:Nat}{ls:List Nat}{ds:List (List Key×List PV)}{ks:List Key}{xs:List PV}
theorem yvV (g:LG h o s b ls ds ks xs):∀ k,k<=ls.length->∀ c,
  ob (ylt s true (yv 2) (ybG (yt (yBo false (ye 1) (ye 2))) (yO (yid (ye 2) (ye 1))) yS) k (ls.length-k) [.val (.loc o),.val (.int i),c] h) (fun o h1=>ob (sqK (yO (xC .non)) o h1) fnK)=some (yxC ds (.inl i) k,h):=by
 intro k
 induction k with
 | zero =>
  intro _ c;unfold ylt;simp only [g.st];rw [if_pos (by simp),ybo];rfl
 | succ k ih =>
  intro n c;unfold ylt;simp only [g.st];obtain ⟨l,d,p,f,a⟩:=g.dl.get k (by omega);have j:(ls.map PV.loc)[k]?=some (.loc l):=by simp_all
  simp only [if_true,j];have e:yv 2 (.loc l) [.val (.loc o),.val (.int i),c]=some _:=rfl;rw [e,bind_some,yzn,yxf,yAn rfl rfl a,ybo,yHz,ybo];have ek:ls.length-(k+1)+1=ls.length-k:=by omega
  unfold yxC;simp only [f];cases m:yko d.1 d.2 _ with
  | none =>
   rw [ek];exact ih (by omega) _
  | some x =>
   rw [if_pos (show (some x).isSome=true from rfl),yrO,yvU rfl rfl a m,ybo];rfl
theorem yDD (g:LG h o s b ls ds ks xs):yes [.loc o,.int i] h=some (yxC ds (.inl i) ls.length,h):=by unfold yes;rw [yo];show ob (ym _ _ [.val _,.val _,.no] h) fnK=_;rw [yeB];have:=yvV (i:=i) g ls.length (Nat.le_refl _) .no;rw [sub_self] at this;rw [yCy,<- this];unfold ykx;rw [ykl,show ye 0 _ h=some _ from rfl,ybo,ygk g.ob,ybo];simp only [g.st,length_map]
theorem yvW {d:List Key×List PV}(g:LG h o s b (ls++[t]) ds ks xs) (a:h[t]?=some (.dct d.1 d.2)) (hl:d.1.length<1000):yeF [.loc o,.int i,v] h=some (.non,h.set t (.dct (ydm d.1 d.2 (.inl i) v).1 (ydm d.1 d.2 (.inl i) v).2)):=by unfold yeF;rw [yo,yeB,yrP,yEQ,ykl,show ye 0 _ h=some _ from rfl,ybo,ygk g.ob];show ob (ob (ob (ycM (.loc s) (.int _) h) _) _) _=_;rw [ysQ g.st];show ob (ykr (ye 3) (ye 1) (ye 2) [.val _,.val (.int i),.val v,.val (.loc t)] h) fnK=_;rw [ykM rfl rfl rfl a hl];rfl
theorem yvX (g:LG h o s b ls ds ks xs) (hl:ls.length<1000):yeG [.loc o] h=some (.non,(h++[Nd.dct [] []]).set s (.lst ((ls++[h.length]).map .loc))):=by
 have hs:(h++[Nd.dct [] []])[s]?=some (.lst (ls.map .loc)):=by rw [getElem?_append_left (List.getElem?_eq_some_iff.mp g.st).1];exact g.st
 unfold yeG;rw [yo,yrN,yER,ykl,show ye 0 _ h=some _ from rfl,ybo,ygk g.ob,ybo,if_pos (ydH g.st)];show ob (ob (yiX (.loc s) [.loc h.length] (h++[Nd.dct [] []])) _) fnK=_;rw [ynO hs (by rw [length_map];omega),map_append];rfl
theorem ysR (e:h[n]?=some (.lst ((l++[t]).map PV.loc))):yhv (.loc n) [] h=some (.loc t,h.set n (.lst (l.map .loc))):=by
 unfold yhv;simp only [e];have:((l++[t]).map PV.loc)[((l++[t]).map PV.loc).length-1]?=some (.loc t):=by simp
 rw [this];simp
theorem yAo (g:LG h o s b (ls++[t]) ds ks xs):yfB [.loc o] h=some (.non,h.set s (.lst (ls.map .loc))):=by unfold yfB;rw [yo,yrN,yER,ykl,show ye 0 _ h=some _ from rfl,ybo,ygk g.ob,ybo,if_pos (ydH g.st),yve,ybo,ysR g.st,ybo];rfl
end
section
variable {h:AH}{o s b:Nat}{ls:List Nat}{ds:List (List Key×List PV)}{ks:List Key}{xs:List PV}
theorem ysS {c a:List Key×List PV}(g:LG h o s b (ls++[u]++[t]) ds ks xs) (n:o≠s) (e:u≠s) (f:t≠s) (d:u≠t) (p:h[u]?=some (.dct a.1 a.2)) (i:h[t]?=some (.dct c.1 c.2)) (hl:a.1.length+c.1.length<1000) :
  ydW [.loc o] h=some (.non,(h.set s (.lst ((ls++[u]).map .loc))).set u (.dct (yky c.1 c.2 a.1 a.2).1 (yky c.1 c.2 a.1 a.2).2)):=by
 have hs:=(List.getElem?_eq_some_iff.mp g.st).1;have j:(h.set s _)[s]?=some (.lst ((ls++[u]).map PV.loc)):=getElem?_set_self hs;have m:(h.set s (.lst ((ls++[u]).map PV.loc)))[o]?=some _:=(getElem?_set_ne (Ne.symm n)).trans g.ob;have l:(h.set s (.lst ((ls++[u]).map PV.loc)))[u]?=some _:=(getElem?_set_ne (Ne.symm e)).trans p;have k:(h.set s (.lst ((ls++[u]).map PV.loc)))[t]?=some _:=(getElem?_set_ne (Ne.symm f)).trans i;unfold ydW;rw [yo,yeB,yrP,yER,ykl,show ye 0 _ h=some _ from rfl,ybo,ygk g.ob,ybo,if_pos (ydH g.st),yve,ybo,ysR g.st,ybo];generalize q:h.set s _=h1 at *;show ob (ym _ _ _ h1) fnK=_;rw [yeB,yrP,yEQ,ykl,show ye 0 _ h1=some _ from rfl,ybo,ygk m];show ob (ob (ob (ycM (.loc s) (.int _) h1) _) _) _=_;rw [ysQ j,ybo];show ob (ybf _ _ h1) fnK=_;show ob (ob (if yse _ h1=true then yDb (.loc u) [.loc t] h1 else none) _) fnK=_;rw [if_pos (by unfold yse ymj;simp_all)];unfold yDb;simp only [l,k];rw [if_pos ⟨d,hl⟩,ybo];rfl
end
noncomputable def At (h:AH) (m:List (Nat×Nd)):Prop:=(m.map (·.1)).Nodup/\∀ p∈m,h[p.1]?=some p.2
section
variable {h:AH}{m a b:List (Nat×Nd)}
theorem At.get (A:At h m) (i:Nat) (e:m[i]?=some (n,d)):h[n]?=some d:=A.2 _ (mem_of_getElem? e)
theorem At.lt (A:At h m) (hp:p∈m):p.1<h.length:=(List.getElem?_eq_some_iff.mp (A.2 p hp)).1
theorem At.upd d' (A:At h (a++(n,d)::b)):At (h.set n d') (a++(n,d')::b):=by
 have e:=A.lt (p:=(n,d)) (by simp);refine ⟨by have:=A.1;simpa using this,fun p hp=>?_⟩
 by_cases q:p.1=n
 .have:p=(n,d'):=by
   have c:=A.1;rw [map_append,List.nodup_append] at c;rcases List.mem_append.mp hp with z|z
   .exact absurd q (c.2.2 _ (List.mem_map_of_mem z) _ mem_cons_self)
   .rcases mem_cons.mp z with z|z
    .exact z
    .exact absurd (show n∈b.map _ by rw [<- q];exact List.mem_map_of_mem z) (List.nodup_cons.mp c.2.1).1
  rw [this,getElem?_set_self e]
 .rw [getElem?_set_ne fun z=>q z.symm];refine A.2 p ?_;rcases List.mem_append.mp hp with z|z
  .exact mem_append_left _ z
  .rcases mem_cons.mp z with z|z
   .exact absurd (by rw [z]) q
   .exact mem_append_right _ (mem_cons_of_mem _ z)
theorem At.new d (A:At h (a++b)):At (h++[d]) (a++(h.length,d)::b):=by
 have lt:∀ p∈a++b,p.1<h.length:=fun p hp=>A.lt hp
 refine ⟨?_,fun p hp=>?_⟩
 .have c:=A.1;rw [map_append,List.nodup_append] at c;rw [map_append,List.nodup_append];refine ⟨c.1,List.nodup_cons.mpr ⟨fun z=>?_,c.2.1⟩,fun x g y f=>?_⟩
  .obtain ⟨p,hp,e⟩:=List.mem_map.mp z;grind
  .rcases mem_cons.mp f with rfl|f
   .obtain ⟨p,hp,e⟩:=List.mem_map.mp g;grind
   .exact c.2.2 x g y f
 .rcases List.mem_append.mp hp with z|z
  .rw [getElem?_append_left (lt p (mem_append_left _ z))];exact A.2 p (mem_append_left _ z)
  .rcases mem_cons.mp z with z|z
   .rw [z];simp
   .rw [getElem?_append_left (lt p (mem_append_right _ z))];exact A.2 p (mem_append_right _ z)
theorem At.sub {m':List _}(A:At h m) (s:m'.Sublist m):At h m':=⟨(s.map _).nodup A.1,fun p hp=>A.2 p (s.subset hp)⟩
theorem At.perm {m':List _}(A:At h m) (s:m'.Perm m):At h m':=⟨(s.map _).nodup_iff.mpr A.1,fun p hp=>A.2 p (s.subset hp)⟩
theorem fl i {cs:List Nat}{f:Str}{y:PV}(e:h[n]?=some (.ins k ns xs)) (d:k∈cs) (c:(decide (f∈ns) && ns.idxOf f == i)=true) (g:xs[i]?=some y):yeZ cs f (.loc n) h=some (y,h):=by obtain ⟨h1,h2⟩:=Bool.and_eq_true_iff.mp c;unfold yeZ yha;simp_all
noncomputable def yqh (nu ma cr en:Nat):Nd:=.ins 15 ["numbers","marks","crew","entries"] [.loc nu,.loc ma,.loc cr,.loc en]
def ydK (ds:List PV) (w nth:Int) (sl:Bool) (bf:List Int) (rn:Nat):Nd:=.ins 14 ["deeds","width","nth","sleeps","before","run"] [.lst ds,.int w,.int nth,.bl sl,.lst (bf.map .int),.loc rn]
noncomputable def ykN (hl:Nat) (w:Int) (lg:Nat) (rows:List PV) (t:Int) (sn sd:Nat):Nd:=.ins 12 ["held","width","log","rows","at","seen_stamps","sides"] [.loc hl,.int w,.loc lg,.lst rows,.int t,.loc sn,.loc sd]
theorem ycY {n nu ma c en:Nat}(e:h[n]?=some (yqh nu ma c en)):yeZ [15] "numbers" (.loc n) h=some (.loc nu,h)/\yeZ [15] "marks" (.loc n) h=some (.loc ma,h)/\yeZ [15] "crew" (.loc n) h=some (.loc c,h)/\yeZ [15] "entries" (.loc n) h=some (.loc en,h) :=
 ⟨fl 0 e (by decide) (rfl) rfl,fl 1 e (by decide) (rfl) rfl,fl 2 e (by decide) (rfl) rfl,fl 3 e (by decide) (rfl) rfl⟩
theorem ydq {sl:Bool}(e:h[n]?=some (ydK ds w nth sl bf c)):yeZ [14] "deeds" (.loc n) h=some (.lst ds,h)/\yeZ [12,14] "width" (.loc n) h=some (.int w,h)/\yeZ [14] "nth" (.loc n) h=some (.int nth,h)/\yeZ [14] "sleeps" (.loc n) h=some (.bl sl,h)/\yeZ [14] "before" (.loc n) h=some (.lst (bf.map .int),h)/\yeZ [14] "run" (.loc n) h=some (.loc c,h) :=
 ⟨fl 0 e (by decide) (rfl) rfl,fl 1 e (by decide) (rfl) rfl,fl 2 e (by decide) (rfl) rfl,fl 3 e (by decide) (rfl) rfl,fl 4 e (by decide) (rfl) rfl,fl 5 e (by decide) (rfl) rfl⟩
theorem ycL {sn sd:Nat}(e:h[n]?=some (ykN hl w c rows t sn sd)):yeZ [12] "held" (.loc n) h=some (.loc hl,h)/\yeZ [12,14] "width" (.loc n) h=some (.int w,h)/\yeZ [12] "log" (.loc n) h=some (.loc c,h)/\yeZ [12] "rows" (.loc n) h=some (.lst rows,h)/\yeZ [10,12] "at" (.loc n) h=some (.int t,h)/\yeZ [12] "seen_stamps" (.loc n) h=some (.loc sn,h)/\yeZ [12] "sides" (.loc n) h=some (.loc sd,h) :=
 ⟨fl 0 e (by decide) (rfl) rfl,fl 1 e (by decide) (rfl) rfl,fl 2 e (by decide) (rfl) rfl,fl 3 e (by decide) (rfl) rfl,fl 4 e (by decide) (rfl) rfl,fl 5 e (by decide) (rfl) rfl,fl 6 e (by decide) (rfl) rfl⟩
end
def mK (k:Nat) (m:Str) (f:Fn) (as:XA) (ρ:PSt) (x:PV) (h1:AH):Option (PV×AH):=match yha x h1 with
 | some (k',ns,_)=>if k'=k/\m∉ns then ob (as ρ h1) fun ys h2=>f (x::ys) h2 else none
 | none=>none
def fL (cs:List Nat) (f:Str) (ρ:PSt) (y x:PV) (h2:AH):Option (Out×AH):=match x with
 | .loc n=>(match h2[n]? with|some (.ins k ns xs)=>if k∈cs/\ns.length<1000 then some (.nx ρ,h2.set n (.ins k (putN f y ns xs).1 (putN f y ns xs).2)) else none|_=>none)
 | _=>none
section
variable {h:AH}{ρ:PSt}
theorem ycm:yg k m f e b ρ h=ob (e ρ h) fun x h1=>mK k m f b ρ x h1:=id rfl
theorem yqz:ycZ cs f eo ev ρ h=ob (ev ρ h) fun y h1=>ob (eo ρ h1) fun x h2=>fL cs f ρ y x h2:=id rfl
theorem yD (e:h[n]?=some (.ins k ns xs)) (c:decide (m∈ns)=false):mK k m f b ρ (.loc n) h=ob (b ρ h) fun ys h2=>f (.loc n::ys) h2:=by unfold mK yha;simp_all
theorem yfn (e:h[n]?=some (.ins k ns xs)) (b:(decide (k∈cs) && decide (ns.length<1000))=true) (hp:putN f y ns xs=(ns',xs')):fL cs f ρ y (.loc n) h=some (.nx ρ,h.set n (.ins k ns' xs')):=by obtain ⟨h1,h2⟩:=Bool.and_eq_true_iff.mp b;unfold fL;simp only [e];rw [if_pos ⟨of_decide_eq_true h1,of_decide_eq_true h2⟩,hp]
end
noncomputable def W5:List Str:=["plus","minus","times","less","same"]
theorem yxD (h:w∈W5):w = "plus"\/w = "minus"\/w = "times"\/w = "less"\/w = "same":=by simpa [W5] using h
inductive Rw where
 | let_ (r:Str) (n:Int)|take (r p:Str)|put (p s:Str)|throw (nm r:Str)|wait|either (k:Int)|guard (nm r:Str) (k:Int)|settle|reckon (w r s t:Str)|jump (k:Int)|unl (s:Str) (k:Int)|lay
noncomputable def yV:Rw->PV
 | .let_ r n=>.tup [.str "let",.str r,.int n]
 | .take r p=>.tup [.str "take",.str r,.str p]
 | .put p s=>.tup [.str "put",.str p,.str s]
 | .throw nm r=>.tup [.str "throw",.str nm,.str r]
 | .wait=>.tup [.str "wait"]
 | .either k=>.tup [.str "either",.int k]
 | .guard nm r k=>.tup [.str "guard",.str nm,.str r,.int k]
 | .settle=>.tup [.str "settle"]
 | .jump k=>.tup [.str "jump",.int k]
 | .unl s k=>.tup [.str "unless",.str s,.int k]
 | .reckon w r s t=>.tup [.str w,.str r,.str s,.str t]
 | .lay=>.tup [.str "lay"]
noncomputable def rdr (ws:List Str) (k:Nat):Nd:=.ins 10 ["words","at"] [.lst (ws.map .str),.int k]
def hR (h:AH) (o:Nat) (ws:List Str) (k:Nat):AH:=h.set o (rdr ws k)
noncomputable def hdV:List Str->PV
 | []=>.non
 | w::_=>.str w
def Tk (m:Str) (f:Fn) (xs:List PV) (v:PV) (w:List Str):Prop:=∀ ⦃h:AH⦄ ⦃o:Nat⦄ ⦃ws:List Str⦄ ⦃k:Nat⦄ ⦃r:List Str⦄ ⦃as:XA⦄ ⦃ρ:PSt⦄,o<h.length/\ws.length<=100000->ws.drop k=w++r->as ρ (hR h o ws k)=some (xs,hR h o ws k)->mK 10 m f as ρ (.loc o) (hR h o ws k)=some (v,hR h o ws (k+w.length))
section
variable {h:AH}{o:Nat}{ws:List Str}{k:Nat}{w m:Str}{r:List Str}{f:Fn}{xs:List PV}{v:PV}{ρ:PSt}
theorem yqi (b:o<h.length):(hR h o ws k)[o]?=some (rdr ws k):=getElem?_set_self b
theorem Tk.mk {w:List Str}(c:decide (m∈(["words","at"]:List Str))=false) (H:∀ {h:AH}{o:Nat}{ws:List Str}{k:Nat}{r:List Str},o<h.length/\ws.length<=100000->ws.drop k=w++r->f (.loc o::xs) (hR h o ws k)=some (v,hR h o ws (k+w.length))):Tk m f xs v w:=fun _ _ _ _ _ _ _ G e b=>by rw [yD (yqi G.1) c,b,ybo,H G e]
theorem ypu (b:o<h.length):yeZ [10] "words" (.loc o) (hR h o ws k)=some (.lst (ws.map .str),hR h o ws k):=fl 0 (yqi b) (by decide) (rfl) rfl
theorem yAp (b:o<h.length):yeZ [10,12] "at" (.loc o) (hR h o ws k)=some (.int k,hR h o ws k):=fl 1 (yqi b) (by decide) (rfl) rfl
theorem pR {j:Nat}(b:o<h.length):fL [10,12] "at" ρ (.int j) (.loc o) (hR h o ws k)=some (.nx ρ,hR h o ws j):=(yfn (ns':=["words","at"]) (xs':=[.lst (ws.map _),.int j]) (yqi b) (rfl) (rfl)).trans (by unfold hR rdr;rw [List.set_set])
theorem yHP (e:ws.drop k=w::r):ws[k]?=some w/\k<ws.length/\ws.drop (k+1)=r:=by
 have b:k<ws.length:=Classical.byContradiction fun z=>by rw [List.drop_of_length_le (by omega)] at e;cases e
 rw [List.drop_eq_getElem_cons b] at e;cases e;exact ⟨List.getElem?_eq_getElem b,b,rfl⟩
theorem d_1 (e:ws.drop k=w::r):ws.drop (k+1)=r:=(yHP e).2.2
theorem yqj (e:ws.drop k=a++b):ws.drop (k+a.length)=b:=by rw [<- List.drop_drop,e,List.drop_left]
variable (G:o<h.length/\ws.length<=100000)
include G
theorem yeL (e:ws.drop k=r):mK 10 "ahead" ybw yh ρ (.loc o) (hR h o ws k)=some (hdV r,hR h o ws k):=by
 rw [yD (yqi G.1) (by rfl'),yve,ybo];unfold ybw;rw [yo];show ob (ym _ _ [.val _] _) fnK=_;cases r with
 | nil=>simpa [ypu G.1,yAp G.1,length_map,Int.ofNat_lt,show ¬ k<ws.length from by simp_all,G.2,hdV,↓reduceIte]
 | cons w r =>
  obtain ⟨c,d,_⟩:=yHP e;have g:atI (ws.map PV.str) k=some _:=ycO (by rw [getElem?_map,c];rfl)
  simpa [ypu G.1,yAp G.1,length_map,Int.ofNat_lt,d,g,G.2,hdV,↓reduceIte]
end
section
variable {w nm a b c:Str}{n:Int}
theorem ynZ {w:Str}:(isN (.str w)=true)=False:=eq_false (by intro z;cases z)
theorem yAq {w:Int}:(isN (.int w)=true)=False:=eq_false (by intro z;cases z)
theorem ygl:Tk "taken" ybx [] (.str w) [w]:=.mk (rfl) fun {h o ws k r} G e=>by
 unfold ybx;rw [yo];show ob (ym _ _ [.val _,.no] _) fnK=_
 simpa [ycm,yeL G e,hdV,List.cons_append,ynZ,yAp G.1,yqz,↓reduceIte]
 rw [show (k:Int)+1=(k+1:Nat) from rfl,pR G.1];symm
theorem yjG:Tk "pass_over" yQ [.str w] .non [w]:=.mk (rfl) fun {h o ws k r} G e=>by
 unfold yQ;rw [yo];show ob (ym _ _ [.val _,.val _,.no] _) fnK=_
 simpa [ycm,ygl G e]
def yeh (r:Str):Prop:=∀ h,yip [.str r] h=some (.bl true,h)
theorem ygG (g:yeh w):Tk "slot_taken" yy [] (.str w) [w]:=.mk (rfl) fun {h o ws k r} G e=>by
 unfold yy;rw [yo];show ob (ym _ _ [.val _,.no] _) fnK=_
 simpa [ycm,ygl G e,g _]
def yiw (r:Str):Prop:=∀ h,yiq [.str r] h=some (.bl true,h)
theorem yxE (g:yiw w):Tk "name_taken" ybC [] (.str w) [w]:=.mk (rfl) fun {h o ws k r} G e=>by
 unfold ybC;rw [yo];show ob (ym _ _ [.val _,.no] _) fnK=_
 simpa [ycm,ygl G e,g _]
theorem yvY (g:0<=n/\n<B64):Tk "number_taken" ybJ [] (.int n) [toString n]:=.mk (rfl) fun {h o ws k r} G e=>by
 unfold ybJ;rw [yo];show ob (ym _ _ [.val _,.no,.no] _) fnK=_
 simpa [ycm,ygl G e,ymy g.1 g.2,yAq,↓reduceIte]
theorem yGA (e:ρ[i]?=some (.val (.str w))) (n:decide (w=l)=false):ym (ybG (yt (xOp oEq (ye i) (xC (.str l)))) A yS) B ρ h=B ρ h:=by
 have f:ye i ρ h=some (.str w,h):=by unfold ye;rw [e]
 simpa [f,of_decide_eq_false n,↓reduceIte]
theorem yvZ (g:yeh a) (f:yeh b) (i:yeh c):Tk "reckon_taken" ybK [.str w] (.ins 2 ["word","slot","one","other"] [.str w,.str a,.str b,.str c]) [a,b,c]:=.mk (rfl) fun {h o ws k r} G e=>by
 unfold ybK;rw [yo];show ob (ym _ _ [.val _,.val _,.no,.no,.no] _) fnK=_
 simpa [ycm,ygG g G e,ygG f G (d_1 e),ygG i G (d_1 (d_1 e))]
 rfl
end
section
variable {w nm a b:Str}{n:Int}
theorem yGB (d:yeh a) (g:0<=n/\n<B64):Tk "plain_taken" yz [.str "let"] (.ins 1 ["slot","number"] [.str a,.int n]) [a,tI n]:=.mk (rfl) fun {h o ws k r} G e=>by
 unfold yz;rw [yo];show ob (ym _ _ [.val _,.val _,.no,.no,.no] _) fnK=_
 simpa [ycm,ygG d G e,yvY g G (d_1 e)]
 rfl
theorem yxF (g:yeh a) (f:yeh b):Tk "plain_taken" yz [.str "take"] (.ins 3 ["slot","place"] [.str a,.str b]) [a,b]/\Tk "plain_taken" yz [.str "put"] (.ins 4 ["place","slot"] [.str a,.str b]) [a,b]:=by
 constructor
 all_goals
  refine .mk (by rfl') fun {h o ws k r} G e=>?_
  unfold yz;rw [yo];show ob (ym _ _ [.val _,.val _,.no,.no,.no] _) fnK=_
  repeat rw [yGA rfl (rfl)]
  simpa [ycm,ygG g G e,ygG f G (d_1 e)]
  rfl
theorem yAr (g:yiw a) (f:yeh b):Tk "plain_taken" yz [.str "throw"] (.ins 8 ["name","slot"] [.str a,.str b]) [a,b]:=.mk (by rfl') fun {h o ws k r} G e=>by
 unfold yz;rw [yo];show ob (ym _ _ [.val _,.val _,.no,.no,.no] _) fnK=_
 repeat rw [yGA rfl (rfl)]
 simpa [ycm,yxE g G e,ygG f G (d_1 e)]
 rfl
theorem yDE:Tk "plain_taken" yz [.str "wait"] (.ins 9 [] []) []:=.mk (by rfl') fun _ _=>by kernel_rfl!
theorem ywa (g:w∈W5) (p:yeh a) (i:yeh b) (q:yeh c):Tk "plain_taken" yz [.str w] (.ins 2 ["word","slot","one","other"] [.str w,.str a,.str b,.str c]) [a,b,c]:=.mk (by rfl') fun {h o ws k r} G e=>by
 have j:∀ h,yio [.str w] h=some (.bl true,h):=fun h=>by rcases yxD g with rfl|rfl|rfl|rfl|rfl<;>kernel_rfl!
 unfold yz;rw [yo];show ob (ym _ _ [.val _,.val _,.no,.no,.no] _) fnK=_;have m:∀ l∈(["let","take","put","throw","wait"]:List Str),decide (w=l)=false:=by rcases yxD g with rfl|rfl|rfl|rfl|rfl<;>rfl'
 repeat rw [yGA rfl (m _ (by simp))]
 simpa [ycm,j,yvZ (w:=w) p i q G e]
end
section
variable {n:Nat}{ar:Int}{w:Str}{tl wa wb:List Str}{v:PV}{va vb:List PV}
theorem yjH (c:(decide (w = "if") || decide (w = "either") || decide (w = "try"))=false) (d:ar<=8) (P:Tk "plain_taken" yz [.str w] v tl):Tk "part_taken" (yF (n+1)) [.int ar] v (w::tl):=.mk (by rfl') fun {h o ws k r} G e=>by
 simp only [Bool.or_eq_false_iff,decide_eq_false_iff_not] at c;unfold yF;rw [yo];show ob (ym _ _ [.val _,.val _,.no] _) fnK=_
 simpa [show (ar>8)=False from eq_false (by omega),ycm,ygl G e,c.1.1,c.1.2,c.2,P G (d_1 e),↓reduceIte]
 grind
theorem ywb (A:Tk "side_taken" (yr n) [.int ar] (.lst va) wa) (B:Tk "side_taken" (yr n) [.int ar] (.lst vb) wb):Tk "either_taken" (ybn (n+1)) [.int ar] (.ins 6 ["parts","others"] [.lst va,.lst vb]) (wa++("or":Str)::wb):=.mk (rfl) fun {h o ws k r} G e=>by
 rw [append_assoc] at e;have b:=yqj e;unfold ybn;rw [yo];show ob (ym _ _ [.val _,.val _,.no,.no] _) fnK=_
 simpa [ycm,A G e,yjG G b,B G (d_1 b)]
 rw [length_append,show k+wa.length+1+wb.length=k+(wa.length+wb.length+1) by omega];rfl
theorem yGC (c:yiw nm) (d:yeh s) (A:Tk "side_taken" (yr n) [.int ar] (.lst va) wa) (B:Tk "side_taken" (yr n) [.int ar] (.lst vb) wb):Tk "try_taken" (ybL (n+1)) [.int ar] (.ins 7 ["parts","name","slot","others"] [.lst va,.str nm,.str s,.lst vb]) (wa++("on":Str)::nm::s::wb):=.mk (rfl) fun {h o ws k r} G e=>by
 rw [append_assoc] at e;have b:=yqj e;unfold ybL;rw [yo];show ob (ym _ _ [.val _,.val _,.no,.no,.no,.no] _) fnK=_
 simpa [ycm,A G e,yjG G b,yxE c G (d_1 b),ygG d G (d_1 (d_1 b)),B G (d_1 (d_1 (d_1 b)))]
 rw [length_append,show k+wa.length+3+wb.length=k+(wa.length+wb.length+3) by omega];rfl
theorem ysT (c:ar<=8):(Tk "either_taken" (ybn n) [.int (ar+1)] v tl->Tk "part_taken" (yF (n+1)) [.int ar] v ("either"::tl))/\(Tk "try_taken" (ybL n) [.int (ar+1)] v tl->Tk "part_taken" (yF (n+1)) [.int ar] v ("try"::tl)):=by
 constructor
 all_goals
  refine fun P=>.mk (by rfl') fun {h o ws k r} G e=>?_
  unfold yF;rw [yo];show ob (ym _ _ [.val _,.val _,.no] _) fnK=_
  simpa [show (ar>8)=False from eq_false (by omega),ycm,ygl G e,show (("either":Str) = "if")=False from eq_false (by rfl'),show (("try":Str) = "if")=False from eq_false (by rfl'),show (("try":Str) = "either")=False from eq_false (by rfl'),P G (d_1 e),↓reduceIte]
  rw [show k+1+tl.length=k+(tl.length+1) by omega]
abbrev Q:=PV×List Str
noncomputable def wr:List Q->List Str
 | []=>[]
 | q::l=>";"::(q.2++wr l)
def wl:List Q->List Str
 | []=>[]
 | q::l=>q.2++wr l
def PQ (n:Nat) (ar:Int) (q:Q):Prop:=Tk "part_taken" (yF n) [.int ar] q.1 q.2/\∃ w tl,q.2=w::tl/\(w = ")")=False
def ysU (n:Nat):XS:=ym (ybf (yg 10 "pass_over" yQ (ye 0) (yb (xC (.str ";")) (yh)))) (yeV 2 (yg 10 "part_taken" (yF n) (ye 0) (yb (ye 1) (yh))))
variable {h:AH}{o:Nat}{ws rest:List Str}{as:XA}{ρ:PSt}(G:o<h.length/\ws.length<=100000) (hr:rest=[]\/∃ r,rest=(")":Str)::r)
include G hr
theorem ysV:∀ l a (k d:Nat),(∀ q∈l,PQ n ar q)->l.length<d->a.length+l.length<=1000->ws.drop k=wr l++rest ->
  whl ykE (ysU n) d [.val (.loc o),.val (.int ar),.own (.lst a)] (hR h o ws k)=some (.nx [.val (.loc o),.val (.int ar),.own (.lst (a++l.map (·.1)))],hR h o ws (k+(wr l).length))
 | [],a,k,d+1,_,_,_,e=>by
  have c:ykE [.val (.loc o),.val (.int ar),.own (.lst a)] (hR h o ws k)=some (false,hR h o ws k):=by
   unfold ykE
   simpa [ycm,yeL G (e)]
   rcases hr with rfl|⟨r,rfl⟩<;>kernel_rfl!
  rw [yoX,c,ybo,map_nil,append_nil];rfl
 | q::l,a,k,d+1,H,g,i,e=>by
  have e:ws.drop k=(";":Str)::(q.2++(wr l++rest)):=by rw [e,<- append_assoc];rfl
  have f:=d_1 e;rw [length_cons] at g i;have c:ykE [.val (.loc o),.val (.int ar),.own (.lst a)] (hR h o ws k)=some (true,hR h o ws k):=by
   unfold ykE
   simpa [ycm,yeL G e,hdV]
  have b:ysU n [.val (.loc o),.val (.int ar),.own (.lst a)] (hR h o ws k)=some (.nx [.val (.loc o),.val (.int ar),.own (.lst (a++[q.1]))],hR h o ws (k+1+q.2.length)):=by
   unfold ysU
   simpa [ycm,yjG G e]
   rw [yjz rfl]
   simpa [ycm,(H q mem_cons_self).1 G f,show a.length<100000 by omega,↓reduceIte]
  rw [yoX,c,ybo,b,ybo];show whl ykE (ysU n) d _ _=_;rw [ysV l _ _ d (fun q h=>H q (mem_cons_of_mem _ h)) (by omega) (by grind) (yqj f),append_assoc,show k+1+q.2.length+(wr l).length=k+(wr (q::l)).length by show _=k+((q.2++wr l).length+1);grind];rfl
theorem list_eq (H:∀ q∈l,PQ n ar q) (a:l.length<=90) (e:ws.drop k=wl l++rest) (b:as ρ (hR h o ws k)=some ([.int ar],hR h o ws k)) :
  mK 10 "list_taken" (ybD (n+1)) as ρ (.loc o) (hR h o ws k)=some (.lst (l.map (·.1)),hR h o ws (k+(wl l).length)):=by
 rw [yD (yqi G.1) (rfl),b,ybo];unfold ybD;rw [yo];show ob (ym _ (ym _ (ym (ydy 100 ykE (ysU n)) _)) [.val _,.val _,.no] _) fnK=_;cases l with
 | nil =>
  have e:ws.drop k=rest:=e;rcases hr with rfl|⟨r,rfl⟩
  .simpa [ycm,yeL G e,hdV]
   rfl
  .simpa [ycm,yeL G e,hdV,ynZ,↓reduceIte]
   rfl
 | cons q l =>
  obtain ⟨P,w,tl,g,c⟩:=H q mem_cons_self;have e:ws.drop k=q.2++(wr l++rest):=by rw [e,<- append_assoc];rfl
  have d:ws.drop k=w::(tl++(wr l++rest)):=by rw [e,g];rfl
  rw [length_cons] at a;have f:=ysV G hr l [q.1] _ 100 (fun q h=>H q (mem_cons_of_mem _ h)) (by omega) (by grind) (yqj e)
  simpa [ycm,yeL G d,hdV,ynZ,c,P G e,↓reduceIte]
  rw [show ydy 100 ykE _ _ _=_ from f];rw [show k+q.2.length+(wr l).length=k+(wl (q::l)).length by show _=k+(q.2++wr l).length;grind];rfl
omit G hr
theorem yDF (H:∀ q∈l,PQ n ar q) (a:l.length<=90):Tk "side_taken" (yr (n+2)) [.int ar] (.lst (l.map (·.1))) ("("::(wl l++[(")":Str)])):=.mk (rfl) fun {h o ws k r} G e=>by
 have e:ws.drop k=("(":Str)::(wl l++(")":Str)::r):=by rw [e];simp
 unfold yr;rw [yo];show ob (ym _ _ [.val _,.val _,.no] _) fnK=_
 simpa [ycm,yjG G e,list_eq G (.inr ⟨_,rfl⟩) H a (d_1 e),yjG G (yqj (d_1 e))]
 grind
end
section
variable {n:Nat}{ar:Int}{tl wa wb:List Str}{v:PV}{va vb:List PV}
theorem yIw (d:yeh s) (A:Tk "side_taken" (yr n) [.int ar] (.lst va) wa) (B:Tk "side_taken" (yr n) [.int ar] (.lst vb) wb):Tk "if_taken" (ybU (n+1)) [.int ar] (.ins 5 ["slot","parts","others"] [.str s,.lst va,.lst vb]) (s::(wa++("else":Str)::wb)):=.mk (rfl) fun {h o ws k r} G e=>by
 rw [List.cons_append,append_assoc] at e;have b:=d_1 e;have c:=yqj b;unfold ybU;rw [yo];show ob (ym _ _ [.val _,.val _,.no,.no,.no] _) fnK=_
 simpa [ycm,ygG d G e,A G b,yjG G c,B G (d_1 c)]
 rw [length_append,show k+1+wa.length+1+wb.length=k+(wa.length+wb.length+1+1) by omega];rfl
theorem ywc (c:ar<=8) (P:Tk "if_taken" (ybU n) [.int (ar+1)] v tl):Tk "part_taken" (yF (n+1)) [.int ar] v ("if"::tl):=.mk (by rfl') fun {h o ws k r} G e=>by
 unfold yF;rw [yo];show ob (ym _ _ [.val _,.val _,.no] _) fnK=_
 simpa [show (ar>8)=False from eq_false (by omega),ycm,ygl G e,P G (d_1 e),↓reduceIte]
 rw [show k+1+tl.length=k+(tl.length+1) by omega]
end
noncomputable def SL:List Str:=["a","b","c","d","e","f","g","h"]
def sx (r:Str):Nat:=SL.idxOf r
section
variable {h:AH}{n hl lg sn sd:Nat}{w t:Int}{rows:List PV}{hs:List Int}{r:Str}
theorem ygH (b:r∈SL):ydX [.str r] h=some (.int (sx r),h):=by unfold SL at b;simp only [mem_cons,not_mem_nil,or_false] at b;rcases b with rfl|rfl|rfl|rfl|rfl|rfl|rfl|rfl<;>kernel_rfl!
theorem yDG (a:r∈SL):sx r<8:=List.idxOf_lt_length_of_mem a
theorem ygm {n:Nat}{xs:List Int}(e:h[n]?=some (.lst (xs.map .int))) (b:i<xs.length):ycM (.loc n) (.int i) h=some (.int (xs.getD i 0),h):=by
 unfold ycM;simp only [e];have:(xs.map PV.int)[i]?=some (.int (xs.getD i 0)):=by rw [getElem?_map,getD_eq_getElem?_getD,List.getElem?_eq_getElem b];rfl
 rw [ycO this]
theorem yix {b:PV}(e:h[n]?=some (ykN hl w lg rows t sn sd)) {i:Nat}(c:t=i) (g:rows[i]?=some b):ydI [.loc n] h=some (b,h):=by
 obtain ⟨l,j,k,f,d,m,o⟩:=ycL e;subst c;unfold ydI;rw [yo];show ob (yO _ [.val _] h) fnK=_
 simpa [f,d]
 rw [ycO g];rfl
variable (e:h[n]?=some (ykN hl w lg rows t sn sd)) (eh:h[hl]?=some (.lst (hs.map .int))) (h8:hs.length=8) (hr:r∈SL)
include e eh h8 hr
theorem yde:yba [.loc n,.str r] h=some (.int (hs.getD (sx r) 0),h):=by
 obtain ⟨a,d,i,f,c,g,b⟩:=ycL e;unfold yba;rw [yo];show ob (yO _ [.val _,.val _] h) fnK=_
 simpa [a,ygH hr]
 rw [ygm eh (by rw [h8];exact yDG hr),ybo]
theorem yiy:ybY [.loc n,.str r,.int v] h=some (.non,h.set hl (.lst ((hs.set (sx r) v).map .int))):=by
 obtain ⟨b,f,j,g,k,i,d⟩:=ycL e;unfold ybY;rw [yo];show ob (ymi _ _ _ [.val _,.val _,.val _] h) fnK=_;show ob (ob (some _) _) _=_;rw [ybo]
 simpa [b,ygH hr]
 have c:sx r<hs.length:=by rw [h8];exact yDG hr
 have a:ixN (hs.map PV.int).length (sx r)=some (sx r):=by unfold ixN;simp [c]
 simp only [eh,a];rw [map_set];rfl
theorem yfo (c:1<=w):ybI [.loc n,.str r] h=some (.int (hs.getD (sx r) 0%w),h):=by
 obtain ⟨g,a,j,f,d,i,b⟩:=ycL e;unfold ybI;rw [yo];show ob (yO _ [.val _,.val _] h) fnK=_
 simpa [ycm,yD (m:="held_in") e (rfl),yde e eh h8 hr,a]
 grind
end
noncomputable def yhq:Rw->Rw->Bool
 | .either _,.wait=>true
 | .guard nm _ _,.throw nm' _=>decide (nm=nm')
 | _,_=>false
noncomputable def ygn:Rw->Bool|.either _=>true|.guard ..=>true|_=>false
noncomputable def ywd:Rw->Bool|.wait=>true|.throw ..=>true|_=>false
def sdV (s:Rw×List Int):PV:=.tup [yV s.1,.lst (s.2.map .int)]
def tkL (sd:List (Rw×List Int)) (r:Rw):Nat->Nat
 | 0=>0
 | k+1=>match sd[k]? with|some s=>if yhq s.1 r then k+1 else tkL sd r k|none=>0
section
variable {h:AH}{n hl lg sn sdl:Nat}{w t:Int}{rows:List PV}{hs:List Int}{r:Rw}{sd:List (Rw×List Int)}
theorem ywe (a:ygn b=true) (c:ywd r=true):yir [yV b,yV r] h=some (.bl (yhq b r),h):=by
 cases b<;>first|(cases a;done)|skip
 all_goals cases r<;>first|(cases c;done)|kernel_rfl!|skip
 unfold yir;rw [yo];show ob (ym _ _ [.val _,.val _] h) fnK=_;unfold yV
 simpa [yhp]
 rfl
theorem ywf:whl c s (k+1) ρ h=ob (c ρ h) fun a h1=>if a=true then ob (s ρ h1) fun o h2=>match o with|.nx ρ'=>whl c s k ρ' h2|.ct ρ'=>whl c s k ρ' h2|.bk ρ'=>some (.nx ρ',h2)|.rt y=>some (.rt y,h2) else some (.nx ρ,h1):=rfl
theorem ypv (e:h[n]?=some (ykN hl w lg rows t sn sdl)) (es:h[sdl]?=some (.lst (sd.map sdV))) (z:∀ s∈sd,ygn s.1=true) (o:ywd r=true) (j:sd.length<900):ybz [.loc n,yV r] h=some (.int (tkL sd r sd.length),h):=by
 obtain ⟨G,F,I,E,D,H,i⟩:=ycL e;unfold ybz;rw [yo];show ob (ym _ (ym (ydy 1000 _ _) _) [.val (.loc n),.val (yV r),.no] h) fnK=_;have x:∀ (c:XT) (s:XS),c=(yyB (yt (xOp (oGt) (ye 2) (xC (.int 0)))) (yjs (yt (yJ yir (yb (xOp (ybO) (xOp (ycM) (yY [12] "sides" (ye 0)) (xOp ytU (ye 2) (xC (.int 1)))) (xC (.int 0))) (yb (ye 1) (yh)))))))->s=(ybs (xOp ytU (ye 2) (xC (.int 1))) (yv 2)) ->
   ∀ (k f:Nat),k<=sd.length->k<f->whl c s f [.val (.loc n),.val (yV r),.val (.int k)] h=some (.nx [.val (.loc n),.val (yV r),.val (.int (tkL sd r k))],h):=by
  intro c s b hs k
  induction k with
  | zero =>
   intro f _ C;obtain ⟨f,rfl⟩:∃ g,f=g+1:=⟨f-1,by omega⟩
   subst b hs;rw [ywf];rfl
  | succ k ih =>
   intro f l C;obtain ⟨f,rfl⟩:∃ g,f=g+1:=⟨f-1,by omega⟩
   have a:k<sd.length:=l;have d:sd[k]?=some sd[k]:=List.getElem?_eq_getElem a;have p:ycM (.loc sdl) (.int (((k+1:Nat):Int)-1)) h=some (sdV sd[k],h):=by unfold ycM;simp only [es];rw [show ((k+1:Nat):Int)-1=(k:Nat) by omega,ycO (by rw [getElem?_map,d];rfl)]
   have q:ybO (sdV sd[k]) (.int 0) h=some (yV sd[k].1,h):=rfl;have y:=ywe (h:=h) (z sd[k] (getElem_mem a)) o;have B:oGt (.int ((k+1:Nat):Int)) (.int 0) h=some (.bl true,h):=by show some (PV.bl _,h)=_;rw [decide_eq_true (by omega)]
   have m:c [.val (.loc n),.val (yV r),.val (.int ((k+1:Nat):Int))] h=some (!(yhq sd[k].1 r),h):=by
    subst b;show ob _ _=_
    simpa [i,p,q,y,B]
   rw [ywf,m,ybo];show (if (!(yhq sd[k].1 r))=true then _ else _)=some (Out.nx [_,_,.val (.int ((match sd[k]? with|some s=>if yhq s.1 r then k+1 else tkL sd r k|none=>0:Nat):Int))],h);rw [d];cases A:yhq sd[k].1 r with
   | true=>simp_all
   | false =>
    simp only [Bool.not_false,if_true,A,Bool.false_eq_true,if_false];have:=ih f (by omega) (by omega);rw [<- this];subst hs;show ob (some (Out.nx [.val (.loc n),.val (yV r),.val (.int (((k+1:Nat):Int)-1))],h)) _=_;rw [ybo,show ((k+1:Nat):Int)-1=(k:Nat) by omega]
 have u:ybW [.loc sdl] h=some (.int sd.length,h):=by rw [yie es,length_map]
 have v:=x _ _ rfl rfl sd.length 1000 (Nat.le_refl _) (by omega)
 simpa [i,u]
 exact (congrArg (ob · _) v).trans rfl
end
section
variable {h:AH}{n hl lg sn sdl:Nat}{w:Int}{rows:List PV}{t:Nat}{r:Rw}
theorem ymC {t:Int}(e:h[n]?=some (ykN hl w lg rows t sn sdl)):fL [10,12] "at" ρ (.int j) (.loc n) h=some (.nx ρ,h.set n (ykN hl w lg rows j sn sdl)):=yfn e (rfl) (rfl)
theorem ywg {t:Int}(e:h[n]?=some (ykN hl w lg rows t sn sdl)):fL [12] "held" ρ (.loc j) (.loc n) h=some (.nx ρ,h.set n (ykN j w lg rows t sn sdl)):=yfn e (rfl) (rfl)
theorem yjc (e:h[n]?=some (ykN hl w lg rows t sn sdl)) (c:rows[t]?=some (yV r)):yci [.loc n] h=ob (goB [.val (.loc n),.val (yV r)] (h.set n (ykN hl w lg rows (t+1:Nat) sn sdl))) fnK:=by
 obtain ⟨g,j,i,d,b,f,k⟩:=ycL e;unfold yci;rw [yo];show ob (ym _ _ [.val _,.no] h) fnK=_
 simpa [ycm,yD (m:="row") e (rfl),yix e rfl c,b,yqz,ymC e]
 rfl
theorem yAs (e:h[n]?=some (ykN hl w lg rows t sn sdl)) (c:rows[t]?=some (yV r)):ybt [.loc n] h=ob (loB [.val (.loc n),.val (yV r)] h) fnK:=by
 unfold ybt;rw [yo];show ob (ym _ loB [.val _,.no] h) fnK=_
 simpa [ycm,yD (m:="row") e (by rfl'),yix e rfl c]
abbrev M2 (m:Str) (f:Fn):XE:=yg 12 m f (ye 0) (yb (ye 1) (yh))
theorem yDH:goB [.val x,.val (yV (.let_ s k))] h=ybf (M2 "go_plain" yE) [.val x,.val (yV (.let_ s k))] h:=by kernel_rfl!
theorem yAt:goB [.val x,.val (yV (.take s k))] h=ybf (M2 "go_plain" yE) [.val x,.val (yV (.take s k))] h:=by kernel_rfl!
theorem yDI:goB [.val x,.val (yV (.put s k))] h=ybf (M2 "go_plain" yE) [.val x,.val (yV (.put s k))] h:=by kernel_rfl!
theorem yAu:goB [.val x,.val (yV .wait)] h=ybf (M2 "leave" yco) [.val x,.val (yV .wait)] h:=by kernel_rfl!
theorem ywh:goB [.val x,.val (yV (.throw s k))] h=ybf (M2 "throw" ycI) [.val x,.val (yV (.throw s k))] h:=by kernel_rfl!
theorem ysW:goB [.val x,.val (yV (.either k))] h=goE [.val x,.val (yV (.either k))] h:=by kernel_rfl!
theorem ywi {s r:Str}:goB [.val x,.val (yV (.guard s r k))] h=goE [.val x,.val (yV (.guard s r k))] h:=by kernel_rfl!
theorem ysX:goB [.val x,.val (yV .settle)] h=goS [.val x,.val (yV .settle)] h:=by kernel_rfl!
theorem yAv:goB [.val x,.val (yV (.jump k))] h=ybf (M2 "lead" ybR) [.val x,.val (yV (.jump k))] h:=by kernel_rfl!
theorem ysY:goB [.val x,.val (yV (.unl s k))] h=ybf (M2 "lead" ybR) [.val x,.val (yV (.unl s k))] h:=by kernel_rfl!
theorem ysZ {w a b c:Str}(g:w∈W5):goB [.val x,.val (yV (.reckon w a b c))] h=ybf (M2 "go_plain" yE) [.val x,.val (yV (.reckon w a b c))] h:=by
 rcases yxD g with rfl|rfl|rfl|rfl|rfl
 all_goals kernel_rfl!
end
structure Lc where
 rn:Nat
 hl:Nat
 lg:Nat
 st:Nat
 ls:Nat
 sn:Nat
 sd:Nat
 ly:List Nat
structure RS where
 t:Nat
 hs:List Int
 sd:List (Rw×List Int)
 dd:List (List Key×List PV)
 sn:List (Nat×Int×Int)
noncomputable def sK (m:List (Nat×Int×Int)):List Key:=m.map fun p=>.inl (p.1:Int)
noncomputable def sA (m:List (Nat×Int×Int)):List PV:=m.map fun p=>.int p.2.1
noncomputable def sB (m:List (Nat×Int×Int)):List PV:=m.map fun p=>.int p.2.2
noncomputable def yfa (m:List (Nat×Int×Int)) (k:Nat) (a b:Int):List (Nat×Int×Int):=if k∈m.map (·.1) then m.map (fun p=>if p.1=k then (k,a,b) else p) else m++[(k,a,b)]
noncomputable def lay:List Nat->List (List Key×List PV)->List (Nat×Nd)
 | l::ls,d::ds=>(l,.dct d.1 d.2)::lay ls ds
 | _,_=>[]
def RM (w:Int) (rows:List PV) (c:Lc) (s:RS) (rest:List (Nat×Nd)):List (Nat×Nd) :=
 (c.rn,ykN c.hl w c.lg rows s.t c.sn c.sd)::(c.hl,.lst (s.hs.map .int))::(c.lg,.ins 11 ["stack","last_seen"] [.loc c.st,.loc c.ls])::(c.st,.lst (c.ly.map .loc))::(c.ls,.dct (sK s.sn) (sA s.sn))::(c.sn,.dct (sK s.sn) (sB s.sn))::(c.sd,.lst (s.sd.map sdV))::(lay c.ly s.dd++rest)
structure RR (w:Int) (rows:List PV) (rest:List (Nat×Nd)) (h:AH) (c:Lc) (s:RS):Prop where
 at_:At h (RM w rows c s rest)
 len:c.ly.length=s.dd.length
theorem yfp:∀ l m d e,l.length=d.length->lay (l++m) (d++e)=lay l d++lay m e
 | [],_,[],_,_=>rfl
 | a::l,m,b::d,e,h=>by
  show (a,_)::lay (l++m) (d++e)=(a,_)::(lay l d++lay m e)
  rw [yfp l m d e (by simpa using h)]
def okR:Rw->Bool:=@Rw.rec (fun _=>Bool) (fun r _=>decide (r∈SL)) (fun p r=>decide (p∈SL) && decide (r∈SL)) (fun p r=>decide (p∈SL) && decide (r∈SL)) (fun _ r=>decide (r∈SL)) true (fun k=>decide (0<=k)) (fun _ r k=>decide (r∈SL) && decide (0<=k)) true (fun w a b c=>decide (w∈W5) && decide (a∈SL) && decide (b∈SL) && decide (c∈SL)) (fun k=>decide (0<=k)) (fun r k=>decide (r∈SL) && decide (0<=k)) true
def okS (s:RS):Bool:=(s.hs.length == 8) && (s.dd.length == s.sd.length+1) && decide (s.sd.length<90) && s.sd.all (fun x=>ygn x.1 && okR x.1 && (x.2.length == 8)) && s.dd.all (fun d=>decide (d.1.length<400))
noncomputable def toB:Rw->Int|.either k=>k|.guard _ _ k=>k|_=>0
noncomputable def slB:Rw->Str|.guard _ r _=>r|_=>""
def yhr (dd:List (List Key×List PV)) (k v:Int):List (List Key×List PV):=match dd.getLast? with|some d=>dd.dropLast++[ydm d.1 d.2 (.inl k) (.int v)]|none=>dd
def yjI (dd:List (List Key×List PV)):List (List Key×List PV):=match dd.getLast?,dd.dropLast.getLast? with|some d,some e=>dd.dropLast.dropLast++[yky d.1 d.2 e.1 e.2]|_,_=>dd
def yjJ (s:RS) (r:Rw) (g:Rw->List Int->List Int):Option RS:=match tkL s.sd r s.sd.length with
 | 0=>none
 | L+1=>match s.sd[L]? with|some x=>some ⟨(toB x.1).toNat,g x.1 x.2,s.sd.take L,s.dd.take (L+1),s.sn⟩|none=>none
def yta (s:RS) (w:Int) (p:Str):PV:=yxC s.dd (.inl (s.hs.getD (sx p) 0%w)) s.dd.length
def rk (w:Str) (x y:Int):Int:=if w = "plus" then (x+y)%B64 else if w = "minus" then (x-y)%B64 else if w = "times" then x*y%B64 else if w = "less" then (if x<y then 1 else 0) else (if x=y then 1 else 0)
def yqk (w:Int) (r:Rw) (s:RS):Option RS:=if (okR r && okS s)=true then (match r with
 | .let_ r n=>some ⟨s.t+1,s.hs.set (sx r) n,s.sd,s.dd,s.sn⟩
 | .take r p=>(match yta s w p with|.int v=>some ⟨s.t+1,s.hs.set (sx r) v,s.sd,s.dd,s.sn⟩|_=>none)
 | .put p r=>some ⟨s.t+1,s.hs,s.sd,yhr s.dd (s.hs.getD (sx p) 0%w) (s.hs.getD (sx r) 0),s.sn⟩
 | .either k=>some ⟨s.t+1,s.hs,s.sd++[(.either k,s.hs)],s.dd++[([],[])],s.sn⟩
 | .guard a b k=>some ⟨s.t+1,s.hs,s.sd++[(.guard a b k,s.hs)],s.dd++[([],[])],s.sn⟩
 | .settle=>if s.sd.length=0 then none else some ⟨s.t+1,s.hs,s.sd.dropLast,yjI s.dd,s.sn⟩
 | .jump k=>some ⟨k.toNat,s.hs,s.sd,s.dd,s.sn⟩
 | .unl r k=>some ⟨if s.hs.getD (sx r) 0=0 then k.toNat else s.t+1,s.hs,s.sd,s.dd,s.sn⟩
 | .wait=>yjJ s .wait fun _ q=>q
 | .throw a b=>yjJ s (.throw a b) fun x q=>q.set (sx (slB x)) (s.hs.getD (sx b) 0)
 | .reckon v a p q=>if 0<=s.hs.getD (sx p) 0/\s.hs.getD (sx p) 0<B64 then some ⟨s.t+1,s.hs.set (sx a) (rk v (s.hs.getD (sx p) 0) (s.hs.getD (sx q) 0)),s.sd,s.dd,s.sn⟩ else none
 | .lay=>none) else none
noncomputable def S0 (hs:List Int):RS:=⟨0,hs,[],[([],[])],[]⟩
section
variable {h:AH}{m:List (Nat×Nd)}
theorem At.ne (A:At h m) {i j:Nat}{p q:Nat×Nd}(a:i<j) (d:m[i]?=some p) (b:m[j]?=some q):p.1≠q.1:=by obtain ⟨e,f⟩:=List.getElem?_eq_some_iff.mp d;obtain ⟨c,g⟩:=List.getElem?_eq_some_iff.mp b;have:=List.pairwise_iff_getElem.mp A.1 i j (by simpa using e) (by simpa using c) a;simp_all
theorem yiz:∀ a dd,a.length=dd.length->(lay a dd).length=a.length
 | [],[],_=>rfl
 | _::ls,_::ds,e=>by show (lay ls ds).length+1=ls.length+1;rw [yiz ls ds (by simpa using e)]
theorem yxG:∀ a dd,a.length=dd.length->(∀ p∈lay a dd,h[p.1]?=some p.2)->Stk h a dd
 | [],[],_,_=>trivial
 | l::ls,d::ds,e,g=>⟨g _ mem_cons_self,yxG ls ds (by simpa using e) fun p hp=>g p (mem_cons_of_mem _ hp)⟩
variable {w:Int}{rows:List PV}{rest:List (Nat×Nd)}{c:Lc}{s:RS}
theorem RR.lg (R:RR w rows rest h c s):LG h c.lg c.st c.ls c.ly s.dd (sK s.sn) (sA s.sn):=⟨R.at_.get 2 rfl,R.at_.get 3 rfl,R.at_.get 4 rfl,yxG _ _ R.len fun p hp=>R.at_.2 p (by unfold RM;simp [hp])⟩
theorem RR.run (R:RR w rows rest h c s):h[c.rn]?=some (ykN c.hl w c.lg rows s.t c.sn c.sd):=R.at_.get 0 rfl
theorem RR.held (R:RR w rows rest h c s):h[c.hl]?=some (.lst (s.hs.map .int)):=R.at_.get 1 rfl
theorem RR.sds (R:RR w rows rest h c s):h[c.sd]?=some (.lst (s.sd.map sdV)):=R.at_.get 6 rfl
theorem RR.to (R:RR w rows rest h c s) (k:Nat):RR w rows rest (h.set c.rn (ykN c.hl w c.lg rows k c.sn c.sd)) c { s with t:=k }:=⟨R.at_.upd (a:=[]) _,R.len⟩
theorem RR.hold (R:RR w rows rest h c s) q:RR w rows rest (h.set c.hl (.lst (q.map .int))) c { s with hs:=q }:=⟨R.at_.upd (a:=[_]) _,R.len⟩
theorem yhs (e:okS s=true):s.hs.length=8/\s.dd.length=s.sd.length+1/\s.sd.length<90/\(∀ x∈s.sd,ygn x.1=true/\okR x.1=true/\x.2.length=8)/\∀ d∈s.dd,d.1.length<400:=by unfold okS at e;simp only [and_eq_true,beq_iff_eq,decide_eq_true_eq,List.all_eq_true] at e;obtain ⟨⟨⟨⟨i,f⟩,g⟩,b⟩,j⟩:=e;exact ⟨i,f,g,fun x a=>⟨(b x a).1.1,(b x a).1.2,(b x a).2⟩,j⟩
def dk (m:Option (PV×AH)) (ρ:PSt):Option (PV×AH):=ob (ob m fun _ h1=>some (Out.nx ρ,h1)) fnK
theorem yDJ:yE [x,yV (.let_ r k)] h=dk (mK 12 "hold" ybY (fun _ h1=>some ([.str r,.int k],h1)) [] x h) [.val x,.val (yV (.let_ r k))]:=by kernel_rfl!
theorem yDK:yE [x,yV (.put p r)] h=dk (mK 12 "do_put" ycR (fun _ h1=>some ([.str p,.str r],h1)) [] x h) [.val x,.val (yV (.put p r))]:=by kernel_rfl!
theorem yDL (R:RR w rows rest h c s) (b:rows[s.t]?=some (yV (.let_ r k))) (e:r∈SL) (d:s.hs.length=8):∃ h',yci [.loc c.rn] h=some (.non,h')/\RR w rows rest h' c ⟨s.t+1,s.hs.set (sx r) k,s.sd,s.dd,s.sn⟩:=by have a:=R.to (s.t+1);refine ⟨_,?_,a.hold _⟩;rw [yjc R.run b,yDH];show dk (mK 12 _ yE _ _ _ _) _=_;rw [yD a.run (rfl)];show dk (yE _ _) _=_;rw [yDJ,yD a.run (rfl),ybo,yiy a.run a.held d e];rfl
end
section
variable {h:AH}{w:Int}{rows:List PV}{rest:List (Nat×Nd)}{c:Lc}{s:RS}
theorem yAw (R:RR w rows rest h c s) (b:rows[s.t]?=some (yV (.jump k))) (d:0<=k):∃ h',yci [.loc c.rn] h=some (.non,h')/\RR w rows rest h' c ⟨k.toNat,s.hs,s.sd,s.dd,s.sn⟩:=by have a:=R.to (s.t+1);refine ⟨_,?_,a.to k.toNat⟩;rw [yjc R.run b,yAv];show dk (mK 12 _ ybR _ _ _ _) _=_;rw [yD a.run (rfl)];show dk (ybR _ _) _=_;rw [show ∀ x h,ybR [x,yV _] h=ob (fL [10,12] "at" [.val x,.val (yV (.jump k))] (.int k) x h) fnK by intro x h;kernel_rfl!,ymC a.run,show (k.toNat:Nat)=k by omega];rfl
theorem ytb (R:RR w rows rest h c s) (e:rows[s.t]?=some (yV (.unl r k))) (p:r∈SL) (t:s.hs.length=8) (u:0<=k):∃ h',yci [.loc c.rn] h=some (.non,h')/\RR w rows rest h' c ⟨if s.hs.getD (sx r) 0=0 then k.toNat else s.t+1,s.hs,s.sd,s.dd,s.sn⟩:=by
 have b:=R.to (s.t+1);have l:∀ h,ybO (yV (.unl r k)) (.int 0) h=some _:=fun _=>rfl
 have i:∀ h,ybO (yV (.unl r k)) (.int 1) h=some _:=fun _=>rfl
 have g:∀ h,ybO (yV (.unl r k)) (.int 2) h=some _:=fun _=>rfl
 have f:(("unless":Str) = "jump")=False:=eq_false (by rfl');have o:∃ h',ybR [.loc c.rn,yV (.unl r k)] (h.set c.rn (ykN c.hl w c.lg rows (s.t+1:Nat) c.sn c.sd))=some (.non,h')/\RR w rows rest h' c ⟨if s.hs.getD (sx r) 0=0 then k.toNat else s.t+1,s.hs,s.sd,s.dd,s.sn⟩:=by
  unfold ybR;rw [yo];have d:=yde b.run b.held t p;have st:=ymC (j:=k) (ρ:=[.val (.loc c.rn),.val (yV (.unl r k))]) b.run
  by_cases z:s.hs.getD (sx r) 0=0
  .rw [if_pos z];refine ⟨_,?_,b.to k.toNat⟩;rw [z] at d;show ob (ybG _ _ _ [.val _,.val _] _) fnK=_;clear R e
   simpa [l,i,g,f,ycm,yD (m:="held_in") b.run (by rfl'),d,yqz,st,-yzq]
   grind
  .rw [if_neg z];refine ⟨_,?_,b⟩;show ob (ybG _ _ _ [.val _,.val _] _) fnK=_
   simpa [l,i,g,f,ycm,yD (m:="held_in") b.run (by rfl'),d,z,-yzq]
 obtain ⟨h',q,n⟩:=o;refine ⟨h',?_,n⟩;rw [yjc R.run e,ysY];show dk (mK 12 _ ybR _ _ _ _) _=_;rw [yD b.run (by rfl')];show dk (ybR _ _) _=_;rw [q];rfl
theorem yAx (R:RR w rows rest h c s) {d d':List Key×List PV}(b:c.ly=l++[t]) (ed:s.dd=ds++[d]):RR w rows rest (h.set t (.dct d'.1 d'.2)) c { s with dd:=ds++[d'] }:=by
 have hl:l.length=ds.length:=by have:=R.len;simp_all
 have A:=R.at_;refine ⟨?_,by simp_all⟩;unfold RM at A ⊢;rw [b,ed,yfp _ _ _ _ hl] at A;rw [b,yfp _ _ _ _ hl,append_assoc];rw [append_assoc] at A;exact A.upd (a:=_::_::_::_::_::_::_::lay l ds) _
theorem ycf {Y:Type}{xs:List Y}(h:xs.length≠0):∃ a y,xs=a++[y]:=⟨xs.dropLast,xs.getLast (by intro z;rw [z] at h;exact h rfl),(List.dropLast_concat_getLast _).symm⟩
theorem ytc (R:RR w rows rest h c s) (hp:p∈SL) (j:r∈SL) (b:s.hs.length=8) (i:1<=w) (f:c.ly=l++[t]) (ed:s.dd=ds++[d]) (n:d.1.length<400) :
  ycR [.loc c.rn,.str p,.str r] h=some (.non,h.set t (.dct (ydm d.1 d.2 (.inl (s.hs.getD (sx p) 0%w)) (.int (s.hs.getD (sx r) 0))).1 (ydm d.1 d.2 (.inl (s.hs.getD (sx p) 0%w)) (.int (s.hs.getD (sx r) 0))).2)):=by
 obtain ⟨y,x,g,u,o,v,q⟩:=ycL R.run;have G:=R.lg;have hl:l.length=ds.length:=by have:=R.len;simp_all
 have k:=by have A:=R.at_;unfold RM at A;rw [f,ed,yfp _ _ _ _ hl] at A;exact A.2 (t,.dct d.1 d.2) (by simp [lay])
 have e:=G;rw [f] at e;unfold ycR;rw [yo];show ob (ybf _ [.val _,.val _,.val _] h) fnK=_
 simpa [g,ycm,yD (m:="box_at") R.run (by rfl'),yD (m:="held_in") R.run (by rfl'),yD (m:="write") G.ob (by rfl'),yfo R.run R.held b hp i,yde R.run R.held b j,yvW e k (Nat.lt_trans n _)]
theorem yDM (R:RR w rows rest h c s) (e:rows[s.t]?=some (yV (.put p r))) (hp:p∈SL) (k:r∈SL) (i:1<=w) (g:okS s=true):∃ h',yci [.loc c.rn] h=some (.non,h')/\RR w rows rest h' c ⟨s.t+1,s.hs,s.sd,yhr s.dd (s.hs.getD (sx p) 0%w) (s.hs.getD (sx r) 0),s.sn⟩:=by
 obtain ⟨f,o2,o,n,m⟩:=yhs g;have a:=R.to (s.t+1);obtain ⟨ds,d,ed⟩:=ycf (xs:=s.dd) (by omega);obtain ⟨l,t,b⟩:=ycf (xs:=c.ly) (by have:=R.len;omega);have j:=ytc a hp k f i b ed (m d (by rw [ed];simp));have R2:=yAx (d':=ydm d.1 d.2 (.inl (s.hs.getD (sx p) 0%w)) (.int (s.hs.getD (sx r) 0))) a b ed;refine ⟨_,?_,by
  have:yhr s.dd (s.hs.getD (sx p) 0%w) (s.hs.getD (sx r) 0)=ds++[ydm d.1 d.2 (.inl (s.hs.getD (sx p) 0%w)) (.int (s.hs.getD (sx r) 0))]:=by unfold yhr;rw [ed,List.getLast?_concat,List.dropLast_concat]
  rw [this];exact R2⟩
 rw [yjc R.run e,yDI];show dk (mK 12 _ yE _ _ _ _) _=_;rw [yD a.run (rfl)];show dk (yE _ _) _=_;rw [yDK,yD a.run (rfl),ybo,j];rfl
end
section
variable {h:AH}{w:Int}{rows:List PV}{rest:List (Nat×Nd)}{c:Lc}{s:RS}
theorem RR.side (R:RR w rows rest h c s) q:RR w rows rest (h.set c.sd (.lst (q.map sdV))) c { s with sd:=q }:=⟨R.at_.upd (a:=[_,_,_,_,_,_]) _,R.len⟩
theorem yDN (R:RR w rows rest h c s) (v:s.sd.length<90) (o2:s.dd.length=s.sd.length+1):∃ h' c',ob (goE [.val (.loc c.rn),.val (yV r)] h) fnK=some (.non,h')/\RR w rows rest h' c' { s with sd:=s.sd++[(r,s.hs)],dd:=s.dd++[([],[])] }/\c'.rn=c.rn:=by
 obtain ⟨i,y,o,n,p,k,g⟩:=ycL R.run;have R2:=R.side (s.sd++[(r,s.hs)]);obtain ⟨l,z,j,t,q,B,u⟩:=ycL R2.run;have G:=R2.lg;have e:yiX (.loc c.sd) [.tup [yV r,.lst (s.hs.map .int)]] h=some (.non,h.set c.sd (.lst ((s.sd++[(r,s.hs)]).map sdV))):=by rw [ynO R.sds (by grind),map_append];rfl
 have f:=yvX G (by have:=R.len;omega);generalize x:h.set c.sd _=h2 at *;refine ⟨(h2++[Nd.dct [] []]).set c.st (.lst ((c.ly++[h2.length]).map .loc)),{ c with ly:=c.ly++[h2.length] },?_,⟨?_,?_⟩,rfl⟩
 rotate_left
 .have A:=R2.at_;have d:=At.new (.dct [] []) (a:=_::_::_::_::_::_::_::lay c.ly s.dd) A;have b:=At.upd (a:=[_,_,_]) (.lst ((c.ly++[h2.length]).map .loc)) d;unfold RM;rw [yfp _ _ _ _ R.len,append_assoc];exact b
 .rw [length_append,length_append,R.len];rfl
 unfold goE
 simpa [g,i,ydH R.sds,ygy R.held,e,j,ycm,yD (m:="begin") G.ob (rfl),f]
theorem ytd (e:h[n]?=some (.lst (xs++[y]))):yhv (.loc n) [] h=some (y,h.set n (.lst xs)):=by
 unfold yhv;simp only [e];have:(xs++[y])[(xs++[y]).length-1]?=some y:=by simp
 rw [this];simp
theorem yte (R:RR w rows rest h c s) (L:okS s=true) (O:s.sd.length≠0):∃ h' c',ob (goS [.val (.loc c.rn),.val (yV .settle)] h) fnK=some (.non,h')/\RR w rows rest h' c' { s with sd:=s.sd.dropLast,dd:=yjI s.dd }/\c'.rn=c.rn:=by
 obtain ⟨h8,o2,o3,U,D⟩:=yhs L;obtain ⟨f1,W,Y,Z,T,f6,H⟩:=ycL R.run;obtain ⟨q,x,E⟩:=ycf O;obtain ⟨d1,d,ed⟩:=ycf (xs:=s.dd) (by omega);obtain ⟨ds,e,y⟩:=ycf (xs:=d1) (by have:=congrArg length ed;simp at this;omega);obtain ⟨B,t,k⟩:=ycf (xs:=c.ly) (by have:=R.len;omega);obtain ⟨l,u,o⟩:=ycf (xs:=B) (by have a:=R.len;have b:c.ly.length=B.length+1:=(by rw [k];simp);omega);subst o y;have hl:l.length=ds.length:=by have:=R.len;rw [k,ed] at this;simpa using this
 have P:yjI s.dd=ds++[yky d.1 d.2 e.1 e.2]:=by unfold yjI;rw [ed,List.getLast?_concat,List.dropLast_concat,List.getLast?_concat,List.dropLast_concat]
 have es:s.sd.dropLast=q:=by rw [E,List.dropLast_concat]
 rw [P,es];have R2:=R.side q;obtain ⟨g1,g2,I,X,S,g6,g7⟩:=ycL R2.run;have M:yhv (.loc c.sd) [] h=some (sdV x,h.set c.sd (.lst (q.map sdV))):=ytd (by rw [R.sds,E,map_append];rfl);have G:=R2.lg;have A:=R2.at_;generalize hh:h.set c.sd (.lst (q.map sdV))=h2 at *;have f:=by
  unfold RM at A;have n:lay c.ly s.dd=lay l ds++[(u,.dct e.1 e.2),(t,.dct d.1 d.2)]:=by rw [k,ed,append_assoc,append_assoc,yfp _ _ _ _ hl];rfl
  have:∀ z:List (Nat×Nd),(lay l ds++[(u,.dct e.1 e.2),(t,.dct d.1 d.2)])++z=lay l ds++((u,.dct e.1 e.2)::(t,.dct d.1 d.2)::z):=fun z=>by rw [append_assoc];rfl
  simpa only [n,this] using A
 have p:(lay l ds++((u,Nd.dct e.1 e.2)::(t,.dct d.1 d.2)::rest))[l.length]?=some (u,.dct e.1 e.2):=by rw [getElem?_append_right (by rw [yiz _ _ hl];omega),yiz _ _ hl,sub_self];rfl
 have v:(lay l ds++((u,Nd.dct e.1 e.2)::(t,.dct d.1 d.2)::rest))[l.length+1]?=some (t,.dct d.1 d.2):=by rw [getElem?_append_right (by rw [yiz _ _ hl];omega),yiz _ _ hl,Nat.add_sub_cancel_left,List.getElem?_cons_succ,List.getElem?_cons_zero]
 have nu:=f.ne (i:=3) (j:=7+l.length) (by omega) rfl (by rw [show 7+l.length=l.length+7 by omega];exact p);have F:=f.ne (i:=3) (j:=7+(l.length+1)) (by omega) rfl (by rw [show 7+(l.length+1)=(l.length+1)+7 by omega];exact v);have r:=f.ne (i:=7+l.length) (j:=7+(l.length+1)) (by omega) (by rw [show 7+l.length=l.length+7 by omega];exact p) (by rw [show 7+(l.length+1)=(l.length+1)+7 by omega];exact v);have C:=G;rw [k] at C;have J:=ysS C (f.ne (i:=2) (j:=3) (by omega) rfl rfl) (fun z=>nu z.symm) (fun z=>F z.symm) r (f.get (7+l.length) (by rw [show 7+l.length=l.length+7 by omega];exact p)) (f.get (7+(l.length+1)) (by rw [show 7+(l.length+1)=(l.length+1)+7 by omega];exact v)) (by have a:=D e (by rw [ed];simp);have b:=D d (by rw [ed];simp);omega);refine ⟨(h2.set c.st (.lst ((l++[u]).map .loc))).set u (.dct (yky d.1 d.2 e.1 e.2).1 (yky d.1 d.2 e.1 e.2).2),{ c with ly:=l++[u] },?_,⟨?_,by show (l++[u]).length=(ds++[yky d.1 d.2 e.1 e.2]).length;simp [hl]⟩,rfl⟩
 rotate_left
 .have K:=At.upd (a:=[_,_,_]) (.lst ((l++[u]).map .loc)) f;have N:=At.upd (a:=_::_::_::_::_::_::_::lay l ds) (.dct (yky d.1 d.2 e.1 e.2).1 (yky d.1 d.2 e.1 e.2).2) (b:=(t,.dct d.1 d.2)::rest) K;unfold RM;show At _ (_::_::_::_::_::_::_::(lay (l++[u]) (ds++[yky d.1 d.2 e.1 e.2])++rest));rw [yfp _ _ _ _ hl,append_assoc];exact N.sub (((((((((List.Sublist.refl _).append (((List.sublist_cons_self _ _)).cons₂ _)).cons₂ _).cons₂ _).cons₂ _).cons₂ _).cons₂ _).cons₂ _).cons₂ _)
 unfold goS
 simpa [H,ydH R.sds,M,I,ycm,yD (m:="settle") G.ob (by rfl'),J]
end
section
variable {w:Int}{rows:List PV}{rest:List (Nat×Nd)}
theorem ywj (R:RR w rows rest h c s) (b:c.ly=l++[t]) (ed:s.dd=ds++[d]):RR w rows rest (h.set c.st (.lst (l.map .loc))) { c with ly:=l } { s with dd:=ds }:=by
 have hl:l.length=ds.length:=by have:=R.len;simp_all
 refine ⟨?_,hl⟩;have A:=At.upd (a:=[_,_,_]) (.lst (l.map .loc)) R.at_;rw [b,ed,yfp _ _ _ _ hl,append_assoc] at A;exact A.sub (((((((((List.Sublist.refl _).append (List.sublist_cons_self _ _)).cons₂ _).cons₂ _).cons₂ _).cons₂ _).cons₂ _).cons₂ _).cons₂ _)
theorem yIx:∀ (k f:Nat) (h:AH) (c:Lc) (s:RS),RR w rows rest h c s->c.rn=a->s.sd.length=L+k->s.dd.length=s.sd.length+1->k<f ->
  ∃ h' c',whl lvC lvB f [.val (.loc a),.val v1,.val (.int ((L+1:Nat):Int)),.val v3,p4] h=some (.nx [.val (.loc a),.val v1,.val (.int ((L+1:Nat):Int)),.val v3,p4],h')/\RR w rows rest h' c' { s with sd:=s.sd.take L,dd:=s.dd.take (L+1) }/\c'.rn=a:=by
 intro k
 induction k with
 | zero =>
  intro f h c s R n hs D O;obtain ⟨f,rfl⟩:∃ g,f=g+1:=⟨f-1,by omega⟩
  subst n;obtain ⟨E,B,v,K,H,C,b⟩:=ycL R.run;refine ⟨h,c,?_,by rw [List.take_of_length_le (by omega),List.take_of_length_le (by omega)];exact R,rfl⟩;have o:lvC [.val (.loc c.rn),.val v1,.val (.int ((L+1:Nat):Int)),.val v3,p4] h=some (false,h):=by
   have j:ybW [.loc c.sd] h=some (.int s.sd.length,h):=by rw [yie R.sds,length_map]
   have i:oGe (.int (s.sd.length:Nat)) (.int ((L+1:Nat):Int)) h=some (.bl false,h):=by show some (PV.bl (decide (((L+1:Nat):Int)<=(s.sd.length:Nat))),h)=_;rw [decide_eq_false (by omega)]
   simpa [b,j,i]
  rw [ywf,o];rfl
 | succ k ih =>
  intro f h c s R n hs D O;obtain ⟨f,rfl⟩:∃ g,f=g+1:=⟨f-1,by omega⟩
  subst n;obtain ⟨E,B,v,K,H,C,b⟩:=ycL R.run;obtain ⟨q,x,p⟩:=ycf (xs:=s.sd) (by omega);obtain ⟨ds,d,ed⟩:=ycf (xs:=s.dd) (by omega);obtain ⟨l,t,u⟩:=ycf (xs:=c.ly) (by have:=R.len;omega);have W:s.sd.length=q.length+1:=by rw [p];simp
  have P:s.dd.length=ds.length+1:=by rw [ed];simp
  have R2:=R.side q;have M:yhv (.loc c.sd) [] h=some (sdV x,h.set c.sd (.lst (q.map sdV))):=ytd (by rw [R.sds,p,map_append];rfl);have o:lvC [.val (.loc c.rn),.val v1,.val (.int ((L+1:Nat):Int)),.val v3,p4] h=some (true,h):=by
   have j:ybW [.loc c.sd] h=some (.int s.sd.length,h):=by rw [yie R.sds,length_map]
   have i:oGe (.int (s.sd.length:Nat)) (.int ((L+1:Nat):Int)) h=some (.bl true,h):=by show some (PV.bl (decide (((L+1:Nat):Int)<=(s.sd.length:Nat))),h)=_;rw [decide_eq_true (by omega)]
   simpa [b,j,i]
  obtain ⟨X,U,y,T,Y,Z,S⟩:=ycL R2.run;have G:=R2.lg;have r:=G;rw [u] at r;have N:=yAo r;have F:=ywj R2 u ed;have J:lvB [.val (.loc c.rn),.val v1,.val (.int ((L+1:Nat):Int)),.val v3,p4] h=some (.nx [.val (.loc c.rn),.val v1,.val (.int ((L+1:Nat):Int)),.val v3,p4],(h.set c.sd (.lst (q.map sdV))).set c.st (.lst (l.map .loc))):=by
   generalize h.set c.sd (.lst (q.map sdV))=h2 at *
   simpa [b,ydH R.sds,M,y,ycm,yD (m:="drop") G.ob (by rfl'),N]
  obtain ⟨h',c',I,A,z⟩:=ih f _ _ _ F rfl (by show q.length=L+k;omega) (by show ds.length=q.length+1;omega) (by omega);refine ⟨h',c',?_,?_,z⟩
  .rw [ywf,o,ybo,if_pos rfl,J,ybo];exact I
  .rw [p,ed,List.take_append_of_le_length (by omega),List.take_append_of_le_length (by omega)];exact A
end
section
variable {h:AH}{w:Int}{rows:List PV}{rest:List (Nat×Nd)}{c:Lc}{s:RS}
theorem RR.newh (R:RR w rows rest h c s) q:RR w rows rest ((h++[Nd.lst (q.map .int)]).set c.rn (ykN h.length w c.lg rows s.t c.sn c.sd)) { c with hl:=h.length } { s with hs:=q }:=by refine ⟨?_,R.len⟩;have A:=At.new (.lst (q.map .int)) (a:=[_]) R.at_;have b:=At.upd (a:=[]) (ykN h.length w c.lg rows s.t c.sn c.sd) A;exact b.sub ((List.Sublist.cons _ (List.Sublist.refl _)).cons₂ _ |>.cons₂ _)
theorem yDO (a:ygn b=true):ybO (yV b) (.int (-1)) h=some (.int (toB b),h):=by cases b<;>first|(cases a;done)|kernel_rfl!
theorem ypw (R:RR w rows rest h c s) (A:okS s=true) (t:ywd r=true) (o:tkL s.sd r s.sd.length=L+1) (a:s.sd[L]?=some x) :
  ∃ h' c',yco [.loc c.rn,yV r] h=some (yV x.1,h')/\RR w rows rest h' c' ⟨(toB x.1).toNat,x.2,s.sd.take L,s.dd.take (L+1),s.sn⟩/\c'.rn=c.rn:=by
 obtain ⟨K,o2,N,g,G⟩:=yhs A;obtain ⟨I,O,F,M,H,J,z⟩:=ycL R.run;have E:L<s.sd.length:=(List.getElem?_eq_some_iff.mp a).1;obtain ⟨k,u,P⟩:=g x (mem_of_getElem? a);obtain ⟨h1,d,f,e,i⟩:=yIx (v1:=yV r) (v3:=sdV x) (p4:=.no) (L:=L) (s.sd.length-L) 1000 h c s R rfl (by omega) o2 (by omega);have f:ydy 1000 lvC lvB _ h=_:=f;have k0:0<=toB x.1:=by revert k u;cases x.1<;>simp [ygn,okR,toB]
 have R2:=e.newh x.2;rw [i] at R2;have D:=R2.to (toB x.1).toNat;refine ⟨_,_,?_,D,rfl⟩;have y:ycM (.loc c.sd) (.int (((L+1:Nat):Int)-1)) h=some (sdV x,h):=by unfold ycM;simp only [R.sds];rw [show ((L+1:Nat):Int)-1=(L:Nat) by omega,ycO (by rw [getElem?_map,a];rfl)]
 have v:∀ h,ybO (sdV x) (.int 0) h=some (yV x.1,h):=fun _=>rfl
 have q:∀ h,ybO (sdV x) (.int 1) h=some (.lst (x.2.map .int),h):=fun _=>rfl
 have l:=ypv R.run R.sds (fun x a=>(g x a).1) t (by omega);rw [o] at l;have B:(h1++[Nd.lst (x.2.map .int)])[c.rn]?=some (ykN d.hl w d.lg rows s.t d.sn d.sd):=by rw [<- i,getElem?_append_left (List.getElem?_eq_some_iff.mp e.run).1];exact e.run
 have p:=ywg (j:=h1.length) (ρ:=[.val (.loc c.rn),.val (yV r),.val (.int ((L+1:Nat):Int)),.val (sdV x),.val (yV x.1)]) B;have n:=ymC (j:=toB x.1) (ρ:=[.val (.loc c.rn),.val (yV r),.val (.int ((L+1:Nat):Int)),.val (sdV x),.val (yV x.1)]) R2.run;have C:=fun h=>yDO (h:=h) k
 unfold yco;rw [yo];show ob (ym _ (ym _ (ym (ydy 1000 lvC lvB) _)) [.val (.loc c.rn),.val (yV r),.no,.no,.no] h) fnK=_
 simpa [ycm,yD (m:="taker_layer") R.run (by rfl'),l,z,y,f,v,q,yqz,p,C,n]
 rw [show (((toB x.1).toNat:Nat):Int)=toB x.1 by omega]
theorem yAy (R:RR w rows rest h c s) (b:rows[s.t]?=some (yV .wait)) (f:okS s=true) (i:tkL s.sd .wait s.sd.length=L+1) (d:s.sd[L]?=some x) :
  ∃ h' c',yci [.loc c.rn] h=some (.non,h')/\RR w rows rest h' c' ⟨(toB x.1).toNat,x.2,s.sd.take L,s.dd.take (L+1),s.sn⟩/\c'.rn=c.rn:=by
 have a:=R.to (s.t+1);obtain ⟨h',c',g,e,j⟩:=ypw a f rfl i d;refine ⟨h',c',?_,e,j⟩;rw [yjc R.run b,yAu];show dk (mK 12 _ yco _ _ _ _) _=_;rw [yD a.run (rfl)];show dk (yco _ _) _=_;rw [g];rfl
theorem ywk (R:RR w rows rest h c s) (r:rows[s.t]?=some (yV (.throw a b))) (t:b∈SL) (p:okS s=true) (D:tkL s.sd (.throw a b) s.sd.length=L+1) (n:s.sd[L]?=some x) (g:yhq x.1 (.throw a b)=true) :
  ∃ h' c',yci [.loc c.rn] h=some (.non,h')/\RR w rows rest h' c' ⟨(toB x.1).toNat,x.2.set (sx (slB x.1)) (s.hs.getD (sx b) 0),s.sd.take L,s.dd.take (L+1),s.sn⟩/\c'.rn=c.rn:=by
 have d:=R.to (s.t+1);obtain ⟨A,o2,F,B,E⟩:=yhs p;obtain ⟨G,l,C⟩:=B x (mem_of_getElem? n);obtain ⟨h',c',q,f,o⟩:=ypw d p rfl D n;obtain ⟨nm,e,k,j⟩:∃ nm e k,x.1=.guard nm e k:=by revert g;cases x.1<;>first|(intro g;cases g;done)|exact fun _=>⟨_,_,_,rfl⟩
 have hs:e∈SL:=by rw [j] at l;unfold okR at l;simp_all
 have i:=yiy (v:=s.hs.getD (sx b) 0) f.run f.held C hs;rw [j] at q f i ⊢;refine ⟨_,c',?_,f.hold _,o⟩;have u:=yde d.run d.held A t;have z:∀ h,ybO (yV (.throw a b)) (.int 2) h=some _:=fun _=>rfl
 have y:∀ h,ybO (yV (.guard nm e k)) (.int 2) h=some _:=fun _=>rfl
 have r2:=f.run;rw [o] at r2 i;rw [yjc R.run r,ywh];show dk (mK 12 "throw" ycI _ _ _ _) _=_;rw [yD d.run (rfl)];show dk (ycI _ _) _=_;have:ycI [.loc c.rn,yV (.throw a b)] (h.set c.rn (ykN c.hl w c.lg rows (s.t+1:Nat) c.sn c.sd))=some (.non,h'.set c'.hl (.lst ((x.2.set (sx e) (s.hs.getD (sx b) 0)).map .int))):=by
  unfold ycI;rw [yo];show ob (ym _ _ [.val _,.val _,.no,.no] _) fnK=_
  simpa [ycm,yD (m:="held_in") d.run (rfl),yD (m:="leave") d.run (rfl),yD (m:="hold") r2 (rfl),z,y,u,q,i]
 rw [this];rfl
end
local macro_rules | `(tactic| walk_at "pw")=>`(tactic| simpa [$(sl_ "ykG yjb ymz ykH ykI ykJ ymA ykK ykL ymB if_true if_false"),*])
section
variable {h:AH}{w:Int}{rows:List PV}{rest:List (Nat×Nd)}{c:Lc}{s s':RS}{r:Rw}
theorem ykO {sd:List _}:∀ {k L:Nat},tkL sd r k=L+1->∃ x,sd[L]?=some x/\yhq x.1 r=true
 | k+1,L,e=>by
  unfold tkL at e;split at e
  .split at e
   .cases e;simp_all
   .exact ykO e
  .cases e
theorem yDP (R:RR w rows rest h c s):yes [.loc c.lg,.int (s.hs.getD (sx p) 0%w)] h=some (yta s w p,h):=by rw [yDD R.lg,R.len];rfl
theorem yAz {r p:Str}:yE [x,yV (.take r p)] h=dk (mK 12 "take_own" ycn (fun _ h1=>some ([.str r,.str p],h1)) [] x h) [.val x,.val (yV (.take r p))]:=by kernel_rfl!
theorem yoa {r p:Str}(R:RR w rows rest h c s) (d:r∈SL) (hp:p∈SL) (b:s.hs.length=8) (f:1<=w) (ev:yta s w p=.int v):ycn [.loc c.rn,.str r,.str p] h=some (.non,h.set c.hl (.lst ((s.hs.set (sx r) v).map .int))):=by
 obtain ⟨l,j,e,g,n,k,i⟩:=ycL R.run;have o:=yDP (p:=p) R;rw [ev] at o;unfold ycn;rw [yo];show ob (ybf _ [.val _,.val _,.val _] h) fnK=_
 simpa [ycm,e,yD (m:="hold") R.run (by rfl'),yD (m:="own") R.lg.ob (rfl),yD (m:="box_at") R.run (by rfl'),yfo R.run R.held b hp f,o,yiy R.run R.held b d]
theorem yAA (R:RR w rows rest h c s) (hp:p∈SL) (b:s.hs.length=8) (d:1<=w):ydh [.loc c.rn,.str p] h=some (.bl (isN (yta s w p)),h):=by
 obtain ⟨j,i,e,l,g,k,f⟩:=ycL R.run;unfold ydh;rw [yo];show ob (yO _ [.val _,.val _] h) fnK=_
 simpa [ycm,e,yD (m:="own") R.lg.ob (by rfl'),yD (m:="box_at") R.run (by rfl'),yfo R.run R.held b hp d,yDP R]
theorem yAB {r p:Str}(R:RR w rows rest h c s) (d:rows[s.t]?=some (yV (.take r p))) (g:r∈SL) (hp:p∈SL) (e:s.hs.length=8) (f:1<=w) (ev:yta s w p=.int v):∃ h',yci [.loc c.rn] h=some (.non,h')/\RR w rows rest h' c ⟨s.t+1,s.hs.set (sx r) v,s.sd,s.dd,s.sn⟩:=by have a:=R.to (s.t+1);refine ⟨_,?_,a.hold _⟩;rw [yjc R.run d,yAt];show dk (mK 12 _ yE _ _ _ _) _=_;rw [yD a.run (by rfl')];show dk (yE _ _) _=_;rw [yAz,yD a.run (rfl),ybo,yoa a g hp e f ev];rfl
theorem yGD {w:Str}(b:w∈W5) (d:0<=x/\x<B64):yhM [.str w,.int x,.int y] h=some (.int (rk w x y),h):=by
 have a:MulOk x y:=.inl ⟨by omega,d.2⟩;unfold yhM;rw [yo];show ob (ym _ _ [.val _,.val _,.val _] h) fnK=_;unfold rk;rcases yxD b with rfl|rfl|rfl|rfl|rfl
 .kernel_rfl!
 .kernel_rfl!
 .walk_at "pw";rw [if_pos a]
 .walk_at "pw";split<;>rfl
 .walk_at "pw";split<;>rfl
theorem ymD {v r p q:Str}(R:RR w rows rest h c s) (d:v∈W5) (g:r∈SL) (hp:p∈SL) (e:q∈SL) (b:s.hs.length=8) (f:0<=s.hs.getD (sx p) 0/\s.hs.getD (sx p) 0<B64):ycc [.loc c.rn,.str v,.str r,.str p,.str q] h=some (.non,h.set c.hl (.lst ((s.hs.set (sx r) (rk v (s.hs.getD (sx p) 0) (s.hs.getD (sx q) 0))).map .int))):=by
 unfold ycc;rw [yo];show ob (ybf _ [.val _,.val _,.val _,.val _,.val _] h) fnK=_
 simpa [ycm,yD (m:="hold") R.run (by rfl'),yD (m:="held_in") R.run (by rfl'),yde R.run R.held b hp,yde R.run R.held b e,yGD d f,yiy R.run R.held b g]
theorem ytf {v r p q:Str}(g:v∈W5):yE [x,yV (.reckon v r p q)] h=dk (mK 12 "do_reckon" ycc (fun _ h1=>some ([.str v,.str r,.str p,.str q],h1)) [] x h) [.val x,.val (yV (.reckon v r p q))]:=by
 rcases yxD g with rfl|rfl|rfl|rfl|rfl
 all_goals kernel_rfl!
theorem ytg {v r p q:Str}(R:RR w rows rest h c s) (i:rows[s.t]?=some (yV (.reckon v r p q))) (b:v∈W5) (g:r∈SL) (hp:p∈SL) (f:q∈SL) (d:s.hs.length=8) (e:0<=s.hs.getD (sx p) 0/\s.hs.getD (sx p) 0<B64):∃ h',yci [.loc c.rn] h=some (.non,h')/\RR w rows rest h' c ⟨s.t+1,s.hs.set (sx r) (rk v (s.hs.getD (sx p) 0) (s.hs.getD (sx q) 0)),s.sd,s.dd,s.sn⟩:=by have a:=R.to (s.t+1);refine ⟨_,?_,a.hold _⟩;rw [yjc R.run i,ysZ b];show dk (mK 12 _ yE _ _ _ _) _=_;rw [yD a.run (rfl)];show dk (yE _ _) _=_;rw [ytf b,yD a.run (rfl),ybo,ymD a b g hp f d e];rfl
theorem yAC (R:RR w rows rest h c s) (g:rows[s.t]?=some (yV r)) (u:1<=w) (e:yqk w r s=some s'):∃ h' c',yci [.loc c.rn] h=some (.non,h')/\RR w rows rest h' c' s'/\c'.rn=c.rn:=by
 unfold yqk at e;split at e
 .rename_i t;obtain ⟨k1,j⟩:=Bool.and_eq_true_iff.mp t;obtain ⟨l,o2,G,I,H⟩:=yhs j;have z:∀ b:Rw,(∀ x h,goB [.val x,.val (yV b)] h=goE [.val x,.val (yV b)] h)->rows[s.t]?=some (yV b)->∃ h' c',yci [.loc c.rn] h=some (.non,h')/\RR w rows rest h' c' ⟨s.t+1,s.hs,s.sd++[(b,s.hs)],s.dd++[([],[])],s.sn⟩/\c'.rn=c.rn:=fun b C g=>by obtain ⟨h',c',d,f,o⟩:=yDN (r:=b) (R.to (s.t+1)) G o2;exact ⟨h',c',by rw [yjc R.run g,C,d],f,o⟩
  cases r with
  | let_ a n =>
   cases e;obtain ⟨h',d,f⟩:=yDL R g (by simpa [okR] using k1) l;exact ⟨h',c,d,f,rfl⟩
  | put p a =>
   cases e;obtain ⟨k2,k3⟩:p∈SL/\a∈SL:=by simpa [okR] using k1
   obtain ⟨h',d,f⟩:=yDM R g k2 k3 u j;exact ⟨h',c,d,f,rfl⟩
  | take p a =>
   obtain ⟨k2,k3⟩:p∈SL/\a∈SL:=by simpa [okR] using k1
   dsimp only at e;split at e
   .rename_i v B;cases e;obtain ⟨h',d,f⟩:=yAB R g k2 k3 l u B;exact ⟨h',c,d,f,rfl⟩
   .cases e
  | jump k =>
   cases e;obtain ⟨h',d,f⟩:=yAw R g (by simpa [okR] using k1);exact ⟨h',c,d,f,rfl⟩
  | unl r k =>
   cases e;obtain ⟨k2,k3⟩:r∈SL/\0<=k:=by simpa [okR] using k1
   obtain ⟨h',d,f⟩:=ytb R g k2 l k3;exact ⟨h',c,d,f,rfl⟩
  | either k=>cases e;exact z _ (fun _ _=>ysW) g
  | guard a b k=>cases e;exact z _ (fun _ _=>ywi) g
  | settle =>
   dsimp only at e;split at e
   .cases e
   .rename_i D;cases e;obtain ⟨h',c',d,f,o⟩:=yte (R.to (s.t+1)) j D;exact ⟨h',c',by rw [yjc R.run g,ysX,d],f,o⟩
  | reckon v a p q =>
   dsimp only at e;split at e
   .rename_i i;cases e;obtain ⟨⟨⟨k2,k3⟩,F⟩,k5⟩:((v∈W5/\a∈SL)/\p∈SL)/\q∈SL:=by simpa [okR] using k1
    obtain ⟨h',d,f⟩:=ytg R g k2 k3 F k5 l i;exact ⟨h',c,d,f,rfl⟩
   .cases e
  | lay=>cases e
  | wait =>
   dsimp only at e;unfold yjJ at e;split at e
   .cases e
   .rename_i L m;split at e
    .rename_i x i;cases e;exact yAy R g j m i
    .cases e
  | throw a b =>
   dsimp only at e;unfold yjJ at e;split at e
   .cases e
   .rename_i L m;split at e
    .rename_i x i;cases e;obtain ⟨y,A,E⟩:=ykO m;rw [i] at A;cases A;exact ywk R g (by simpa [okR] using k1) j m i E
    .cases e
 .cases e
def yhz (w:Int) (s:RS):Rw->Bool
 | .take _ p=>isN (yta s w p)
 | .wait=>decide (((tkL s.sd .wait s.sd.length:Nat):Int)=0)
 | .throw a b=>decide (((tkL s.sd (.throw a b) s.sd.length:Nat):Int)=0)
 | .lay=>true
 | _=>false
theorem yob (R:RR w rows rest h c s) (i:rows[s.t]?=some (yV r)) (n:okS s=true) (f:okR r=true) (o:1<=w):ybt [.loc c.rn] h=some (.bl (yhz w s r),h):=by
 obtain ⟨j,o2,A,k,z⟩:=yhs n;rw [yAs R.run i];have g:∀ b:Rw,ywd b=true->loB _ h=ob (yO (xOp (oEq) (M2 "taker_layer" ybz) (xC (.int 0))) [.val (.loc c.rn),.val (yV b)] h) (sqK (yO (xOp (oEq) (xOp (ybO) (ye 1) (xC (.int 0))) (xC (.str "lay")))))->ob (loB [.val (.loc c.rn),.val (yV b)] h) fnK=some (.bl (decide (((tkL s.sd b s.sd.length:Nat):Int)=0)),h):=fun b t e=>by
  rw [e]
  simpa [ycm,yD (m:="taker_layer") R.run (by rfl'),ypv R.run R.sds (fun x l=>(k x l).1) t (by omega)]
 cases r with
 | wait=>exact g .wait rfl (by kernel_rfl!)
 | throw a b=>exact g (.throw a b) rfl (by kernel_rfl!)
 | take a p =>
  obtain ⟨k2,k3⟩:a∈SL/\p∈SL:=by simpa [okR] using f
  have u:∀ h,ybO (yV (.take a p)) (.int 0) h=some _:=fun _=>rfl
  have y:∀ h,ybO (yV (.take a p)) (.int 2) h=some (.str p,h):=fun _=>rfl
  unfold loB
  simpa [ycm,u,y,yD (m:="sees_at") R.run (by rfl'),yAA R k3 j o]
  rfl
 | reckon v a p q =>
  obtain ⟨⟨⟨k2,_⟩,_⟩,_⟩:((v∈W5/\a∈SL)/\p∈SL)/\q∈SL:=by simpa [okR] using f
  rcases yxD k2 with rfl|rfl|rfl|rfl|rfl<;>kernel_rfl!
 | _=>kernel_rfl!
end
noncomputable def stB (m:List (Nat×Int×Int)) (sp:List Int):Bool:=(m.map fun p=>!decide (sp.getD p.1 0=p.2.2)).any id
theorem yDQ:∀ {m:List _}{p:Nat×Int×Int},(m.map (·.1)).Nodup->p∈m->yko (sK m) (m.map f) (.inl p.1)=some (f p)
 | q::m,p,c,hp=>by
  show (if (Sum.inl _:Key)=.inl _ then some _ else yko _ _ _)=_;obtain ⟨d,b⟩:=List.nodup_cons.mp c;rcases mem_cons.mp hp with rfl|hp
  .rw [if_pos rfl]
  .rw [if_neg _]
   .exact yDQ b hp
   grind
theorem yoc {Y:Type} f:∀ l:List Y,ygv (l.map fun a=>PV.bl (f a))=some (l.map f)
 | []=>rfl
 | a::l=>by
  show ygv (PV.bl _::l.map _)=some _;unfold ygv;simp only [yoc f l]
  try rfl
theorem yAD {f:Nat×Int×Int->PV}{k:Nat}{a b:Int}{m:List _}(d:f (k,a,b)=v):ydm (sK m) (m.map f) (.inl (k:Int)) v=(sK (yfa m k a b),(yfa m k a b).map f):=by
 have g:∀ m,yrW (sK m) (.inl (k:Int))=decide (k∈m.map (·.1)):=by
  intro m
  induction m with
  | nil=>rfl
  | cons q m ih =>
   show (if (Sum.inl (q.1:Int):Key)=.inl (k:Int) then true else yrW (sK m) _)=_;rw [ih]
   by_cases e:q.1=k
   .simp_all
   .rw [if_neg (fun z=>e (by have:=Sum.inl.inj z;omega))];simp [Ne.symm e]
 have h:∀ m,setK (sK m) (m.map f) (.inl (k:Int)) v=(m.map fun p=>if p.1=k then (k,a,b) else p).map f:=by
  intro m
  induction m with
  | nil=>rfl
  | cons q m ih =>
   show (if (Sum.inl (q.1:Int):Key)=.inl (k:Int) then v::setK (sK m) (m.map f) _ v else f q::setK (sK m) (m.map f) _ v)=f (if q.1=k then (k,a,b) else q)::_;rw [ih]
   by_cases e:q.1=k
   .rw [if_pos (by rw [e]),if_pos e,d]
   .rw [if_neg (fun z=>e (by have:=Sum.inl.inj z;omega)),if_neg e]
 unfold ydm yfa;rw [g]
 by_cases e:k∈m.map (·.1)
 .rw [if_pos (decide_eq_true e),if_pos e,h];refine Prod.ext ?_ rfl;show sK m=(m.map _).map _;rw [map_map];refine List.map_congr_left fun p _=>?_
  show _=(Sum.inl (((if p.1=k then (k,a,b) else p).1:Nat):Int):Key)
  split
  .rename_i e;rw [e]
  .rfl
 .rw [if_neg (by simp [e]),if_neg e,map_append];unfold sK;rw [map_append,<- d];rfl
section
variable {h:AH}{w:Int}{rows:List PV}{rest:List (Nat×Nd)}{c:Lc}{s s':RS}{r:Rw}{sp bx:List Int}{ma nu:Nat}
theorem ykP (R:RR w rows rest h c s) (g:(ma,.lst (sp.map .int))∈rest) (j:(s.sn.map (·.1)).Nodup) (i:∀ p∈s.sn,p.1<sp.length) (hl:s.sn.length<=900):ycE [.loc c.rn,.loc ma] h=some (.bl (stB s.sn sp),h):=by
 obtain ⟨z,F,u,x,y,k,E⟩:=ycL R.run;have e:=R.at_.get 5 rfl;have A:=At.upd (a:=[_,_,_,_,_]) (.fz (sK s.sn) (sB s.sn)) R.at_;have f:=A.2 (ma,.lst (sp.map .int)) (by simp [g]);obtain ⟨H,G,C,v,B,t,D⟩:=ycL (A.get 0 rfl);have en:=A.get 5 rfl;have b:(h.set c.sn (.fz (sK s.sn) (sB s.sn))).set c.sn (.dct (sK s.sn) (sB s.sn))=h:=by rw [List.set_set];obtain ⟨I,q⟩:=List.getElem?_eq_some_iff.mp e;rw [<- q,List.set_getElem_self]
 have o:yls (xOp (oNe) (xOp (ycM) (ye 1) (ye 0)) (yid (yY [12] "seen_stamps" (ye 2)) (ye 0))) (ygU [1,0] [.val (.loc c.rn),.val (.loc ma)]) ((sK s.sn).map ynR) (h.set c.sn (.fz (sK s.sn) (sB s.sn)))=some (s.sn.map (fun p=>.bl (!decide (sp.getD p.1 0=p.2.2))),h.set c.sn (.fz (sK s.sn) (sB s.sn))):=by
  generalize h.set c.sn _=h1 at *;show yls _ _ ((s.sn.map _).map ynR) _=_;rw [map_map];refine ygi _ _ fun p hp=>?_
  show xOp _ _ _ [.val (.int (p.1:Int)),.val (.loc ma),.val (.loc c.rn)] _=_;have m:=ygm f (i p hp);have d:yid (yY [12] "seen_stamps" (ye 2)) (ye 0) [.val (.int (p.1:Int)),.val (.loc ma),.val (.loc c.rn)] h1=some (.int p.2.2,h1):=by
   unfold yid
   simpa [t]
   unfold yzx;simp only [en,keyOf];unfold sB;rw [yDQ j hp]
  simpa [m,d]
 have n:∀ h,yxq [.lst (s.sn.map (fun p=>PV.bl _))] h=some (.bl (stB s.sn sp),h):=fun h=>by unfold yxq ybM;simp only [yoc _];rfl
 have l:yjB (yY [12] "seen_stamps" (ye 0)) [1,0] (xOp (oNe) (xOp (ycM) (ye 1) (ye 0)) (yid (yY [12] "seen_stamps" (ye 2)) (ye 0))) [.val (.loc c.rn),.val (.loc ma)] h=some (.lst (s.sn.map (fun p=>.bl (!decide (sp.getD p.1 0=p.2.2)))),h):=by
  unfold yjB
  simpa [k]
  simp only [e];rw [if_pos (by unfold sK;rw [length_map];omega),o,ybo,b]
 unfold ycE;rw [yo];show ob (yO _ [.val (.loc c.rn),.val (.loc ma)] h) fnK=_
 simpa [l,n]
theorem RR.see (R:RR w rows rest h c s) k a b:RR w rows rest ((h.set c.sn (.dct (sK (yfa s.sn k a b)) (sB (yfa s.sn k a b)))).set c.ls (.dct (sK (yfa s.sn k a b)) (sA (yfa s.sn k a b)))) c { s with sn:=yfa s.sn k a b }:=by have A:=At.upd (a:=[_,_,_,_,_]) (.dct (sK (yfa s.sn k a b)) (sB (yfa s.sn k a b))) R.at_;exact ⟨At.upd (a:=[_,_,_,_]) _ A,R.len⟩
theorem yDR (d:h[o]?=some (.ins 11 ["stack","last_seen"] [.loc st,.loc b])) (a:h[b]?=some (.dct ks xs)) (hl:ks.length<1000):ygC [.loc o,.int i,v] h=some (.non,h.set b (.dct (ydm ks xs (.inl i) v).1 (ydm ks xs (.inl i) v).2)):=by unfold ygC;rw [yo];show ob (ykr _ _ _ _ h) fnK=_;rw [ykM rfl (by rw [ykl,show ye 0 _ h=some _ from rfl,ybo,ysP d]) rfl a hl];rfl
theorem yod (R:RR w rows rest h c s) (U:rows[s.t]?=some (yV (.take a p))) (H:(ma,.lst (sp.map .int))∈rest) (E:(nu,.lst (bx.map .int))∈rest) (q:s.hs.length=8) (I:a∈SL) (hp:p∈SL) (y:1<=w) (D:s.hs.getD (sx p) 0%w=(k:Nat)) (t:k<sp.length) (o:k<bx.length) (hl:s.sn.length<=900) :
  ∃ h',ydi [.loc c.rn,.loc nu,.loc ma] h=some (.int (k:Nat),h')/\RR w rows rest h' c ⟨s.t+1,s.hs.set (sx a) (bx.getD k 0),s.sd,s.dd,yfa s.sn k (bx.getD k 0) (sp.getD k 0)⟩:=by
 have g:=R.see k (bx.getD k 0) (sp.getD k 0);have R2:=g.hold (s.hs.set (sx a) (bx.getD k 0));refine ⟨_,?_,R2.to (s.t+1)⟩;obtain ⟨W,Z,f3,f4,X,T,Y⟩:=ycL R.run;have e:=At.upd (a:=[_,_,_,_,_]) (.dct (sK (yfa s.sn k (bx.getD k 0) (sp.getD k 0))) (sB (yfa s.sn k (bx.getD k 0) (sp.getD k 0)))) R.at_;have J:ycM (.loc ma) (.int (k:Nat)) h=some (.int (sp.getD k 0),h):=ygm (R.at_.2 (ma,.lst (sp.map .int)) (by unfold RM;simp [H])) t;have N:∀ h,ybO (yV (.take a p)) (.int 1) h=some (.str a,h):=fun _=>rfl
 have S:∀ h,ybO (yV (.take a p)) (.int 2) h=some (.str p,h):=fun _=>rfl
 have C:=yfo R.run R.held q hp y;rw [D] at C;have G:(sK s.sn).length<1000:=by unfold sK;rw [length_map];omega
 have d1:=ykM (h:=h) (n:=c.sn) (i:=(k:Nat)) (x:=.int (sp.getD k 0)) (ed:=yY [12] "seen_stamps" (ye 0)) (ek:=ye 4) (ev:=xOp (ycM) (ye 2) (ye 4)) (ρ:=[.val (.loc c.rn),.val (.loc nu),.val (.loc ma),.val (yV (.take a p)),.val (.int (k:Nat))]) (by simpa [J]) (by simpa [T]) rfl (R.at_.get 5 rfl) G;rw [show sB s.sn=s.sn.map (fun p=>.int p.2.2) from rfl,yAD (f:=fun p=>.int p.2.2) (a:=bx.getD k 0) (b:=sp.getD k 0) rfl] at d1;have F:=e.get 0 rfl;have ts:ycH [.loc c.rn,.str a,.str p,.loc nu] (h.set c.sn (.dct (sK (yfa s.sn k (bx.getD k 0) (sp.getD k 0))) (sB (yfa s.sn k (bx.getD k 0) (sp.getD k 0)))))=some (.non,((h.set c.sn (.dct (sK (yfa s.sn k (bx.getD k 0) (sp.getD k 0))) (sB (yfa s.sn k (bx.getD k 0) (sp.getD k 0))))).set c.ls (.dct (sK (yfa s.sn k (bx.getD k 0) (sp.getD k 0))) (sA (yfa s.sn k (bx.getD k 0) (sp.getD k 0))))).set c.hl (.lst ((s.hs.set (sx a) (bx.getD k 0)).map .int))):=by
  have B:=yfo (r:=p) (e.get 0 rfl) (e.get 1 rfl) q hp y;rw [D] at B;have K:=(ycL (e.get 0 rfl)).2.2.1;have s1:=yDR (i:=(k:Nat)) (v:=.int (bx.getD k 0)) (e.get 2 rfl) (e.get 4 rfl) G;rw [show sA s.sn=s.sn.map (fun p=>.int p.2.1) from rfl,yAD (f:=fun p=>.int p.2.1) (a:=bx.getD k 0) (b:=sp.getD k 0) rfl] at s1;have O:=ygm (e.2 (nu,.lst (bx.map .int)) (by simp [E])) o;have P:=ygm (g.at_.2 (nu,.lst (bx.map .int)) (by unfold RM;simp [E])) o;have L:=e.get 2 rfl;have A:=yiy (v:=bx.getD k 0) g.run g.held q I;have r2:=g.run;dsimp only at A r2;change _=some (PV.non,(h.set c.sn _).set c.ls (.dct (sK (yfa s.sn k (bx.getD k 0) (sp.getD k 0))) (sA (yfa s.sn k (bx.getD k 0) (sp.getD k 0))))) at s1;generalize (h.set c.sn _)=h1 at *;unfold ycH;rw [yo];show ob (ym _ _ [.val (.loc c.rn),.val (.str a),.val (.str p),.val (.loc nu),.no] h1) fnK=_
  simpa [ycm,yD (m:="box_at") F (by rfl'),B,K,yD (m:="see") L (by rfl'),O,s1,yD (m:="hold") r2 (by rfl'),P,A]
 have M:=R2.run;have l:=(ycL R2.run).2.2.2.2.1;have u:=fun ρ=>ymC (j:=((s.t+1:Nat):Int)) (ρ:=ρ) R2.run
 have z:((s.t:Nat):Int)+1=((s.t+1:Nat):Int):=by omega
 dsimp only at l u M;change _=some (Out.nx _,h.set c.sn (.dct (sK (yfa s.sn k (bx.getD k 0) (sp.getD k 0))) (sB (yfa s.sn k (bx.getD k 0) (sp.getD k 0))))) at d1;unfold ydi;rw [yo];show ob (ym _ _ [.val (.loc c.rn),.val (.loc nu),.val (.loc ma),.no,.no] h) fnK=_
 simpa [ycm,yD (m:="row") R.run (by rfl'),yix R.run rfl U,N,S,yD (m:="box_at") R.run (by rfl'),C,d1,yD (m:="take_seen") F (by rfl'),ts,yqz,l,z,u]
end
structure HC where
 H:Nat
 nu:Nat
 ma:Nat
 cr:Nat
 en:Nat
structure HQ where
 bx:List Int
 sp:List Int
 en:List PV
 cw:List Nat
 i:Nat
 hd:Nat
 ds:List PV
 nth:Nat
 sl:Bool
 bf:List Int
def HL (g:HC) (rn:Nat) (w:Int) (q:HQ) (own:List (Nat×Nd)):List (Nat×Nd) :=
 (g.H,yqh g.nu g.ma g.cr g.en)::(g.nu,.lst (q.bx.map .int))::(g.ma,.lst (q.sp.map .int))::(g.cr,.lst (q.cw.map .loc))::(g.en,.lst q.en)::(q.hd,ydK q.ds w q.nth q.sl q.bf rn)::own
structure NF (W:Nat) (s:RS):Prop where
 nd:(s.sn.map (·.1)).Nodup
 hb:∀ p∈s.sn,p.1<W
 hl:s.sn.length<=900
noncomputable def stN (q:HQ):Str:=if q.nth=q.ds.length then "ended" else if q.sl=true then "asleep" else "awake"
section
variable {h:AH}{w:Int}{rows:List PV}{c:Lc}{s s':RS}{r:Rw}{g:HC}{q:HQ}{own:List (Nat×Nd)}{rn:Nat}
theorem RR.rest (R:RR w rows m h c s):At h m:=by have A:=R.at_;exact At.sub A (List.sublist_append_right (_::_::_::_::_::_::_::lay c.ly s.dd) m)
theorem yoe (A:At h (HL g rn w q own)) (a:q.cw[q.i]?=some q.hd):ycM (.loc g.cr) (.int q.i) h=some (.loc q.hd,h):=by have e:=A.get 3 rfl;unfold ycM;simp only [e];rw [ycO (by rw [getElem?_map,a];rfl)]
theorem yex (A:At h (HL g rn w q own)) (a:q.cw[q.i]?=some q.hd):ybm [.loc g.H,.int q.i] h=some (.loc q.hd,h):=by
 obtain ⟨l,m,f,k⟩:=ycY (A.get 0 rfl);have e:=A.get 3 rfl;have b:yet [.int q.i] h=some (.bl true,h):=rfl;have d:=yoe A a;have lt:=(List.getElem?_eq_some_iff.mp a).1;have i:((0:Int)<=q.i)=True:=eq_true (by omega);have j:((q.i:Int)<(q.cw.map PV.loc).length)=True:=eq_true (by simp_all);unfold ybm;rw [yo];show ob (ym _ _ [.val _,.val _] h) fnK=_
 simpa [f,yie e,b,d,i,j]
theorem yfE (A:At h (HL g rn w q own)):ycp [.loc q.hd] h=some (.str (stN q),h):=by
 obtain ⟨d,i,b,f,j,k⟩:=ydq (A.get 5 rfl);unfold ycp stN;rw [yo];show ob (ym _ _ [.val _] h) fnK=_
 by_cases e:q.nth=q.ds.length
 .have a:=by omega
  rw [if_pos e]
  simpa [b,d,a]
 .have a:((q.nth:Int)=q.ds.length)=False:=eq_false (by omega);rw [if_neg e]
  simpa [b,d,f,a]
  cases q.sl<;>rfl
theorem awake (a:q.nth<q.ds.length) (hs:q.sl=false):stN q = "awake":=by unfold stN;grind
theorem yth (A:At h (HL g rn w q own)) (a:q.cw[q.i]?=some q.hd) (hs:(stN q = "awake")=False):yC [.loc g.H,.int q.i] h=some (.tup [.str "idle"],h):=by
 unfold yC;rw [yo];show ob (ym _ _ [.val _,.val _,.no,.no] h) fnK=_
 simpa [ycm,yD (m:="hand_at") (A.get 0 rfl) (rfl),yex A a,yD (m:="state") (A.get 5 rfl) (rfl),yfE A,hs]
theorem yti (R:RR w rows (HL g c.rn w q own) h c s) (o:q.cw[q.i]?=some q.hd) (d:rows[s.t]?=some (yV r)) (i:1<=w) (p:q.nth<q.ds.length) (hs:q.sl=false) (t:okS s=true) (b:okR r=true) (a:yhz w s r=false) (e:yqk w r s=some s') :
  ∃ h' c',yC [.loc g.H,.int q.i] h=some (.tup [.str "gone",.int s.t],h')/\RR w rows (HL g c'.rn w q own) h' c' s':=by
 obtain ⟨h',c',k,j,n⟩:=yAC R d i e;refine ⟨h',c',?_,by rw [n];exact j⟩;have A:=R.rest;obtain ⟨x,C,D,B,v,l⟩:=ydq (A.get 5 rfl);obtain ⟨k1,k2,k3,y,k5,u,z⟩:=ycL R.run;have st:=yfE A;rw [awake p hs] at st;have f:=yob R d t b i;rw [a] at f;unfold yC;rw [yo];show ob (ym _ _ [.val _,.val _,.no,.no] h) fnK=_
 simpa [ycm,yD (m:="hand_at") (A.get 0 rfl) (rfl),yex A o,yD (m:="state") (A.get 5 rfl) (rfl),st,l,k5,yD (m:="is_looked_over") R.run (rfl),f,yD (m:="go") R.run (rfl),k]
theorem ygI (R:RR w rows (HL g c.rn w q own) h c s) (n:q.cw[q.i]?=some q.hd) (f:rows[s.t]?=some (yV r)) (k:1<=w) (j:q.nth<q.ds.length) (hs:q.sl=false) (o:okS s=true) (d:okR r=true) (b:yhz w s r=true) (F:NF q.sp.length s) (fr:stB s.sn q.sp=false):yC [.loc g.H,.int q.i] h=ob (yT [.loc g.H,.int q.i,.int s.t] h) fun x h=>some (x,h):=by
 have A:=R.rest;obtain ⟨G,E,H,v,y,l⟩:=ydq (A.get 5 rfl);obtain ⟨u,p,z,D⟩:=ycY (A.get 0 rfl);obtain ⟨k1,k2,k3,B,k5,t,C⟩:=ycL R.run;have st:=yfE A;rw [awake j hs] at st;have e:=yob R f o d k;rw [b] at e;have sl:=ykP R (mem_of_getElem? (i:=2) rfl) F.nd F.hb F.hl;rw [fr] at sl;unfold yC;rw [yo];show ob (ym _ _ [.val _,.val _,.no,.no] h) fnK=_
 simpa [ycm,yD (m:="hand_at") (A.get 0 rfl) (by rfl'),yex A n,yD (m:="state") (A.get 5 rfl) (rfl),st,l,k5,yD (m:="is_looked_over") R.run (rfl),e,p,yD (m:="is_stale") R.run (rfl),sl,yD (m:="looked_over_told") (A.get 0 rfl) (rfl)]
theorem ytj {a p:Str}{k:Nat}(R:RR w rows (HL g c.rn w q own) h c s) (n:q.cw[q.i]?=some q.hd) (f:rows[s.t]?=some (yV (.take a p))) (u:1<=w) (C:q.nth<q.ds.length) (hs:q.sl=false) (o:okS s=true) (d:okR (.take a p)=true) (e:isN (yta s w p)=true) (F:NF q.sp.length s) (fr:stB s.sn q.sp=false) (B:s.hs.getD (sx p) 0%w=k) (b:k<q.bx.length) (z:q.sp.length=q.bx.length) :
  ∃ h',yC [.loc g.H,.int q.i] h=some (.tup [.str "seen",.int s.t,.int k,.int (q.bx.getD k 0)],h')/\RR w rows (HL g c.rn w q own) h' c ⟨s.t+1,s.hs.set (sx a) (q.bx.getD k 0),s.sd,s.dd,yfa s.sn k (q.bx.getD k 0) (q.sp.getD k 0)⟩:=by
 obtain ⟨J,o2,O,N,L⟩:=yhs o;obtain ⟨k2,k3⟩:a∈SL/\p∈SL:=by simpa [okR] using d
 obtain ⟨h',G,t⟩:=yod R f (mem_of_getElem? (i:=2) rfl) (mem_of_getElem? (i:=1) rfl) J k2 k3 u B (by omega) b F.hl;refine ⟨h',?_,t⟩;rw [ygI R n f u C hs o d e F fr];have A:=R.rest;have l:=t.rest;obtain ⟨M,P,T,U,K,x⟩:=ydq (A.get 5 rfl);obtain ⟨v,H,E,S⟩:=ycY (A.get 0 rfl);have j:=(ycY (l.get 0 rfl)).1;have y:=yoe A n;have I:∀ h,ybO (yV (.take a p)) (.int 0) h=some _:=fun _=>rfl
 have D:=ygm (l.get 1 rfl) b;unfold yT;rw [yo];show ob (ob (ym _ _ [.val _,.val _,.val _,.no,.no,.no] h) fnK) _=_
 simpa [ycm,v,H,E,y,x,yD (m:="row") R.run (rfl),yix R.run rfl f,I,yD (m:="see_next") R.run (rfl),G,j,D]
theorem ytk {w nth:Int}{sl v:Bool}{rn:Nat}(e:h[n]?=some (ydK ds w nth sl bf rn)):fL [14] "sleeps" ρ (.bl v) (.loc n) h=some (.nx ρ,h.set n (ydK ds w nth v bf rn)):=yfn e (rfl) (rfl)
theorem RR.sub {m m':List _}(R:RR w rows m h c s) (u:m'.Sublist m):RR w rows m' h c s:=by refine ⟨?_,R.len⟩;have A:=R.at_;exact A.sub ((((((((List.Sublist.refl _).append u).cons₂ _).cons₂ _).cons₂ _).cons₂ _).cons₂ _).cons₂ _ |>.cons₂ _)
theorem RR.urest d' (R:RR w rows (a++(n,d)::b) h c s):RR w rows (a++(n,d')::b) (h.set n d') c s:=by refine ⟨?_,R.len⟩;have A:=R.at_;unfold RM at A ⊢;rw [<- append_assoc] at A ⊢;exact At.upd (a:=_::_::_::_::_::_::_::(lay c.ly s.dd++a)) d' A
theorem yql (R:RR w rows (HL g c.rn w q own) h c s) (d:q.cw[q.i]?=some q.hd) (e:rows[s.t]?=some (yV .wait)) (f:1<=w) (o:q.nth<q.ds.length) (hs:q.sl=false) (i:okS s=true) (b:yhz w s .wait=true) (F:NF q.sp.length s) (fr:stB s.sn q.sp=false) :
  ∃ h',yC [.loc g.H,.int q.i] h=some (.tup [.str "asleep",.int s.t],h')/\RR w rows (HL g c.rn w { q with sl:=true } own) h' c s:=by
 have A:=R.rest;refine ⟨h.set q.hd (ydK q.ds w q.nth true q.bf c.rn),?_,RR.urest (a:=[_,_,_,_,_]) _ R⟩;rw [ygI R d e f o hs i rfl b F fr];obtain ⟨u,B,D,z,y,k⟩:=ydq (A.get 5 rfl);obtain ⟨x,C,j,t⟩:=ycY (A.get 0 rfl);have l:=yoe A d;have p:∀ h,ybO (yV .wait) (.int 0) h=some _:=fun _=>rfl
 have n:ycj [.loc q.hd] h=some (.non,h.set q.hd (ydK q.ds w q.nth true q.bf c.rn)):=by
  have s1:=fun ρ=>ytk (ρ:=ρ) (v:=true) (A.get 5 rfl)
  unfold ycj;rw [yo];show ob (ycZ _ _ _ _ [.val _] h) fnK=_
  simpa [yqz,s1]
 unfold yT;rw [yo];show ob (ob (ym _ _ [.val _,.val _,.val _,.no,.no,.no] h) fnK) _=_
 simpa [ycm,j,l,k,yD (m:="row") R.run (rfl),yix R.run rfl e,p,ynY,yD (m:="fall_asleep") (A.get 5 rfl) (rfl),n]
end
section
variable {h:AH}{w:Int}{rows rows':List PV}{c:Lc}{s s':RS}{r:Rw}{g:HC}{q:HQ}{own:List (Nat×Nd)}{rn:Nat}
noncomputable def hp1 (h:AH) (bf:List Int):AH:=h++[Nd.lst (bf.map .int)]
def hp2 (h:AH) (bf:List Int):AH:=hp1 h bf++[Nd.dct [] []]
def hp3 (h:AH) (bf:List Int):AH:=hp2 h bf++[Nd.lst [.loc (hp1 h bf).length]]
def hp4 (h:AH) (bf:List Int):AH:=hp3 h bf++[Nd.dct [] []]
def hp5 (h:AH) (bf:List Int):AH:=hp4 h bf++[Nd.ins 11 ["stack","last_seen"] [.loc (hp2 h bf).length,.loc (hp3 h bf).length]]
def hp6 (h:AH) (bf:List Int):AH:=hp5 h bf++[Nd.dct [] []]
theorem ywl {bf:List Int}:∃ h' c',ob (yep [.lst rows,.lst (bf.map .int),.int w] h) (fun d h1=>some (PV.loc h1.length,h1++[d]))=some (.loc c'.rn,h')/\∀ m,At h m->RR w rows m h' c' (S0 bf):=by refine ⟨_,⟨_,h.length,(hp4 h bf).length,(hp2 h bf).length,(hp3 h bf).length,(hp5 h bf).length,(hp6 h bf).length,[(hp1 h bf).length]⟩,rfl,fun m A=>⟨?_,rfl⟩⟩;have e:=At.new (.dct [] []) (a:=[_]) (At.new (.lst (bf.map .int)) (a:=[]) A);have b:=At.new (.dct [] []) (a:=[_,_]) (At.new (.lst [.loc (hp1 h bf).length]) (a:=[_]) e);have f:=At.new (.ins 11 ["stack","last_seen"] [.loc (hp2 h bf).length,.loc (hp3 h bf).length]) (a:=[_]) b;exact At.new _ (a:=[]) (At.new (.lst []) (a:=[_,_,_,_,_]) (At.new _ (a:=[_,_,_,_]) f))
theorem ywm {w nth v:Int}{sl:Bool}{rn:Nat}(e:h[n]?=some (ydK ds w nth sl bf rn)):fL [14] "nth" ρ (.int v) (.loc n) h=some (.nx ρ,h.set n (ydK ds w v sl bf rn)):=yfn e (rfl) (rfl)
theorem yAE {w nth:Int}{sl:Bool}{bf v:List Int}{rn:Nat}(e:h[n]?=some (ydK ds w nth sl bf rn)):fL [14] "before" ρ (.lst (v.map .int)) (.loc n) h=some (.nx ρ,h.set n (ydK ds w nth sl v rn)):=yfn e (rfl) (rfl)
theorem ytl {w nth:Int}{sl:Bool}{rn v:Nat}(e:h[n]?=some (ydK ds w nth sl bf rn)):fL [14] "run" ρ (.loc v) (.loc n) h=some (.nx ρ,h.set n (ydK ds w nth sl bf v)):=yfn e (rfl) (rfl)
noncomputable def Due (ds:List PV) (nth:Nat) (rows:List PV):Prop:=nth<ds.length/\ds[nth]?=some (.lst rows)\/nth=ds.length/\rows=[]
theorem yhg {n:Nat}{ds:List PV}{nth:Nat}{bf:List Int}(i:yeZ [14] "deeds" (.loc n) h=some (.lst ds,h)) (e:yeZ [12,14] "width" (.loc n) h=some (.int w,h)) (b:yeZ [14] "nth" (.loc n) h=some (.int nth,h)) (f:yeZ [14] "before" (.loc n) h=some (.lst (bf.map .int),h)) (l:Due ds nth rows):∃ h' c',ycd [.loc n] h=some (.loc c'.rn,h')/\∀ m,At h m->RR w rows m h' c' (S0 bf):=by
 obtain ⟨h',c',d,j⟩:=ywl;refine ⟨h',c',?_,j⟩;unfold ycd;rw [yo];show ob (ym _ _ [.val _,.no] h) fnK=_;rcases l with ⟨h1,h2⟩|⟨h1,h2⟩
 .have a:((nth:Int)<ds.length)=True:=eq_true (by omega);have k:ycM (.lst ds) (.int nth) h=some (.lst rows,h):=by unfold ycM;simp only [ycO h2]
  simpa [b,i,f,e,a,k,d]
 .have a:((nth:Int)<ds.length)=False:=eq_false (by omega);subst h2
  simpa [b,i,f,e,a,d]
theorem ywn {bf:List Int}(A:At h (HL g rn w q own)) (j:∀ h1,At h1 (HL g rn w { q with nth:=q.nth+1 } own)->ybc [v] h1=some (.lst (bf.map .int),h1)) (f:Due q.ds (q.nth+1) rows) :
  ∃ h' c',ydY [.loc q.hd,v] h=some (.non,h')/\RR w rows (HL g c'.rn w { q with nth:=q.nth+1,bf:=bf } own) h' c' (S0 bf):=by
 obtain ⟨p,u,e,o,n,t⟩:=ydq (A.get 5 rfl);have d:At _ (HL g rn w { q with nth:=q.nth+1 } own):=At.upd (a:=[_,_,_,_,_]) _ A;have b:At ((h.set q.hd (ydK q.ds w (q.nth+1:Nat) q.sl q.bf rn)).set q.hd (ydK q.ds w (q.nth+1:Nat) q.sl bf rn)) _:=At.upd (a:=[_,_,_,_,_]) _ d;have s1:=fun ρ=>ywm (ρ:=ρ) (v:=(q.nth+1:Nat)) (A.get 5 rfl)
 have s2:=fun ρ=>yAE (ρ:=ρ) (v:=bf) (d.get 5 rfl)
 have k:=j _ d;obtain ⟨a1,a2,a3,a4,a5,a6⟩:=ydq (b.get 5 rfl);obtain ⟨h',c',l,i⟩:=yhg a1 a2 a3 a5 f;have R:=i _ b;have B:=R.rest;have s3:=fun ρ=>ytl (ρ:=ρ) (v:=c'.rn) (B.get 5 rfl)
 refine ⟨_,c',?_,RR.urest _ R⟩;have z:(q.nth:Int)+1=(q.nth+1:Nat):=rfl;unfold ydY;rw [yo];show ob (ym _ _ [.val _,.val v] h) fnK=_
 simpa [yqz,ycm,e,z,s1,s2,k,yD (m:="new_run") (b.get 5 rfl) (rfl),l,s3]
def EX (c:Lc) (w:Int) (rows:List PV) (s:RS):List (Nat×Nd):=RM w rows c s []
theorem yiA:RM w rows c s m=EX c w rows s++m:=by unfold EX RM;simp
theorem RR.hl (R:RR w rows (HL g c.rn w q own) h c s):At h (HL g c.rn w q (EX c w rows s++own)):=by have A:=R.at_;rw [yiA] at A;exact A.perm (show (HL g c.rn w q []++(EX c w rows s++own)).Perm _ from List.perm_append_comm_assoc _ _ _)
theorem yxH (a:h[b]?=some (.ins 11 ["stack","last_seen"] [.loc st,.loc rn])) (d:h[rn]?=some (.dct (sK m) (sA m))) (hs:sortI (sK m) (sA m)=some L):yfi [.loc b] h=some (.lst L,h):=by have a:=ysP a;unfold yfi;rw [yo,yrO,yzk];unfold yjA;rw [ykl,show ye 0 _ h=some _ from rfl,ybo,a,ybo];unfold ymj;simp only [d,hs];rfl
noncomputable def yBp (q:HQ) (en:PV) (L laid:List PV) (bf:List Int):PV:=.tup [.int (q.i:Nat),.int (q.nth:Nat),en,.lst L,.lst laid,.lst (bf.map .int)]
theorem yiB {bf:List Int}(A:At h (HL g c.rn w q (EX c w rows s++own))) (n:q.cw[q.i]?=some q.hd) (hs:sortI (sK s.sn) (sA s.sn)=some L) (e:∀ h1 p,At h1 (HL g c.rn w p (EX c w rows s++own))->ybc [v] h1=some (.lst (bf.map .int),h1)) (x:Due q.ds (q.nth+1) rows') (hl:q.en.length<1000) :
  ∃ h' c',ycu [.loc g.H,.int q.i,en,.lst laid,v] h=some (.non,h')/\RR w rows' (HL g c'.rn w { q with en:=q.en++[yBp q en L laid bf],nth:=q.nth+1,bf:=bf } own) h' c' (S0 bf):=by
 obtain ⟨E,I,f,y⟩:=ycY (A.get 0 rfl);obtain ⟨k1,k2,k3,B,k5,o⟩:=ydq (A.get 5 rfl);obtain ⟨D,r2,u,H,F,C,G⟩:=ycL (A.get 6 rfl);have l:=yoe A n;have b:=A.get 4 rfl;have d:At _ (HL g c.rn w { q with en:=q.en++[yBp q en L laid bf] } _):=At.upd (a:=[_,_,_,_]) _ A;obtain ⟨h',c',z,k⟩:=ywn d (fun h1 a=>e h1 _ a) x;refine ⟨h',c',?_,k.sub ((((((List.sublist_append_right _ _).cons₂ _).cons₂ _).cons₂ _).cons₂ _).cons₂ _ |>.cons₂ _)⟩;have i:yiX _ [.tup _] h=some (.non,h.set g.en (.lst (q.en++[yBp q en L laid bf]))):=ynO b (by omega);have j:=e _ _ A;have t:=yxH (A.get 8 rfl) (A.get 10 rfl) hs;unfold ycu;rw [yo];show ob (ym _ _ [.val _,.val _,.val en,.val _,.val v,.no] h) fnK=_
 simpa [ycm,f,l,y,ydH b,k3,o,u,yD (m:="saw") (A.get 8 rfl) (rfl),t,j,i,yD (m:="go_on") (d.get 5 rfl) (rfl),z]
theorem yqm:(("lay":Str) = "take")=False:=eq_false (by rfl')
theorem yqn:(("lay":Str) = "wait")=False:=eq_false (by rfl')
theorem yof:(("lay":Str) = "throw")=False:=eq_false (by rfl')
theorem ytm (R:RR w rows (HL g c.rn w q own) h c s) (e:q.cw[q.i]?=some q.hd) (i:rows[s.t]?=some (yV (.throw a b))) (o:1<=w) (G:q.nth<q.ds.length) (hs:q.sl=false) (j:okS s=true) (d:okR (.throw a b)=true) (f:yhz w s (.throw a b)=true) (F:NF q.sp.length s) (fr:stB s.sn q.sp=false) (p:sortI (sK s.sn) (sA s.sn)=some L) (u:Due q.ds (q.nth+1) rows') (hl:q.en.length<1000) :
  ∃ h' c',yC [.loc g.H,.int q.i] h=some (.tup [.str "fell",.int s.t],h')/\RR w rows' (HL g c'.rn w { q with en:=q.en++[yBp q (.tup [.str "fell",.str a,.int (s.hs.getD (sx b) 0)]) L [] q.bf],nth:=q.nth+1 } own) h' c' (S0 q.bf):=by
 obtain ⟨D,o2,O,K,N⟩:=yhs j;have A:=R.hl;have t:=by simpa [okR] using d
 obtain ⟨h',c',y,l⟩:=yiB (v:=.lst _) A e p (fun h1 _ _=>rfl) u hl;refine ⟨h',c',?_,l⟩;rw [ygI R e i o G hs j d f F fr];obtain ⟨J,P,U,M,k,x⟩:=ydq (A.get 5 rfl);obtain ⟨T,S,z,I⟩:=ycY (A.get 0 rfl);have B:=yoe A e;have C:=yde R.run R.held D t;have E:∀ h,ybO (yV (.throw a b)) (.int 0) h=some _:=fun _=>rfl
 have n:∀ h,ybO (yV (.throw a b)) (.int 1) h=some _:=fun _=>rfl
 have H:∀ h,ybO (yV (.throw a b)) (.int 2) h=some _:=fun _=>rfl
 unfold yT;rw [yo];show ob (ob (ym _ _ [.val _,.val _,.val _,.no,.no,.no] h) fnK) _=_
 simpa [ycm,z,B,x,yD (m:="row") R.run (rfl),yix R.run rfl i,E,n,H,ymx,yhp,yD (m:="held_in") R.run (rfl),C,k,yD (m:="end_deed") (A.get 0 rfl) (rfl),y]
end
noncomputable def ydr (p:Nat×Int):PV:=.tup [.int (p.1:Nat),.int p.2]
noncomputable def ywo:List Int->List (Nat×Int)->List Int
 | bx,[]=>bx
 | bx,p::r=>ywo (bx.set p.1 p.2) r
noncomputable def yqo:List Int->List (Nat×Int)->List Int
 | sp,[]=>sp
 | sp,p::r=>yqo (sp.set p.1 (sp.getD p.1 0+1)) r
theorem ypx:∀ l bx,(ywo bx l).length=bx.length
 | [],_=>rfl
 | p::r,bx=>by show (ywo _ r).length=_;rw [ypx r,length_set]
theorem ykQ:∀ l bx,(yqo bx l).length=bx.length
 | [],_=>rfl
 | p::r,bx=>by show (yqo _ r).length=_;rw [ykQ r,length_set]
section
variable {h:AH}{w:Int}{rows rows':List PV}{c:Lc}{s s':RS}{r:Rw}{g:HC}{q:HQ}{own:List (Nat×Nd)}{rn:Nat}
theorem ytn {xs:List Int}(f:ev ρ h=some (.int v,h)) (i:eo ρ h=some (.loc n,h)) (a:ei ρ h=some (.int k,h)) (e:h[n]?=some (.lst (xs.map .int))) (b:k<xs.length):ymi eo ei ev ρ h=some (.nx ρ,h.set n (.lst ((xs.set k v).map .int))):=by
 have d:ixN (xs.map PV.int).length k=some k:=by unfold ixN;simp [b]
 unfold ymi;rw [f,ybo,i,ybo,a,ybo];simp only [e,d];rw [map_set]
theorem ymE (b:G x ρ=some ρ1) (a:S ρ1 h=some (.nx ρ2,h1)):ygc G S (x::xs) ρ h=ygc G S xs ρ2 h1:=by show (G x ρ).bind _=_;rw [b,bind_some,a];rfl
theorem ypy:∀ l (q:HQ) (h:AH) v4 v5,At h (HL g rn w q own)->(∀ p∈l,p.1<q.bx.length)->q.sp.length=q.bx.length ->
  ∃ h' f e,ygc (yv 4) ldB (l.map ydr) [.val (.loc g.H),v1,v2,v3,v4,v5] h=some (.nx [.val (.loc g.H),v1,v2,v3,f,e],h')/\At h' (HL g rn w { q with bx:=ywo q.bx l,sp:=yqo q.sp l } own)
 | [],q,h,v4,v5,A,_,_=>⟨h,v4,v5,rfl,A⟩
 | p::l,q,h,v4,v5,A,j,hs=>by
  have hp:=j p mem_cons_self;obtain ⟨t,H,E,G⟩:=ycY (A.get 0 rfl);have d:At _ (HL g rn w { q with bx:=q.bx.set p.1 p.2 } own):=At.upd (a:=[_]) _ A;have y:At _ (HL g rn w { q with bx:=q.bx.set p.1 p.2,sp:=q.sp.set p.1 (q.sp.getD p.1 0+1) } own):=At.upd (a:=[_,_]) _ d;obtain ⟨D,i,F,C⟩:=ycY (d.get 0 rfl);have s1:=ytn (h:=h) (eo:=yY [15] "numbers" (ye 0)) (ei:=ye 5) (ev:=xOp (ybO) (ye 4) (xC (.int 1))) (ρ:=[.val (.loc g.H),v1,v2,v3,.val (ydr p),.val _]) rfl (by simpa [t]) rfl (A.get 1 rfl) hp;have s2:=ytn (xs:=q.sp) (k:=p.1) (v:=q.sp.getD p.1 0+1) (eo:=yY [15] "marks" (ye 0)) (ei:=ye 5) (ev:=xOp yeP (xOp (ycM) (yY [15] "marks" (ye 0)) (ye 5)) (xC (.int 1))) (ρ:=[.val (.loc g.H),v1,v2,v3,.val (ydr p),.val _]) (by
   have u:=ygm (d.get 2 rfl) (show p.1<q.sp.length by omega)
   simpa [i,u]) (by simpa [i]) rfl (d.get 2 rfl) (by omega)
  have B:∀ h,ybO (ydr p) (.int 0) h=some _:=fun _=>rfl
  have z:ldB [.val (.loc g.H),v1,v2,v3,.val (ydr p),v5] h=some (.nx [.val (.loc g.H),v1,v2,v3,.val (ydr p),.val (.int p.1)],(h.set g.nu (.lst ((q.bx.set p.1 p.2).map .int))).set g.ma (.lst ((q.sp.set p.1 (q.sp.getD p.1 0+1)).map .int))):=by
   unfold ldB
   simpa [B,s1,s2]
  obtain ⟨h',a,b,o,n⟩:=ypy l _ _ _ _ y (fun x m=>by rw [length_set];exact j x (mem_cons_of_mem _ m)) (by simp_all);refine ⟨h',a,b,?_,n⟩;show ygc _ _ (ydr p::l.map ydr) _ h=_;rw [ymE (by kernel_rfl!) z];exact o
theorem ywp (G:LG h o st b [l0] [d] ks xs) (hs:sortI d.1 d.2=some L):yeH [.loc o] h=some (.lst L,h):=by
 have e:=ygk G.ob;have f:=G.st;have i:=G.dl.1;have a:ycM (.loc st) (.int 0) h=some (.loc l0,h):=by unfold ycM;simp only [f];rfl
 unfold yeH;rw [yo];show ob (ym _ _ [.val _,.no] h) fnK=_
 simpa [e,a]
 unfold yjA;symm;unfold ymj;simp only [i,hs];rfl
theorem yDS {l:List _}(R:RR w rows (HL g c.rn w q own) h c s) (i:q.cw[q.i]?=some q.hd) (ed:s.dd=[d]) (o:sortI d.1 d.2=some (l.map ydr)) (j:∀ p∈l,p.1<q.bx.length) (e:q.sp.length=q.bx.length) (k:sortI (sK s.sn) (sA s.sn)=some L) (v:Due q.ds (q.nth+1) rows') (hl:q.en.length<1000) :
  ∃ h1 c',(∀ h2,ybA [.loc g.H] h1=some (.non,h2)->ycT [.loc g.H,.int q.i] h=some (.non,h2))/\RR w rows' (HL g c'.rn w { q with bx:=ywo q.bx l,sp:=yqo q.sp l,en:=q.en++[yBp q (.tup [.str "done"]) L (l.map ydr) s.hs],nth:=q.nth+1,bf:=s.hs } own) h1 c' (S0 s.hs):=by
 have A:=R.hl;obtain ⟨l0,D⟩:∃ l0,c.ly=[l0]:=by have:=R.len;rw [ed] at this;exact List.length_eq_one_iff.mp this
 have G:=R.lg;rw [D,ed] at G;have wr:=ywp G o;obtain ⟨F,P,n,J⟩:=ycY (A.get 0 rfl);obtain ⟨k1,k2,k3,H,k5,z⟩:=ydq (A.get 5 rfl);obtain ⟨N,r2,u,E,O,U,M⟩:=ycL R.run;have x:=yoe A i;obtain ⟨K,v4,v5,B,b⟩:=ypy (v1:=.val (.int q.i)) (v2:=.val (.loc c.rn)) (v3:=.val (.lst (l.map ydr))) l q h .no .no A j e;obtain ⟨h',c',C,f⟩:=yiB b i k (fun h1 S a=>ygy (a.get 7 rfl)) v hl;refine ⟨h',c',fun h2 t=>?_,f⟩;obtain ⟨u1,W,T,I,u5,u6,u7⟩:=ycL (b.get 6 rfl);have y:xIL (ye 3) [.val (.loc g.H),.val (.int q.i),.val (.loc c.rn),.val _,.no,.no] h=some (l.map ydr,h):=ysO rfl;unfold ycT;rw [yo];show ob (ym _ _ [.val _,.val _,.no,.no,.no,.no] h) fnK=_
 simpa [ycm,n,x,z,u,yD (m:="wrote") R.lg.ob (rfl),wr,y,B,u1,yD (m:="end_deed") (b.get 0 rfl) (rfl),C,yD (m:="wake_stale") (f.rest.get 0 rfl) (rfl),t]
theorem yto {l:List _}(R:RR w rows (HL g c.rn w q own) h c s) (b:q.cw[q.i]?=some q.hd) (f:rows[s.t]?=some (yV .lay)) (i:1<=w) (y:q.nth<q.ds.length) (hs:q.sl=false) (z:okS s=true) (F:NF q.sp.length s) (fr:stB s.sn q.sp=false) (ed:s.dd=[d]) (C:sortI d.1 d.2=some (l.map ydr)) (k:∀ p∈l,p.1<q.bx.length) (a:q.sp.length=q.bx.length) (j:sortI (sK s.sn) (sA s.sn)=some L) (t:Due q.ds (q.nth+1) rows') (hl:q.en.length<1000) :
  ∃ h1 c',(∀ h2,ybA [.loc g.H] h1=some (.non,h2)->yC [.loc g.H,.int q.i] h=some (.tup [.str "done",.int s.t],h2))/\RR w rows' (HL g c'.rn w { q with bx:=ywo q.bx l,sp:=yqo q.sp l,en:=q.en++[yBp q (.tup [.str "done"]) L (l.map ydr) s.hs],nth:=q.nth+1,bf:=s.hs } own) h1 c' (S0 s.hs):=by
 obtain ⟨h',c',e,x⟩:=yDS R b ed C k a j t hl;refine ⟨h',c',fun h2 o=>?_,x⟩;have e:=e h2 o;rw [ygI R b f i y hs z rfl rfl F fr];have A:=R.rest;obtain ⟨K,I,M,H,D,u⟩:=ydq (A.get 5 rfl);obtain ⟨G,J,n,E⟩:=ycY (A.get 0 rfl);have v:=yoe A b;have B:∀ h,ybO (yV .lay) (.int 0) h=some _:=fun _=>rfl
 unfold yT;rw [yo];show ob (ob (ym _ _ [.val _,.val _,.val _,.no,.no,.no] h) fnK) _=_
 simpa [ycm,n,v,u,yD (m:="row") R.run (rfl),yix R.run rfl f,B,yqm,yqn,yof,yD (m:="lay_down") (A.get 0 rfl) (rfl),e]
theorem ytp (R:RR w rows (HL g c.rn w q own) h c s) (j:Due q.ds q.nth rows'):∃ h' c',ybS [.loc q.hd] h=some (.non,h')/\RR w rows' (HL g c'.rn w { q with sl:=false } own) h' c' (S0 q.bf):=by
 have A:=R.rest;have d:At (h.set q.hd (ydK q.ds w q.nth false q.bf c.rn)) _:=At.upd (a:=[_,_,_,_,_]) _ A;have s1:=fun ρ=>ytk (ρ:=ρ) (v:=false) (A.get 5 rfl)
 obtain ⟨a1,a2,a3,a4,a5,a6⟩:=ydq (d.get 5 rfl);obtain ⟨h',c',f,i⟩:=yhg a1 a2 a3 a5 j;have e:=i _ d;have B:=e.rest;have s3:=fun ρ=>ytl (ρ:=ρ) (v:=c'.rn) (B.get 5 rfl)
 refine ⟨_,c',?_,RR.urest _ e⟩;unfold ybS;rw [yo];show ob (ym _ _ [.val _] h) fnK=_
 simpa [yqz,ycm,s1,yD (m:="new_run") (d.get 5 rfl) (by rfl'),f,s3]
theorem ytq (R:RR w rows (HL g c.rn w q own) h c s) (o:q.cw[q.i]?=some q.hd) (e:rows[s.t]?=some (yV r)) (k:1<=w) (t:q.nth<q.ds.length) (hs:q.sl=false) (f:okS s=true) (b:okR r=true) (a:yhz w s r=true) (F:NF q.sp.length s) (fr:stB s.sn q.sp=true) (l:Due q.ds q.nth rows') :
  ∃ h' c',yC [.loc g.H,.int q.i] h=some (.tup [.str "anew",.int s.t],h')/\RR w rows' (HL g c'.rn w { q with sl:=false } own) h' c' (S0 q.bf):=by
 obtain ⟨h',c',j,p⟩:=ytp R l;refine ⟨h',c',?_,p⟩;have A:=R.rest;obtain ⟨E,G,I,x,y,n⟩:=ydq (A.get 5 rfl);obtain ⟨H,u,z,C⟩:=ycY (A.get 0 rfl);obtain ⟨k1,k2,k3,B,k5,v,D⟩:=ycL R.run;have st:=yfE A;rw [awake t hs] at st;have d:=yob R e f b k;rw [a] at d;have sl:=ykP R (mem_of_getElem? (i:=2) rfl) F.nd F.hb F.hl;rw [fr] at sl;unfold yC;rw [yo];show ob (ym _ _ [.val _,.val _,.no,.no] h) fnK=_
 simpa [ycm,yD (m:="hand_at") (A.get 0 rfl) (rfl),yex A o,yD (m:="state") (A.get 5 rfl) (rfl),st,n,k5,yD (m:="is_looked_over") R.run (rfl),d,u,yD (m:="is_stale") R.run (rfl),sl,yD (m:="begin_anew") (A.get 5 rfl) (rfl),j]
end
structure HD where
 ds:List PV
 nth:Nat
 sl:Bool
 bf:List Int
 rows:List PV
 s:RS
def HN (w:Int) (a:Nat×Lc) (x:HD) (m:List (Nat×Nd)):List (Nat×Nd):=(a.1,ydK x.ds w x.nth x.sl x.bf a.2.rn)::RM w x.rows a.2 x.s m
def CR (w:Int):List (Nat×Lc)->List HD->List (Nat×Nd)->List (Nat×Nd)
 | a::as,x::xs,m=>HN w a x (CR w as xs m)
 | _,_,m=>m
noncomputable def LyOk:List (Nat×Lc)->List HD->Prop
 | a::as,x::xs=>a.2.ly.length=x.s.dd.length/\LyOk as xs
 | [],[]=>True
 | _,_=>False
def H5 (g:HC) (bx sp:List Int) (en:List PV) (cw:List Nat):List (Nat×Nd):=[(g.H,yqh g.nu g.ma g.cr g.en),(g.nu,.lst (bx.map .int)),(g.ma,.lst (sp.map .int)),(g.cr,.lst (cw.map .loc)),(g.en,.lst en)]
structure HH (h:AH) (g:HC) (w:Int) (bx sp:List Int) (en:List PV) (as:List (Nat×Lc)) (xs:List HD) (own:List (Nat×Nd)):Prop where
 at_:At h (H5 g bx sp en (as.map (·.1))++CR w as xs own)
 ly:LyOk as xs
noncomputable def qOf (bx sp:List Int) (en:List PV) (cw:List Nat) (i hd:Nat) (x:HD):HQ:=⟨bx,sp,en,cw,i,hd,x.ds,x.nth,x.sl,x.bf⟩
section
variable {h:AH}{w:Int}{g:HC}{bx sp:List Int}{en:List PV}{as as1 as2:List (Nat×Lc)}{xs xs1 xs2:List HD}{a:Nat×Lc}{x x':HD}{own m:List (Nat×Nd)}{c:Lc}
theorem yht:HN w a x m=HN w a x []++m:=by unfold HN;rw [yiA,yiA,append_nil];rfl
theorem ykR:∀ {as1:List _}{xs1:List HD},as1.length=xs1.length->(CR w (as1++a::as2) (xs1++x::xs2) m).Perm (HN w a x (CR w as1 xs1 (CR w as2 xs2 m)))
 | [],[],_=>.refl _
 | b::as1,y::xs1,e=>by show (HN w b y _).Perm (HN w a x (HN w b y _));have d:=ykR (by simpa using e);rw [yht,yht (a:=a),yht (m:=CR w as1 xs1 _)];refine (d.append_left _).trans ?_;rw [yht (a:=a)];exact List.perm_append_comm_assoc _ _ _
theorem LyOk.split:∀ {as1:List _}{xs1:List HD},as1.length=xs1.length->(LyOk (as1++a::as2) (xs1++x::xs2) ↔ LyOk as1 xs1/\a.2.ly.length=x.s.dd.length/\LyOk as2 xs2)
 | [],[],_=>⟨fun k=>⟨trivial,k⟩,fun k=>k.2⟩
 | b::as1,y::xs1,e=>by have d:=LyOk.split (by simpa using e);show _/\LyOk (as1++a::as2) (xs1++x::xs2) ↔ (_/\LyOk as1 xs1)/\_;rw [d,and_assoc]
theorem yDT {q:HQ}:(H5 g q.bx q.sp q.en q.cw++(q.hd,ydK q.ds w q.nth q.sl q.bf b)::RM w rows c s m).Perm (RM w rows c s (HL g b w q m)):=by rw [yiA,yiA];refine .trans ?_ (show (H5 g q.bx q.sp q.en q.cw++(EX c w rows s++(q.hd,ydK q.ds w q.nth q.sl q.bf b)::m)).Perm _ from List.perm_append_comm_assoc _ _ _);exact List.perm_middle.symm.append_left _
theorem HH.foc (X:HH h g w bx sp en (as1++a::as2) (xs1++x::xs2) own) (l:as1.length=xs1.length):RR w x.rows (HL g a.2.rn w (qOf bx sp en ((as1++a::as2).map (·.1)) as1.length a.1 x) (CR w as1 xs1 (CR w as2 xs2 own))) h a.2 x.s:=by exact ⟨(X.at_.perm (((ykR l).append_left _).trans (yDT (q:=qOf bx sp en _ _ _ _))).symm),((LyOk.split l).mp X.ly).2.1⟩
theorem HH.unf (L:LyOk (as1++a::as2) (xs1++x::xs2)) (l:as1.length=xs1.length) (R:RR w x'.rows (HL g c.rn w (qOf b d f ((as1++a::as2).map (·.1)) as1.length a.1 x') (CR w as1 xs1 (CR w as2 xs2 own))) h c x'.s):HH h g w b d f (as1++(a.1,c)::as2) (xs1++x'::xs2) own:=by
 obtain ⟨i,k,j⟩:=(LyOk.split l).mp L;refine ⟨?_,(LyOk.split l).mpr ⟨i,R.len,j⟩⟩;have e:(as1++(a.1,c)::as2).map (·.1)=(as1++a::as2).map (·.1):=by simp
 rw [e];exact R.at_.perm (((ykR l).append_left _).trans (yDT (q:=qOf b d f _ _ _ _)))
theorem ymF:((as1++a::as2).map (·.1))[as1.length]?=some a.1:=by simp
noncomputable def asB (x:HD):Bool:=decide (x.nth≠x.ds.length) && x.sl
def ydL (sp:List Int) (x:HD):HD:=if (asB x && stB x.s.sn sp)=true then { x with sl:=false,s:=S0 x.bf } else x
theorem yjd:(("ended":Str) = "asleep")=False:=eq_false (by rfl')
theorem yje:(("awake":Str) = "asleep")=False:=eq_false (by rfl')
theorem yDU (X:HH h g w bx sp en (as1++a::as2) (xs1++x::xs2) own) (l:as1.length=xs1.length) (t:Due x.ds x.nth x.rows) (F:NF sp.length x.s):∃ h' c',wkB [.val (.loc g.H),.val (.loc a.1)] h=some (.nx [.val (.loc g.H),.val (.loc a.1)],h')/\HH h' g w bx sp en (as1++(a.1,c')::as2) (xs1++ydL sp x::xs2) own:=by
 have R:=X.foc l;have A:=R.rest;have st:=yfE A;obtain ⟨y,q,v,u⟩:=ycY (A.get 0 rfl);have j:h[a.1]?=some (ydK x.ds w x.nth x.sl x.bf a.2.rn):=A.get 5 rfl;have p:=(ydq j).2.2.2.2.2;have sl:=ykP (ma:=g.ma) (sp:=sp) R (mem_of_getElem? (i:=2) rfl) F.nd F.hb F.hl;have o:=R.run
 by_cases e:x.nth=x.ds.length
 .have d:stN (qOf bx sp en ((as1++a::as2).map (·.1)) as1.length a.1 x) = "ended":=if_pos e;rw [d] at st;have f:ydL sp x=x:=by unfold ydL asB;simp [e]
  rw [f];refine ⟨h,a.2,?_,X⟩;unfold wkB;dsimp only [qOf] at st
  simpa [ycm,yD (m:="state") j (by rfl'),st,yjd]
 .cases es:x.sl with
  | false =>
   have d:stN (qOf bx sp en ((as1++a::as2).map (·.1)) as1.length a.1 x) = "awake":=(if_neg e).trans (if_neg (by rw [show (qOf bx sp en _ as1.length a.1 x).sl=x.sl from rfl,es];decide));rw [d] at st;have f:ydL sp x=x:=by unfold ydL asB;simp [es]
   rw [f];refine ⟨h,a.2,?_,X⟩;unfold wkB;dsimp only [qOf] at st
   simpa [ycm,yD (m:="state") j (by rfl'),st,yje]
  | true =>
   have d:stN (qOf bx sp en ((as1++a::as2).map (·.1)) as1.length a.1 x) = "asleep":=(if_neg e).trans (if_pos (by rw [show (qOf bx sp en _ as1.length a.1 x).sl=x.sl from rfl,es]));rw [d] at st;dsimp only [qOf] at st;cases k:stB x.s.sn sp with
   | false =>
    have f:ydL sp x=x:=by unfold ydL;simp [k]
    rw [f];rw [k] at sl;refine ⟨h,a.2,?_,X⟩;unfold wkB
    simpa [ycm,yD (m:="state") j (by rfl'),st,p,q,yD (m:="is_stale") o (by rfl'),sl]
   | true =>
    have f:ydL sp x={ x with sl:=false,s:=S0 x.bf }:=if_pos (by unfold asB;simp [e,es,k]);rw [f];rw [k] at sl;obtain ⟨h',c',n,r⟩:=ytp R (t);refine ⟨h',c',?_,HH.unf X.ly l r⟩;dsimp only [qOf] at n;unfold wkB
    simpa [ycm,yD (m:="state") j (by rfl'),st,p,q,yD (m:="is_stale") o (by rfl'),sl,yD (m:="begin_anew") j (by rfl'),n]
def yEX (W:Nat) (x:HD):Prop:=Due x.ds x.nth x.rows/\NF W x.s
theorem LyOk.len:∀ {as:List _}{xs:List HD},LyOk as xs->as.length=xs.length
 | [],[],_=>rfl
 | _::_,_::_,k=>by rw [length_cons,length_cons,LyOk.len k.2]
theorem LyOk.app:∀ {as1 as2:List _}{xs1 xs2:List HD},as1.length=xs1.length->LyOk (as1++as2) (xs1++xs2)->LyOk as2 xs2
 | [],_,[],_,_,k=>k
 | _::_,_,_::_,_,e,k=>LyOk.app (by simpa using e) k.2
theorem ytr:∀ as2 xs2 as1 xs1 h v,HH h g w bx sp en (as1++as2) (xs1++xs2) own->as1.length=xs1.length->(∀ x∈xs2,yEX sp.length x) ->
  ∃ h' b i,ylt g.cr false (yv 1) wkB as2.length as1.length [.val (.loc g.H),v] h=some (.nx [.val (.loc g.H),i],h')/\HH h' g w bx sp en (as1++b) (xs1++xs2.map (ydL sp)) own/\b.map (·.1)=as2.map (·.1)
 | [],xs2,as1,xs1,h,v,X,l,_=>by have e:=X.at_.get 3 rfl;have f:=(LyOk.app l X.ly).len;have:=List.length_eq_zero_iff.mp f.symm;subst this;refine ⟨h,[],v,?_,X,rfl⟩;show ylt g.cr false _ wkB 0 as1.length _ h=_;unfold ylt;simp_all
 | a::as2,[],as1,xs1,h,v,X,l,_=>by have f:=(LyOk.app l X.ly).len;cases f
 | a::as2,x::xs2,as1,xs1,h,v,X,l,d=>by
  have e:=X.at_.get 3 rfl;obtain ⟨h1,k,o,r⟩:=yDU X l (d x mem_cons_self).1 (d x mem_cons_self).2;obtain ⟨h',b,i,j,s,p⟩:=ytr as2 xs2 (as1++[(a.1,k)]) (xs1++[ydL sp x]) h1 _ (by simp_all) (by simp [l]) fun y n=>d y (mem_cons_of_mem _ n)
  refine ⟨h',(a.1,k)::b,i,?_,by simp_all,by simp [p]⟩;rw [length_append] at j;have q:yv 1 _ [.val (.loc g.H),v]=some [.val _,.val (.loc a.1)]:=rfl;have ei:(((as1++a::as2).map (·.1)).map PV.loc)[as1.length]?=some (.loc a.1):=by simp_all
  show ylt g.cr false _ wkB (as2.length+1) as1.length _ h=_;unfold ylt;simp only [e,Bool.false_eq_true,if_false,ei,q,bind_some,o,ybo];exact j
theorem yAF (X:HH h g w bx sp en as xs own) (i:∀ x∈xs,yEX sp.length x):∃ h' b,ybA [.loc g.H] h=some (.non,h')/\HH h' g w bx sp en b (xs.map (ydL sp)) own/\b.map (·.1)=as.map (·.1):=by
 obtain ⟨h',b,p,f,d,j⟩:=ytr as xs [] [] h .no X rfl i;refine ⟨h',b,?_,d,j⟩;obtain ⟨l,n,k,q⟩:=ycY (X.at_.get 0 rfl);have e:=X.at_.get 3 rfl;unfold ybA;rw [yo];show ob (ykx false _ _ wkB [.val _,.no] h) fnK=_;unfold ykx
 simpa [k]
 simp only [e];rw [length_map,length_map];exact (congrArg (fun o=>ob o fnK) f).trans rfl
end
section
variable {h:AH}{w:Int}{g:HC}{bx sp:List Int}{en:List PV}{as as1 as2:List (Nat×Lc)}{xs xs1 xs2:List HD}{a:Nat×Lc}{x x':HD}{own m:List (Nat×Nd)}{c:Lc}{s s':RS}{r:Rw}
theorem yog {m:List _}(hp:p∈yfa m k u v):p=(k,u,v)\/p∈m:=by
 unfold yfa at hp;split at hp
 .obtain ⟨q,b,e⟩:=List.mem_map.mp hp;split at e
  .exact .inl e.symm
  .exact .inr (e ▸ b)
 .rcases List.mem_append.mp hp with z|z
  .exact .inr z
  .exact .inl (List.mem_singleton.mp z)
theorem ypz m k u v:(yfa m k u v).map (·.1)=if k∈m.map (·.1) then m.map (·.1) else m.map (·.1)++[k]:=by
 unfold yfa;split
 .rw [map_map];refine List.map_congr_left fun p _=>?_
  show (if p.1=k then (k,u,v) else p).1=p.1;split
  .rename_i e;exact e.symm
  .rfl
 .simp
theorem yiC:∀ W (l:List Nat),l.Nodup->(∀ k∈l,k<W)->l.length<=W
 | 0,l,_,d=>by
  cases l with
  | nil=>simp
  | cons a _=>exact absurd (d a mem_cons_self) (by omega)
 | W+1,l,f,d=>by
  by_cases e:W∈l
  .have:=yiC W _ (f.erase W) fun k b=>by have h1:=d k (List.mem_of_mem_erase b);have h2:=(List.Nodup.mem_erase_iff f).mp b |>.1;omega
   grind
  .have:=yiC W l f fun k b=>by
    have h1:=d k b;have:k≠W:=fun z=>e (z ▸ b)
    omega
   omega
theorem NF.put (F:NF W s) (hk:k<W) (hW:W<=16) :NF W ⟨t,hs,s.sd,s.dd,yfa s.sn k u v⟩:=by
 have nd:((yfa s.sn k u v).map (·.1)).Nodup:=by
  rw [ypz];split
  .exact F.nd
  .rename_i e;rw [List.nodup_append];exact ⟨F.nd,by simp,fun x hx y hy z=>by rw [List.mem_singleton.mp hy] at z;exact e (z ▸ hx)⟩
 have hb:∀ p∈yfa s.sn k u v,p.1<W:=fun p hp=>by
  rcases yog hp with rfl|hp
  .exact hk
  .exact F.hb p hp
 refine ⟨nd,hb,?_⟩;have:=yiC W _ nd fun x hx=>by obtain ⟨p,hp,rfl⟩:=List.mem_map.mp hx;exact hb p hp
 rw [length_map] at this;show (yfa s.sn k u v).length<=900;omega
theorem yAG {m:List (Nat×Int×Int)}:stB m sp=false ↔ ∀ p∈m,sp.getD p.1 0=p.2.2:=by unfold stB;simp [List.any_eq_false]
theorem yDV {m:List (Nat×Int×Int)}(fr:stB m sp=false):stB (yfa m k u (sp.getD k 0)) sp=false:=by
 rw [yAG] at fr ⊢;intro p hp;rcases yog hp with rfl|hp
 .rfl
 .exact fr p hp
theorem yjK {rws:List Rw}{t:Nat}(b:rws[t]?=some r):(rws.map yV)[t]?=some (yV r):=by simp_all
noncomputable def stX (x:HD):Str:=if x.nth=x.ds.length then "ended" else if x.sl=true then "asleep" else "awake"
theorem yGE (X:HH h g w bx sp en (as1++a::as2) (xs1++x::xs2) own) (l:as1.length=xs1.length) (hs:(stX x = "awake")=False):yC [.loc g.H,.int as1.length] h=some (.tup [.str "idle"],h):=yth (q:=qOf bx sp en _ as1.length a.1 x) (X.foc l).rest (ymF) hs
theorem yDW {rws:List Rw}(X:HH h g bx.length bx sp en (as1++a::as2) (xs1++x::xs2) own) (l:as1.length=xs1.length) (b:sp.length=bx.length) (h1:1<=bx.length) (k:x.rows=rws.map yV) (i:x.nth<x.ds.length) (hs:x.sl=false) (F:NF bx.length x.s) (fr:stB x.s.sn sp=false) (d:rws[x.s.t]?=some .wait) (j:okS x.s=true) (n:yhz bx.length x.s .wait=true) :
  ∃ h',yC [.loc g.H,.int as1.length] h=some (.tup [.str "asleep",.int x.s.t],h')/\HH h' g bx.length bx sp en (as1++a::as2) (xs1++{ x with sl:=true }::xs2) own:=by
 have R:=X.foc l;obtain ⟨h',e,f⟩:=yql R (ymF) (by rw [k];exact yjK d) (by omega) i hs j n (show NF sp.length x.s by rw [b];exact F) fr;exact ⟨h',e,HH.unf X.ly l f⟩
theorem yGF {rws:List Rw}(X:HH h g bx.length bx sp en (as1++a::as2) (xs1++x::xs2) own) (l:as1.length=xs1.length) (h1:1<=bx.length) (o:x.rows=rws.map yV) (j:x.nth<x.ds.length) (hs:x.sl=false) (f:rws[x.s.t]?=some r) (k:okS x.s=true) (b:okR r=true) (d:yhz bx.length x.s r=false) (e:yqk bx.length r x.s=some s') :
  ∃ h' c',yC [.loc g.H,.int as1.length] h=some (.tup [.str "gone",.int x.s.t],h')/\HH h' g bx.length bx sp en (as1++(a.1,c')::as2) (xs1++{ x with s:=s' }::xs2) own:=by
 have R:=X.foc l;obtain ⟨h',c',i,n⟩:=yti R (ymF) (by rw [o];exact yjK f) (by omega) j hs k b d e;exact ⟨h',c',i,HH.unf X.ly l n⟩
theorem yGG {rws:List Rw}{p q:Str}{k:Nat}(X:HH h g bx.length bx sp en (as1++a::as2) (xs1++x::xs2) own) (l:as1.length=xs1.length) (b:sp.length=bx.length) (h1:1<=bx.length) (n:x.rows=rws.map yV) (u:x.nth<x.ds.length) (hs:x.sl=false) (F:NF bx.length x.s) (fr:stB x.s.sn sp=false) (f:rws[x.s.t]?=some (.take p q)) (i:okS x.s=true) (d:okR (.take p q)=true) (e:isN (yta x.s bx.length q)=true) (ek:x.s.hs.getD (sx q) 0%bx.length=k) (j:k<bx.length) :
  ∃ h',yC [.loc g.H,.int as1.length] h=some (.tup [.str "seen",.int x.s.t,.int k,.int (bx.getD k 0)],h')/\HH h' g bx.length bx sp en (as1++a::as2) (xs1++{ x with s:=⟨x.s.t+1,x.s.hs.set (sx p) (bx.getD k 0),x.s.sd,x.s.dd,yfa x.s.sn k (bx.getD k 0) (sp.getD k 0)⟩ }::xs2) own:=by
 have R:=X.foc l;obtain ⟨h',t,o⟩:=ytj R (ymF) (by rw [n];exact yjK f) (by omega) u hs i d e (show NF sp.length x.s by rw [b];exact F) fr ek j b;exact ⟨h',t,HH.unf X.ly l o⟩
theorem yGH {rws:List Rw}(X:HH h g bx.length bx sp en (as1++a::as2) (xs1++x::xs2) own) (l:as1.length=xs1.length) (d:sp.length=bx.length) (h1:1<=bx.length) (j:x.rows=rws.map yV) (o:x.nth<x.ds.length) (hs:x.sl=false) (F:NF bx.length x.s) (fr:stB x.s.sn sp=true) (f:rws[x.s.t]?=some r) (k:okS x.s=true) (b:okR r=true) (e:yhz bx.length x.s r=true) (p:Due x.ds x.nth rows') :
  ∃ h' c',yC [.loc g.H,.int as1.length] h=some (.tup [.str "anew",.int x.s.t],h')/\HH h' g bx.length bx sp en (as1++(a.1,c')::as2) (xs1++{ x with sl:=false,rows:=rows',s:=S0 x.bf }::xs2) own:=by
 have R:=X.foc l;obtain ⟨h',c',n,i⟩:=ytq R (ymF) (by rw [j];exact yjK f) (by omega) o hs k b e (show NF sp.length x.s by rw [d];exact F) fr p;exact ⟨h',c',n,HH.unf X.ly l i⟩
noncomputable def yDX (i:Nat) (x:HD) (en:PV) (L laid:List PV) (bf:List Int):PV:=.tup [.int (i:Nat),.int (x.nth:Nat),en,.lst L,.lst laid,.lst (bf.map .int)]
theorem yGI {rws:List Rw}(X:HH h g bx.length bx sp en (as1++a::as2) (xs1++x::xs2) own) (l:as1.length=xs1.length) (d:sp.length=bx.length) (h1:1<=bx.length) (k:x.rows=rws.map yV) (o:x.nth<x.ds.length) (hs:x.sl=false) (F:NF bx.length x.s) (fr:stB x.s.sn sp=false) (e:rws[x.s.t]?=some (.throw p q)) (f:okS x.s=true) (b:okR (.throw p q)=true) (t:yhz bx.length x.s (.throw p q)=true) (j:sortI (sK x.s.sn) (sA x.s.sn)=some L) (u:Due x.ds (x.nth+1) rows') (hl:en.length<1000) :
  ∃ h' c',yC [.loc g.H,.int as1.length] h=some (.tup [.str "fell",.int x.s.t],h')/\HH h' g bx.length bx sp (en++[yDX as1.length x (.tup [.str "fell",.str p,.int (x.s.hs.getD (sx q) 0)]) L [] x.bf]) (as1++(a.1,c')::as2) (xs1++{ x with nth:=x.nth+1,rows:=rows',s:=S0 x.bf }::xs2) own:=by
 have R:=X.foc l;obtain ⟨h',c',n,i⟩:=ytm R (ymF) (by rw [k];exact yjK e) (by omega) o hs f b t (show NF sp.length x.s by rw [d];exact F) fr j u hl;exact ⟨h',c',n,HH.unf X.ly l i⟩
theorem yGJ {rws:List Rw}{ls:List _}(X:HH h g bx.length bx sp en (as1++a::as2) (xs1++x::xs2) own) (l:as1.length=xs1.length) (e:sp.length=bx.length) (h1:1<=bx.length) (u:x.rows=rws.map yV) (B:x.nth<x.ds.length) (hs:x.sl=false) (F:NF bx.length x.s) (fr:stB x.s.sn sp=false) (H:rws[x.s.t]?=some .lay) (n:okS x.s=true) (ed:x.s.dd=[d]) (E:sortI d.1 d.2=some (ls.map ydr)) (q:∀ p∈ls,p.1<bx.length) (o:sortI (sK x.s.sn) (sA x.s.sn)=some L) (f:Due x.ds (x.nth+1) rows') (hl:en.length<1000) (i:∀ y∈xs1++xs2,yEX bx.length y) :
  ∃ h' b,yC [.loc g.H,.int as1.length] h=some (.tup [.str "done",.int x.s.t],h')/\HH h' g bx.length (ywo bx ls) (yqo sp ls) (en++[yDX as1.length x (.tup [.str "done"]) L (ls.map ydr) x.s.hs]) b ((xs1++{ x with nth:=x.nth+1,bf:=x.s.hs,rows:=rows',s:=S0 x.s.hs }::xs2).map (ydL (yqo sp ls))) own/\b.map (·.1)=(as1++a::as2).map (·.1):=by
 have R:=X.foc l;obtain ⟨h2,c',A,v⟩:=yto R (ymF) (by rw [u];exact yjK H) (by omega) B hs n (show NF sp.length x.s by rw [e];exact F) fr ed E q e o f hl;have D:=HH.unf (x':={ x with nth:=x.nth+1,bf:=x.s.hs,rows:=rows',s:=S0 x.s.hs }) X.ly l v;have G:(yqo sp ls).length=bx.length:=by rw [ykQ];exact e
 obtain ⟨h',b,k,j,C⟩:=yAF D (fun y t=>by
  show yEX (yqo sp ls).length y;rw [G];rcases List.mem_append.mp t with z|z
  .exact i y (mem_append_left _ z)
  .rcases mem_cons.mp z with rfl|z
   .exact ⟨f,⟨List.nodup_nil,fun p hp=>(by cases hp),by show 0<=900;omega⟩⟩
   .exact i y (mem_append_right _ z))
 exact ⟨h',b,A h' k,j,by rw [C];simp⟩
end
section
variable {h:AH}{w:Int}{g:HC}{bx sp:List Int}{en:List PV}{as as1 as2:List (Nat×Lc)}{xs xs1 xs2:List HD}{a:Nat×Lc}{x x':HD}{own m:List (Nat×Nd)}
theorem yDY {x y:PV}{xs ys:List PV}(e1:f x y=some true) (e2:yhw f xs ys=some true):yhw f (x::xs) (y::ys)=some true:=by show (match f x y,yhw f xs ys with|some b,some c=>some (b && c)|_,_=>none)=_;rw [e1,e2];rfl
theorem yDZ:eqP (n+1) h (.int i) (.int i)=some true:=by show some (eqV (.int i) (.int i))=_;rw [yku rfl]
theorem yEa:eqP (n+1) h (.str i) (.str i)=some true:=by show some (eqV (.str i) (.str i))=_;rw [yku rfl]
theorem yAH {xs:List PV}(e:yhw (eqP (n+1) h) xs xs=some true):eqP (n+2) h (.tup xs) (.tup xs)=some true:=by show (match yhw (eqP (n+1) h) xs xs with|some b=>some (b && xs.length == xs.length)|none=>none)=_;rw [e];simp
theorem yAI {xs:List PV}(e:yhw (eqP (n+1) h) xs xs=some true):eqP (n+2) h (.lst xs) (.lst xs)=some true:=by show (if xs.length=xs.length then yhw (eqP (n+1) h) xs xs else some false)=_;rw [if_pos rfl,e]
noncomputable def Shp (e:PV):Prop:=∃ a b c x y z,e=.tup [a,b,c,.lst x,.lst y,.lst z]
theorem yts {en:List PV}(e:h[n]?=some (.lst en)) (c:∀ x∈en,E (inn x) h=some (x,h)):∀ k i,i+k=en.length->yqy n E inn k i h=some (en.drop i,h)
 | 0,i,d=>by unfold yqy;grind
 | k+1,i,d=>by
  have b:i<en.length:=by omega
  unfold yqy;simp only [e,List.getElem?_eq_getElem b];rw [c _ (getElem_mem b),ybo,yts e c k _ (by omega),ybo,List.drop_eq_getElem_cons b]
theorem yEb (X:HH h g w bx sp en as xs own):ydo [.loc g.H] h=some (.lst (bx.map .int),h):=by
 obtain ⟨b,d,c,e⟩:=ycY (X.at_.get 0 rfl);unfold ydo;rw [yo];show ob (yO _ [.val _] h) fnK=_
 simpa [b,ygy (X.at_.get 1 rfl)]
theorem yAJ (X:HH h g w bx sp en as xs own):ycS [.loc g.H] h=some (.lst (sp.map .int),h):=by
 obtain ⟨e,b,c,d⟩:=ycY (X.at_.get 0 rfl);unfold ycS;rw [yo];show ob (yO _ [.val _] h) fnK=_
 simpa [b,ygy (X.at_.get 2 rfl)]
theorem ywq (X:HH h g w bx sp en as xs own) (hs:∀ e∈en,Shp e) (hl:en.length<1000):yce [.loc g.H] h=some (.lst en,h):=by
 obtain ⟨k,j,i,f⟩:=ycY (X.at_.get 0 rfl);have e:=X.at_.get 4 rfl;unfold yce;rw [yo];show ob (yO _ [.val _] h) fnK=_;rw [yrO,yzk];unfold ymp
 simpa [f]
 simp only [e];rw [if_pos (by omega),yts e (fun x d=>?_) en.length 0 (by omega)]
 .rfl
 .obtain ⟨a,b,c,x,y,z,rfl⟩:=hs x d;rfl
variable (X:HH h g w bx sp en (as1++a::as2) (xs1++x::xs2) own) (l:as1.length=xs1.length)
include X l
theorem ywr:ybm [.loc g.H,.int as1.length] h=some (.loc a.1,h)/\h[a.1]?=some (ydK x.ds w x.nth x.sl x.bf a.2.rn)/\h[g.H]?=some (yqh g.nu g.ma g.cr g.en) :=
 ⟨yex (q:=qOf bx sp en _ as1.length a.1 x) (X.foc l).rest (ymF),(X.foc l).rest.get 5 rfl,(X.foc l).rest.get 0 rfl⟩
theorem yxI:ybe [.loc g.H,.int (as1.length:Nat)] h=some (.str (stX x),h):=by
 obtain ⟨d,e,c⟩:=ywr X l;have st:ycp [.loc a.1] h=some (.str (stX x),h):=yfE (X.foc l).rest;unfold ybe;rw [yo];show ob (yO _ [.val (.loc g.H),.val (.int (as1.length:Nat))] h) fnK=_
 simpa [ycm,yD (m:="hand_at") c (by rfl'),d,yD (m:="state") e (by rfl'),st]
theorem yEc:yea [.loc g.H,.int (as1.length:Nat)] h=some (.int (x.nth:Nat),h):=by
 obtain ⟨q1,q2,q3⟩:=ywr X l;have f:=(ydq q2).2.2.1;unfold yea;rw [yo];show ob (yO _ [.val (.loc g.H),.val (.int (as1.length:Nat))] h) fnK=_
 simpa [ycm,yD (m:="hand_at") q3 (by rfl'),q1,f]
theorem yEd:yeb [.loc g.H,.int (as1.length:Nat)] h=some (.lst (x.s.hs.map .int),h):=by
 obtain ⟨q1,q2,q3⟩:=ywr X l;have k6:=(ydq q2).2.2.2.2.2;have R:=X.foc l;have r1:=(ycL R.run).1;unfold yeb;rw [yo];show ob (yO _ [.val (.loc g.H),.val (.int (as1.length:Nat))] h) fnK=_
 simpa [ycm,yD (m:="hand_at") q3 (by rfl'),q1,k6,r1,ygy R.held]
theorem yIy (hL:sortI (sK x.s.sn) (sA x.s.sn)=some L):yfD [.loc g.H,.int (as1.length:Nat)] h=some (.lst L,h):=by
 obtain ⟨q1,q2,q3⟩:=ywr X l;have k6:=(ydq q2).2.2.2.2.2;have R:=X.foc l;have r3:=(ycL R.run).2.2.1;have sw:=yxH R.lg.ob R.lg.sn hL;unfold yfD;rw [yo];show ob (yO _ [.val (.loc g.H),.val (.int (as1.length:Nat))] h) fnK=_
 simpa [ycm,yD (m:="hand_at") q3 (by rfl'),q1,k6,r3,yD (m:="saw") R.lg.ob (by rfl'),sw]
end
noncomputable def Z8:List Int:=[0,0,0,0,0,0,0,0]
abbrev Fr (h h':AH):Prop:=∀ m,At h m->At h' m
section
variable {h:AH}{w:Int}
def Rdb (d:Str×List Rw):Prop:=∀ h:AH,∃ h',yJ yew (yb (yJ ymv (yb (ye 0) yh)) yh) [.val (.str d.1)] h=some (.lst (d.2.map yV),h')/\Fr h h'
noncomputable def txV (d:Str×List Rw):PV:=.str d.1
def yua (d:Str×List Rw):PV:=.lst (d.2.map yV)
theorem At.seen (A:At h m):At ((h++[d]).set h.length d') m:=⟨A.1,fun p hp=>by have:=A.lt hp;rw [getElem?_set_ne (by omega),getElem?_append_left this];exact A.2 p hp⟩
theorem yoh {Y:Type}{E:XE}{inn:PV->PSt}{f g:Y->PV}:∀ (l:List Y),(∀ h a,a∈l->∃ h',E (inn (f a)) h=some (g a,h')/\Fr h h')->∀ h,∃ h',yls E inn (l.map f) h=some (l.map g,h')/\Fr h h'
 | [],_,h=>⟨h,rfl,fun _ A=>A⟩
 | a::l,d,h=>by obtain ⟨h1,e,k⟩:=d h a mem_cons_self;obtain ⟨h2,i,n⟩:=yoh l (fun h b j=>d h b (mem_cons_of_mem _ j)) h1;refine ⟨h2,?_,fun m A=>n m (k m A)⟩;show ob _ _=_;rw [e,ybo,i];rfl
theorem yws {ds:List _}(j:∀ d∈ds,Rdb d) (hl:ds.length<=100):∃ h',ycr [.lst (ds.map txV)] h=some (.lst (ds.map yua),h')/\Fr h h':=by obtain ⟨h',e,i⟩:=yoh (inn:=ygU [] _) (f:=txV) (g:=yua) ds (fun h a c=>j a c h) h;refine ⟨h',?_,i⟩;unfold ycr;rw [yo];show ob (yO _ [.val _] h) fnK=_;rw [yrO,yzk,yrR,ysO rfl,ybo,if_pos (by grind),e];rfl
def hsV (hs:List (List (Str×List Rw))):List PV:=hs.map fun ds=>.lst (ds.map txV)
theorem ywt (j:∀ p∈hs,p.length<=6/\∀ d∈p,Rdb d) (h1:1<=hs.length) (t:hs.length<=8):∃ h',ycs [.lst (hsV hs)] h=some (.lst (hs.map fun p=>.lst (p.map yua)),h')/\Fr h h':=by
 obtain ⟨h',e,k⟩:=yoh (inn:=ygU [] [.val (.lst (hsV hs))]) (g:=fun p=>.lst (p.map yua)) hs (fun h a i=>by
  obtain ⟨h',q,F⟩:=yws (h:=h) (j a i).2 (by grind);refine ⟨h',?_,F⟩;show yJ ycr (yb (ye 0) (yh)) [.val (.lst (a.map txV))] h=_
  simpa [q]) h
 have m:yls _ (ygU [] [.val (.lst (hsV hs))]) (hsV hs) h=some _:=ygi (f:=fun p:List _=>.lst _) (g:=fun _=>.bl false) fun a i=>by
  have c:((6:Int)<((a.map txV).length:Nat))=False:=eq_false (by have:=(j _ i).1;grind);show xOp (oGt) (xCB (ybW) (yb (ye 0) (yh))) (xC (.int 6)) [.val _] h=_
  simpa [c]
 have n:∀ h,yxq [.lst (hs.map fun _=>PV.bl false)] h=some _:=fun h=>by unfold yxq ybM;simp only [yoc _];rw [show (hs.map _).any id=false by simp]
 refine ⟨h',?_,k⟩;have s:(hsV hs).length=hs.length:=by unfold hsV;rw [length_map]
 have o:((1:Int)<=((hsV hs).length:Nat))=True:=eq_true (by omega);have c:((((hsV hs).length:Nat):Int)<=8)=True:=eq_true (by omega);have l:((hsV hs).length<=100000)=True:=eq_true (by omega);have r:∀ h,xIL (ye 0) [.val _] h=some (hsV hs,h):=fun _=>ysO rfl
 unfold ycs;rw [yo];show ob (ym _ _ [.val _] h) fnK=_;have e:yls _ _ (hsV hs) h=some _:=e
 simpa [o,c,l,r,m,n,e,↓reduceIte]
def hv (k:Nat) (ds:List PV) (w:Int):Nd:=.ins 14 ((["deeds","width","nth","sleeps","before"]:List Str).take k) (([.lst ds,.int w,.int 0,.bl false,.lst (Z8.map .int)]:List PV).take k)
theorem ytt (v:Due ds 0 rows):∃ h' c',ybT [.loc h.length,.lst ds,.int w] (h++[Nd.ins 14 [] []])=some (.non,h')/\∀ m,At h m->RR w rows ((h.length,ydK ds w 0 false Z8 c'.rn)::m) h' c' (S0 Z8):=by
 have N:∀ {k:AH}{d d':Nd},k[h.length]?=some d->(k.set h.length d')[h.length]?=some d':=fun e=>getElem?_set_self (List.getElem?_eq_some_iff.mp e).1
 have q:(h++[Nd.ins 14 [] []])[h.length]?=some (hv 0 ds w):=by simp [hv]
 generalize i:h++[Nd.ins 14 [] []]=k0 at *;have s1:∀ ρ,fL [14] "deeds" ρ (.lst ds) (.loc h.length) k0=some (.nx ρ,k0.set h.length (hv 1 ds w)):=fun ρ=>yfn q (by decide) (by kernel_rfl!)
 have n:=N (d':=hv 1 ds w) q;have s2:∀ ρ,fL [12,14] "width" ρ (.int w) (.loc h.length) (k0.set h.length (hv 1 ds w))=some (.nx ρ,(k0.set h.length (hv 1 ds w)).set h.length (hv 2 ds w)):=fun ρ=>yfn n (by decide) (by kernel_rfl!)
 have l:=N (d':=hv 2 ds w) n;rw [List.set_set] at s2 l;have s3:∀ ρ,fL [14] "nth" ρ (.int 0) (.loc h.length) (k0.set h.length (hv 2 ds w))=some (.nx ρ,(k0.set h.length (hv 2 ds w)).set h.length (hv 3 ds w)):=fun ρ=>yfn l (by decide) (by kernel_rfl!)
 have j:=N (d':=hv 3 ds w) l;rw [List.set_set] at s3 j;have s4:∀ ρ,fL [14] "sleeps" ρ (.bl false) (.loc h.length) (k0.set h.length (hv 3 ds w))=some (.nx ρ,(k0.set h.length (hv 3 ds w)).set h.length (hv 4 ds w)):=fun ρ=>yfn j (by decide) (by kernel_rfl!)
 have g:=N (d':=hv 4 ds w) j;rw [List.set_set] at s4 g;have s5:∀ ρ,fL [14] "before" ρ (.lst (Z8.map .int)) (.loc h.length) (k0.set h.length (hv 4 ds w))=some (.nx ρ,(k0.set h.length (hv 4 ds w)).set h.length (hv 5 ds w)):=fun ρ=>yfn g (by decide) (by kernel_rfl!)
 have f:=N (d':=hv 5 ds w) g;rw [List.set_set] at s5 f;obtain ⟨h',c',t,r⟩:=yhg (rows:=rows) (nth:=0) (bf:=Z8) (w:=w) (ds:=ds) (fl 0 f (by decide) (by rfl') rfl) (fl 1 f (by decide) (by rfl') rfl) (fl 2 f (by decide) (by rfl') rfl) (fl 4 f (by decide) (by rfl') rfl) v;have R:∀ m,At h m->RR w rows ((h.length,hv 5 ds w)::m) h' c' (S0 Z8):=fun m A=>r _ (by have o:=At.new (Nd.ins 14 [] []) (a:=[]) A;rw [i] at o;exact At.upd (a:=[]) (hv 5 ds w) o)
 have u:At h []:=⟨List.nodup_nil,fun p hp=>by simp at hp⟩
 have s:h'[h.length]?=some (hv 5 ds w):=(R [] u).rest.get 0 rfl;have s6:∀ ρ,fL [14] "run" ρ (.loc c'.rn) (.loc h.length) h'=some (.nx ρ,h'.set h.length (ydK ds w 0 false Z8 c'.rn)):=fun ρ=>yfn s (by decide) (by kernel_rfl!)
 refine ⟨_,c',?_,fun m A=>RR.urest (a:=[]) _ (R m A)⟩;have l0:∀ k,ybc [.lst ds] k=some (.lst ds,k):=fun _=>rfl
 unfold ybT;rw [yo];show ob (ym _ _ [.val (.loc h.length),.val (.lst ds),.val (.int w)] k0) fnK=_
 simpa [yqz,l0,s1,s2,s3,s4]
 rw [if_pos (by decide),show PV.lst (repL ((8:Nat):Int).toNat [PV.int 0])=.lst (Z8.map .int) from rfl]
 simpa [yqz,s5,ycm,yD (m:="new_run") f (by rfl'),t,s6]
end
section
variable {h:AH}{w:Int}
theorem yiD:∀ {b:List _}{xs:List HD}{m:List _},CR w b xs m=CR w b xs []++m
 | [],_,_=>rfl
 | _::_,[],_=>rfl
 | a::b,x::xs,m=>by show HN w a x _=HN w a x _++m;rw [yht,yht (m:=CR w b xs []),yiD,append_assoc]
end
section
variable {h:AH}
theorem yEe (b:0<=i/\i<B64):ydc [.int i] h=some (.bl true,h):=by
 have e:yet [.int i] h=some (.bl true,h):=rfl;have c:=eq_true b.1;have d:=eq_true b.2;unfold ydc;rw [yo];show ob (yO _ [.val _] h) fnK=_
 simpa [e,c,d]
theorem ytu:∀ bx:List Int,(∀ i∈bx,0<=i/\i<B64)->yls (yJ ydc (yb (ye 0) yh)) (ygU [] ρ) (bx.map .int) h=some (replicate bx.length (.bl true),h)
 | [],_=>rfl
 | i::bx,b=>by show ob (ydc _ h) _=_;rw [yEe (b i mem_cons_self),ybo];rw [ytu bx fun j c=>b j (mem_cons_of_mem _ c)];rfl
theorem ytv:∀ n,ygv (replicate n (PV.bl true))=some (replicate n true)
 | 0=>rfl
 | n+1=>by
  rw [List.replicate_succ];unfold ygv;simp only [ytv n]
  try rfl
theorem ywu {bx:List Int}(h1:1<=bx.length) (b:bx.length<=16) (d:∀ i∈bx,0<=i/\i<B64):ydD [.lst (bx.map .int)] h=some (.non,h):=by
 have c:=ytu (h:=h) (ρ:=[.val (.lst (bx.map .int))]) bx d;have e:ytW [.lst (replicate bx.length (PV.bl true))] h=some (.bl true,h):=by unfold ytW ybM;simp only [ytv];simp_all
 have k:xIL (ye 0) [.val (.lst (bx.map .int))] h=some _:=rfl;have j:((bx.map PV.int).length:Int)=bx.length:=by rw [length_map]
 have l:((1:Int)<=bx.length)=True:=eq_true (by omega);have g:((bx.length:Int)<=16)=True:=eq_true (by omega);have f:((bx.map PV.int).length<=100000)=True:=eq_true (by omega);unfold ydD;rw [yo];show ob (ym _ _ [.val _] h) fnK=_
 simpa [j,l,g,f,k,c,e]
end
noncomputable def av (k nu ma cr en:Nat):Nd:=.ins 15 ((["numbers","marks","crew","entries"]:List Str).take k) (([.loc nu,.loc ma,.loc cr,.loc en]:List PV).take k)
def hd0 (ds:List (Str×List Rw)):HD:=⟨ds.map yua,0,false,Z8,match ds with|[]=>[]|d::_=>d.2.map yV,S0 Z8⟩
theorem yHQ:∀ ds,Due (hd0 ds).ds 0 (hd0 ds).rows
 | []=>.inr ⟨rfl,rfl⟩
 | d::r=>.inl ⟨by simp [hd0],rfl⟩
section
variable {h:AH}{w:Int}
theorem yIz n:repL ((n:Nat):Int).toNat [PV.int 0]=(replicate n 0).map .int:=by show (replicate n _).flatten=_;simp_all
theorem ytw {bx:List Int}(c:∀ x,ygU [1] ρ x=[.val x,.val (.lst (bx.map .int))]):∀ (hs:List _) h,∃ h' b,yls (yij 14 ybT (yb (ye 0) (yb (xCB ybW (yb (ye 1) yh)) yh))) (ygU [1] ρ) (hs.map fun ds=>.lst (ds.map yua)) h=some ((b.map (·.1)).map .loc,h')/\LyOk b (hs.map hd0)/\∀ m,At h m->At h' (CR bx.length b (hs.map hd0) m)
 | [],h=>⟨h,[],rfl,trivial,fun _ A=>A⟩
 | ds::hs,h=>by
  obtain ⟨h1,d,e,i⟩:=ytt (w:=bx.length) (yHQ ds);obtain ⟨h',b,l,k,o⟩:=ytw c hs h1;have lw:((bx.map PV.int).length:Nat)=bx.length:=by rw [length_map]
  have n:At h []:=⟨List.nodup_nil,fun p hp=>by simp at hp⟩
  refine ⟨h',(h.length,d)::b,?_,⟨(i [] n).len,k⟩,fun m A=>?_⟩
  .show ob _ _=_;rw [c,ysl];have e:ybT [.loc h.length,.lst (ds.map yua),.int bx.length] _=some _:=e
   simpa [lw,e,l]
   rfl
  .have R:=i m A;have j:At h1 (HN bx.length (h.length,d) (hd0 ds) m):=by have f:=R.at_;rw [yiA] at f;show At h1 ((h.length,ydK _ bx.length 0 false Z8 d.rn)::RM _ _ _ _ _);rw [yiA];exact f.perm List.perm_middle.symm
   have g:=o _ j;rw [yiD,yht] at g;show At h' (HN bx.length _ _ _);rw [yht,yiD];exact g.perm (List.perm_append_comm_assoc _ _ _)
theorem ymG {bx:List Int}(h1:1<=bx.length) (t:bx.length<=16) (G:∀ i∈bx,0<=i/\i<B64) (R:∀ p∈hs,p.length<=6/\∀ d∈p,Rdb d) (q:1<=hs.length) (n:hs.length<=8) :
  ∃ h' g c,yct [.loc h.length,.lst (bx.map .int),.lst (hsV hs)] (h++[Nd.ins 15 [] []])=some (.non,h')/\g.H=h.length/\∀ m,At h m->HH h' g bx.length bx (replicate bx.length 0) [] c (hs.map hd0) m:=by
 have j:At h []:=⟨List.nodup_nil,fun p hp=>by simp at hp⟩
 have P:∀ m,At h m->At (h++[Nd.ins 15 [] []]) ((h.length,.ins 15 [] [])::m):=fun m A=>At.new _ (a:=[]) A
 have F:=ywu (h:=h++[Nd.ins 15 [] []]) h1 t G;generalize h++[Nd.ins 15 [] []]=k0 at *;have z:∀ m,At h m->At (k0++[Nd.lst (bx.map .int)]) ((h.length,.ins 15 [] [])::(k0.length,.lst (bx.map .int))::m):=fun m A=>At.new _ (a:=[_]) (P m A)
 have s1:∀ ρ,fL [15] "numbers" ρ (.loc k0.length) (.loc h.length) (k0++[Nd.lst (bx.map .int)])=some (.nx ρ,(k0++[Nd.lst (bx.map .int)]).set h.length (av 1 k0.length 0 0 0)):=fun ρ=>yfn ((z [] j).get 0 rfl) (by decide) (by kernel_rfl!)
 have K:=fun m A=>At.upd (a:=[]) (av 1 k0.length 0 0 0) (z m A)
 generalize s:k0.length=nu at *;generalize (k0++[Nd.lst (bx.map .int)]).set h.length (av 1 nu 0 0 0)=k1 at *;have v:∀ m,At h m->At (k1++[Nd.lst ((replicate bx.length (0:Int)).map .int)]) ((h.length,av 1 nu 0 0 0)::(nu,.lst (bx.map .int))::(k1.length,.lst ((replicate bx.length (0:Int)).map .int))::m):=fun m A=>At.new _ (a:=[_,_]) (K m A)
 have s2:∀ ρ,fL [15] "marks" ρ (.loc k1.length) (.loc h.length) (k1++[Nd.lst ((replicate bx.length (0:Int)).map .int)])=some (.nx ρ,(k1++[Nd.lst ((replicate bx.length (0:Int)).map .int)]).set h.length (av 2 nu k1.length 0 0)):=fun ρ=>yfn ((v [] j).get 0 rfl) (by decide) (by kernel_rfl!)
 have x:=fun m A=>At.upd (a:=[]) (av 2 nu k1.length 0 0) (v m A)
 generalize r:k1.length=ma at *;generalize (k1++[Nd.lst ((replicate bx.length (0:Int)).map .int)]).set h.length (av 2 nu ma 0 0)=k2 at *;have S:Fr h k2:=fun m A=>(x m A).sub (((List.Sublist.refl m).cons _).cons _ |>.cons _)
 obtain ⟨k3,M,L⟩:=ywt (h:=k2) R q n;obtain ⟨e,c,E,D,H⟩:=ytw (bx:=bx) (ρ:=[.val (.loc h.length),.val (.lst (bx.map .int)),.val (.lst (hsV hs))]) (fun _=>rfl) hs k3;have J:=fun m A=>H _ (L _ (x m A))
 have o:∀ m,At h m->At e ((h.length,av 2 nu ma 0 0)::(nu,.lst (bx.map .int))::(ma,.lst ((replicate bx.length (0:Int)).map .int))::CR bx.length c (hs.map hd0) m):=fun m A=>by have:=J m A;rw [yiD] at this;rw [yiD];exact this.perm (show ([_,_,_]++(CR bx.length c (hs.map hd0) []++m)).Perm (CR bx.length c (hs.map hd0) []++([_,_,_]++m)) from List.perm_append_comm_assoc _ _ _)
 have B:=fun m A=>At.new (Nd.lst ((c.map (·.1)).map .loc)) (a:=[_,_,_]) (o m A)
 have s3:∀ ρ,fL [15] "crew" ρ (.loc e.length) (.loc h.length) (e++[Nd.lst ((c.map (·.1)).map .loc)])=some (.nx ρ,(e++[Nd.lst ((c.map (·.1)).map .loc)]).set h.length (av 3 nu ma e.length 0)):=fun ρ=>yfn ((B [] j).get 0 rfl) (by decide) (by kernel_rfl!)
 have O:=fun m A=>At.upd (a:=[]) (av 3 nu ma e.length 0) (B m A)
 generalize u:e.length=l at *;generalize (e++[Nd.lst ((c.map (·.1)).map .loc)]).set h.length (av 3 nu ma l 0)=f at *;have y:=fun m A=>At.new (Nd.lst []) (a:=[_,_,_,_]) (O m A)
 have s4:∀ ρ,fL [15] "entries" ρ (.loc f.length) (.loc h.length) (f++[Nd.lst []])=some (.nx ρ,(f++[Nd.lst []]).set h.length (av 4 nu ma l f.length)):=fun ρ=>yfn ((y [] j).get 0 rfl) (by decide) (by kernel_rfl!)
 have I:=fun m A=>At.upd (a:=[]) (av 4 nu ma l f.length) (y m A)
 refine ⟨_,⟨h.length,nu,ma,l,f.length⟩,c,?_,rfl,fun m A=>⟨I m A,D⟩⟩;have l0:∀ k,ybc [.lst (bx.map .int)] k=some (.lst (bx.map .int),k):=fun _=>rfl
 have lw:(((bx.map PV.int).length:Nat):Int)=bx.length:=by rw [length_map]
 unfold yct;rw [yo];show ob (ym _ _ [.val (.loc h.length),.val (.lst (bx.map .int)),.val (.lst (hsV hs))] k0) fnK=_
 simpa [yqz,F,l0,s,s1,lw]
 rw [if_pos (by omega),yIz];have C:xIL (yJ ycs (yb (ye 2) (yh))) [.val (.loc h.length),.val (.lst (bx.map .int)),.val (.lst (hsV hs))] k2=some (hs.map fun p=>.lst (p.map yua),k3):=by
  unfold xIL
  simpa [M]
 have N:((hs.map fun p=>PV.lst (p.map yua)).length<=100000)=True:=eq_true (by rw [length_map];omega)
 simpa [yqz,r,s2,C,N,E,u,s3,s4]
end
section
variable {h:AH}
abbrev Pc:=Q×(Int->List Rw)
def lrB (n:Nat):XS:=ynP 2 (yJ (ydJ n) (yb (ye 3) (yb (xOp yeP (ye 1) (ypY 2)) yh)))
structure yxJ (d:Nat) (ar:Int) (p:Pc):Prop where
 rd:∀ n,PQ (n+d) ar p.1
 lg:∀ n (h:AH),ynI "long" (yiu (n+d)) (ye 0) [.val p.1.1] h=some (.int ((p.2 0).length:Nat),h)
 rw:∀ n (f:Int) (h:AH),ydJ (n+d) [p.1.1,.int f] h=some (.lst ((p.2 f).map yV),h)
 fs:frs p.1.2
 ln:∀ f,(p.2 f).length=(p.2 0).length
noncomputable def AllOk (d:Nat) (ar:Int) (l:List Pc):Prop:=∀ p∈l,yxJ d ar p
noncomputable def cat:List Pc->Int->List Rw
 | [],_=>[]
 | p::l,f=>p.2 f++cat l (f+((p.2 f).length:Nat))
noncomputable def lgs (l:List Pc):Int:=(l.map fun p=>((p.2 0).length:Int)).sum
section
variable {d:Nat}{ar:Int}{p:Pc}{l:List Pc}
theorem AllOk.c (a:yxJ d ar p) (b:AllOk d ar l):AllOk d ar (p::l):=List.forall_mem_cons.2 ⟨a,b⟩
theorem AllOk.n:AllOk d ar []:=fun _ h=>by cases h
theorem AllOk.a (a:AllOk d ar l) (b:AllOk d ar m):AllOk d ar (l++m):=fun p hp=>(List.mem_append.mp hp).elim (a p) (b p)
theorem yfq:∀ {l:List Pc}{f:Int},AllOk d ar l->(cat l f).length=lgs l
 | [],_,_=>rfl
 | p::l,f,H=>by
  have:=yfq (f:=f+(p.2 f).length) fun p h=>H p (mem_cons_of_mem _ h)
  have e:=(H p mem_cons_self).ln f;unfold cat;rw [length_append,Int.natCast_add,this,e];rfl
theorem yEf:∀ l,0<=lgs l
 | []=>Int.le_refl _
 | p::l=>Int.add_nonneg (Int.natCast_nonneg _) (yEf l)
theorem yGK:lgs (l++m)=lgs l+lgs m:=by unfold lgs;simp_all
end
theorem yEg (c:ρ[i]?=some (.own (.lst xs))) (b:e ρ h=some (.lst ys,h1)) (hl:xs.length+ys.length<=100000):ynP i e ρ h=some (.nx (ρ.set i (.own (.lst (xs++ys)))),h1):=by unfold ynP;rw [c];show ob _ _=_;rw [b,ybo];simp_all
section
variable {d n:Nat}{ar:Int}
theorem ytx:∀ l R v,AllOk d ar l->R.length+lgs l<=1000 ->
  ∃ b,ygc (yv 3) (lrB (n+d)) (l.map fun p=>p.1.1) [.val X,.val (.int F),.own (.lst (R.map yV)),v] h=some (.nx [.val X,.val (.int F),.own (.lst ((R++cat l (F+R.length)).map yV)),b],h)
 | [],R,v,_,_=>⟨v,by show some _=_;unfold cat;rw [append_nil]⟩
 | p::l,R,v,hp,hl=>by
  have P:=hp p mem_cons_self;have g:=P.rw n (F+R.length) h;have i:=P.ln (F+R.length);have l0:=yEf l;have hl:R.length+((p.2 0).length+lgs l)<=1000:=hl;obtain ⟨b,e⟩:=ytx l (R++p.2 _) _ (fun p c=>hp p (mem_cons_of_mem _ c)) (by rw [length_append,Int.natCast_add,i];omega);refine ⟨b,?_⟩;have f:lrB (n+d) [.val X,.val (.int F),.own (.lst (R.map yV)),.val p.1.1] h=some (.nx [.val X,.val (.int F),.own (.lst ((R++p.2 (F+R.length)).map yV)),.val p.1.1],h):=by
   refine (yEg (ys:=(p.2 (F+R.length)).map yV) (h1:=h) rfl ?_ (by grind)).trans (by simp_all);have:ypY 2 [.val X,.val (.int F),.own (.lst (R.map yV)),.val (p.1.1)] h=some _:=rfl;rw [length_map] at this
   simpa [this,g]
  show ygc _ _ (p.1.1::l.map _) _ h=_;rw [ymE rfl f,e,show cat (p::l) _=p.2 _++cat l _ from rfl];rw [append_assoc,length_append,Int.natCast_add,Int.add_assoc]
theorem yfr (hp:AllOk d ar l) (hl:lgs l<=999):ycq (n+d+1) [.lst (l.map fun p=>p.1.1),.int F] h=some (.lst ((cat l F).map yV),h):=by
 obtain ⟨f,e⟩:=ytx (n:=n) l [] .no hp (by show (0:Int)+_<=_;omega);rw [show F+([].length:Nat)=F from Int.add_zero F] at e;have c:xIL (ye 0) [.val _,.val (.int F),.own (.lst []),.no] h=some (l.map fun p=>p.1.1,h):=ysO rfl;have b:ygc _ _ _ [.val (.lst (l.map fun p=>p.1.1)),.val _,.own (.lst []),.no] h=some (.nx [.val _,.val _,.own (.lst ((cat l F).map yV)),f],h):=e;unfold ycq;rw [yo];show ob (ym _ (ym (yiV _ _ (lrB _)) _) [.val _,.val _,.no,.no] h) fnK=_
 simpa [c,b]
theorem yei (H:AllOk d ar l) (hl:l.length<=100):yU (n+d+1) [.lst (l.map fun p=>p.1.1)] h=some (.int (lgs l),h):=by unfold yU;rw [yo];symm;rw [ysO rfl,ybo];rw [if_pos (by grind)];rw [ygi (f:=fun p=>p.1.1) (g:=fun p=>.int _) fun p hp=>(H p hp).lg n h];symm;rw [show (l.map _)=(l.map _).map PV.int by rw [map_map];rfl];unfold yEP ybM;simp only [yju];rfl
theorem yqp (hp:AllOk d ar l) (hd:d<=44) (hl:lgs l<=999):yew [.lst (l.map fun p=>p.1.1)] h=some (.lst ((cat l 0++[Rw.lay]).map yV),h):=by
 have b:=by have:=yfr (h:=h) (n:=44-d) (F:=0) hp hl;rwa [show 44-d+d+1=45 by omega] at this
 have:=yfq (f:=0) hp;unfold yew;rw [yo];show ob (yO _ [.val _] h) fnK=_
 simpa [b]
 rw [if_pos (by grind),map_append];rfl
end
theorem yEh:∀ {B:Nat} l,(∀ q∈l,frs q.2/\q.2.length<=B/\q.2≠[])->frs (wr l)/\(wr l).length<=(B+1)*l.length/\∀ q:Q,q.2≠[]->Str.join " ; " ((q::l).map fun q=>Str.join " " q.2)=Str.join " " (q.2++wr l)
 | _,[],_=>⟨(fun _ h=>by cases h),Nat.le_refl _,fun q _=>by show _=Str.join " " (q.2++[]);rw [append_nil];rfl⟩
 | B,u::l,H=>by
  obtain ⟨h1,h2,c⟩:=H u mem_cons_self;obtain ⟨e,g,d⟩:=yEh l fun q h=>H q (mem_cons_of_mem _ h)
  refine ⟨List.forall_mem_cons.2 ⟨yja _ (by rfl'),yfm h1 e⟩,?_,fun q f=>?_⟩
  .show (u.2++wr l).length+1<=(B+1)*(l.length+1);grind
  .show Str.join " " q.2++" ; "++Str.join " ; " _=Str.join " " (q.2++(";":Str)::(u.2++wr l));rw [d u c,yhN f (fun z=>by cases z),ysN fun z=>c (List.append_eq_nil_iff.mp z).1,yDC];simp only [ymw]
theorem yoi (f:frs W) (c:W≠[]) (hl:W.length<=3000):yfC [.str (Str.join " " W)] h=some (.lst (W.map .str),h):=by
 have e:=ykF " " (by rfl') W f;unfold yfC;rw [yo];show ob (ym _ _ [.val _] h) fnK=_
 simpa [yAm f c,yzL (show (Str.join " " W).length<=100000 by omega),yii _ c fun w d=>(f w d).1,↓reduceIte]
theorem yEi (H:AllOk d 0 (p::l)) (hd:d<=44) (es:s=Str.join " ; " ((p::l).map fun p=>Str.join " " p.1.2)) (x:∀ q∈p::l,q.1.2.length<=99) (hl:l.length<=28) (F:lgs (p::l)<=79):Rdb (s,cat (p::l) 0++[Rw.lay])/\s.length<=69000:=by
 have A:∀ q∈(p::l).map (·.1),PQ 44 0 q/\frs q.2/\q.2.length<=99/\q.2≠[]:=fun q f=>by obtain ⟨p,hp,rfl⟩:=List.mem_map.mp f;have R:=(H p hp).rd (44-d);rw [show 44-d+d=44 by omega] at R;obtain ⟨P,w,tl,e,n⟩:=R;exact ⟨⟨P,w,tl,e,n⟩,(H p hp).fs,x p hp,by rw [e];exact fun z=>by cases z⟩
 obtain ⟨a1,a2,a3,a4⟩:=A p.1 mem_cons_self;obtain ⟨B,v,E⟩:=yEh (l.map (·.1)) fun q f=>(A q (mem_cons_of_mem _ f)).2
 have c:s=Str.join " " (wl ((p::l).map (·.1))):=by rw [es];refine .trans ?_ (E p.1 a4);rw [map_cons,map_cons,map_map];rfl
 have j:frs (wl ((p::l).map (·.1))):=yfm a2 B;have u:wl ((p::l).map (·.1))≠[]:=fun z=>a4 (List.append_eq_nil_iff.mp z).1
 have D:(wl ((p::l).map (·.1))).length<=3000:=by show (p.1.2++wr (l.map (·.1))).length<=3000;rw [length_append];rw [length_map] at v;omega
 refine ⟨fun h=>?_,by have:=ykF " " (by rfl') _ j;rw [c];omega⟩;have I:(p::l).length<=79:=by rw [length_cons];omega
 have k:∀ h,yew [.lst ((p::l).map (·.1.1))] h=some _:=fun h=>yqp H hd (by omega)
 obtain ⟨d,d',C⟩:∃ d d',ymv [.str s] h=some (.lst ((p::l).map (·.1.1)),(h++[d]).set h.length d'):=by
  refine ⟨rdr (wl ((p::l).map (·.1))) 0,rdr (wl ((p::l).map (·.1))) (0+(wl ((p::l).map (·.1))).length),?_⟩;rw [c];clear c es k;have t:=fun h=>by have:=yei (h:=h) (n:=44-d) H (by omega);rwa [show 44-d+d+1=45 by omega] at this
  generalize o:(p::l).map (·.1)=b at *;have hv:b.map (·.1)=(p::l).map (·.1.1):=by rw [<- o,map_map];rfl
  have i:b.length<=90:=by rw [<- o,length_map];omega
  unfold ymv;rw [yo];show ob (ym _ _ [.val (.str (Str.join " " (wl b))),.no,.no] h) fnK=_;have y:h.length<(h++[rdr (wl b) 0]).length:=by simp
  have c:h++[rdr (wl b) 0]=hR (h++[rdr (wl b) 0]) h.length (wl b) 0:=by unfold hR;simp
  simpa [yoi j u D,show ydd [PV.lst (List.map PV.str (wl b))] h=some (rdr (wl b) 0,h) from rfl]
  generalize J:h++[rdr (wl b) 0]=G at *;conv=>lhs;rw [c]
  have r:h.length<G.length/\(wl b).length<=100000:=⟨y,by omega⟩
  simpa [ycm,list_eq (rest:=[]) r (.inl rfl) (fun q f=>(A q f).1) i (show (wl b).drop 0=wl b++[] by simp),hv,yeL r (show (wl b).drop (0+(wl b).length)=[] by simp),hdV,t]
  rw [if_neg (by intro z;cases z),if_neg (by omega)];rfl
 refine ⟨(h++[d]).set h.length d',?_,fun m A=>At.seen A⟩;dsimp only;clear es c
 simpa [C,k]
end
noncomputable def vR:Rw->PV
 | .let_ r n=>.ins 1 ["slot","number"] [.str r,.int n]
 | .reckon w a b c=>.ins 2 ["word","slot","one","other"] [.str w,.str a,.str b,.str c]
 | .take r s=>.ins 3 ["slot","place"] [.str r,.str s]
 | .put r s=>.ins 4 ["place","slot"] [.str r,.str s]
 | .throw r s=>.ins 8 ["name","slot"] [.str r,.str s]
 | _=>.ins 9 [] []
def wR:Rw->List Str
 | .let_ r n=>["let",r,(tI n)]
 | .reckon w a b c=>[w,a,b,c]
 | .take r s=>["take",r,s]
 | .put r s=>["put",r,s]
 | .throw r s=>["throw",r,s]
 | _=>["wait"]
abbrev qR (r:Rw):Q:=(vR r,wR r)
def pl (r:Rw):Pc:=(qR r,fun _=>[r])
def sd (l:List Q):List Str:=("(":Str)::(wl l++[(")":Str)])
def iQ (s:Str) (a b:List Q):Q:=(.ins 5 ["slot","parts","others"] [.str s,.lst (a.map (·.1)),.lst (b.map (·.1))],("if":Str)::s::(sd a++("else":Str)::sd b))
def eQ (a b:List Q):Q:=(.ins 6 ["parts","others"] [.lst (a.map (·.1)),.lst (b.map (·.1))],("either":Str)::(sd a++("or":Str)::sd b))
def tQ (nm s:Str) (a b:List Q):Q:=(.ins 7 ["parts","name","slot","others"] [.lst (a.map (·.1)),.str nm,.str s,.lst (b.map (·.1))],("try":Str)::(sd a++("on":Str)::nm::s::sd b))
def sl (r:Str):Prop:=yeh r/\fr r
def gdR:Rw->Prop
 | .let_ r n=>sl r/\0<=n/\n<B64
 | .reckon w a b c=>w∈W5/\sl a/\sl b/\sl c
 | .take r s|.put r s=>sl r/\sl s
 | .throw r s=>(yiw r/\fr r)/\sl s
 | .wait=>True
 | _=>False
theorem slE:sl "e":=⟨fun _=>rfl,yja _ (rfl)⟩
theorem slF:sl "f":=⟨fun _=>rfl,yja _ (rfl)⟩
theorem slG:sl "g":=⟨fun _=>by kernel_rfl!,yja _ (by rfl')⟩
def PF (n:Nat) (ar:Int) (q:Q):Prop:=PQ n ar q/\frs q.2
def LF (n:Nat) (ar:Int) (l:List Q):Prop:=(∀ q∈l,PF n ar q)/\l.length<=90
section
variable {n:Nat}{ar:Int}{r:Rw}{a b l:List Q}{q:Q}{s nm:Str}
theorem ycU {l:List Str}(h:fr w) (k:frs l):frs (w::l):=List.forall_mem_cons.2 ⟨h,k⟩
theorem ykS:frs []:=fun _ h=>by cases h
theorem yHR (g:gdR r) (f:ar<=8):PF (n+1) ar (qR r):=by
 cases r with
 | let_ r n=>exact ⟨⟨yjH (rfl) f (yGB g.1.1 g.2),_,_,rfl,eq_false (by rfl')⟩,ycU (yja _ (rfl)) (ycU g.1.2 (ycU (yxB g.2.1 g.2.2) ykS))⟩
 | take r s=>exact ⟨⟨yjH (rfl) f (yxF g.1.1 g.2.1).1,_,_,rfl,eq_false (by rfl')⟩,ycU (yja _ (rfl)) (ycU g.1.2 (ycU g.2.2 ykS))⟩
 | put r s=>exact ⟨⟨yjH (rfl) f (yxF g.1.1 g.2.1).2,_,_,rfl,eq_false (by rfl')⟩,ycU (yja _ (rfl)) (ycU g.1.2 (ycU g.2.2 ykS))⟩
 | throw r s=>exact ⟨⟨yjH (rfl) f (yAr g.1.1 g.2.1),_,_,rfl,eq_false (by rfl')⟩,ycU (yja _ (rfl)) (ycU g.1.2 (ycU g.2.2 ykS))⟩
 | wait=>exact ⟨⟨yjH (rfl) f yDE,_,_,rfl,eq_false (by rfl')⟩,ycU (yja _ (rfl)) ykS⟩
 | reckon w a b c=>refine ⟨⟨yjH ?_ f (ywa g.1 g.2.1.1 g.2.2.1.1 g.2.2.2.1),_,_,rfl,eq_false ?_⟩,ycU ?_ (ycU g.2.1.2 (ycU g.2.2.1.2 (ycU g.2.2.2.2 ykS)))⟩<;>rcases yxD g.1 with rfl|rfl|rfl|rfl|rfl<;>first|exact yja _ (rfl)|rfl'
 | _=>exact g.elim
theorem LF.f (k:LF n ar l):frs (sd l):=by
 have e:∀ l,(∀ q∈l,PF n ar q)->frs (wr l):=fun l=>by
  induction l with
  | nil=>exact fun _=>ykS
  | cons q l ih=>exact fun h=>ycU (yja _ (by rfl')) (yfm (h q mem_cons_self).2 (ih fun q f=>h q (mem_cons_of_mem _ f)))
 refine ycU (yja _ (rfl)) (yfm ?_ (ycU (yja _ (rfl)) ykS));cases l with
 | nil=>exact ykS
 | cons q l=>exact yfm (k.1 q mem_cons_self).2 (e l fun q f=>k.1 q (mem_cons_of_mem _ f))
theorem LF.t (k:LF n ar l):Tk "side_taken" (yr (n+2)) [.int ar] (.lst (l.map (·.1))) (sd l):=yDF (fun q d=>(k.1 q d).1) k.2
theorem yIA (e:ar<=8) (A:LF n (ar+1) a) (B:LF n (ar+1) b):PF (n+4) ar (eQ a b):=⟨⟨(ysT e).1 (ywb A.t B.t),_,_,rfl,eq_false (by rfl')⟩,ycU (yja _ (rfl)) (yfm A.f (ycU (yja _ (rfl)) B.f))⟩
theorem yIB (e:ar<=8) (g:sl s) (A:LF n (ar+1) a) (B:LF n (ar+1) b):PF (n+4) ar (iQ s a b):=⟨⟨ywc e (yIw g.1 A.t B.t),_,_,rfl,eq_false (by rfl')⟩,ycU (yja _ (rfl)) (ycU g.2 (yfm A.f (ycU (yja _ (rfl)) B.f)))⟩
theorem yIC (f:ar<=8) (e:yiw nm/\fr nm) (g:sl s) (A:LF n (ar+1) a) (B:LF n (ar+1) b):PF (n+4) ar (tQ nm s a b):=⟨⟨(ysT f).2 (yGC e.1 g.1 A.t B.t),_,_,rfl,eq_false (by rfl')⟩,ycU (yja _ (rfl)) (yfm A.f (ycU (yja _ (rfl)) (ycU e.2 (ycU g.2 B.f))))⟩
theorem yfL (g:gdR r) (f:ar<=8):yxJ (d+1) ar (pl r):=by
 refine ⟨fun n=>(yHR g f).1,?_,?_,(yHR (n:=0) g f).2,fun _=>rfl⟩
 .intro n;show ∀ h,ynI _ _ _ [.val (vR r)] h=some (.int 1,h);cases r<;>first|exact g.elim|exact fun _=>by kernel_rfl!
 .intro n;cases r with
  | reckon w a b c=>rcases yxD g.1 with rfl|rfl|rfl|rfl|rfl<;>exact fun _ _=>by kernel_rfl!
  | _=>first|exact g.elim|exact fun _ _=>by kernel_rfl!
end
noncomputable def qs (l:List Pc):List Q:=l.map (·.1)
def ifP (s:Str) (A B:List Pc):Pc:=(iQ s (qs A) (qs B),fun f=>.unl s (f+2+lgs A)::(cat A (f+1)++.jump (f+2+lgs A+lgs B)::cat B (f+2+lgs A)))
def eiP (A B:List Pc):Pc:=(eQ (qs A) (qs B),fun f=>.either (f+3+lgs A)::(cat A (f+1)++.settle::.jump (f+3+lgs A+lgs B)::cat B (f+3+lgs A)))
def trP (nm s:Str) (A B:List Pc):Pc:=(tQ nm s (qs A) (qs B),fun f=>.guard nm s (f+3+lgs A)::(cat A (f+1)++.settle::.jump (f+3+lgs A+lgs B)::cat B (f+3+lgs A)))
section
variable {d:Nat}{ar:Int}{A B:List Pc}{h:AH}
theorem AllOk.lf (H:AllOk d ar A) (hl:A.length<=90) n:LF (n+d) ar (qs A):=⟨fun q b=>by obtain ⟨p,hp,rfl⟩:=List.mem_map.mp b;exact ⟨(H p hp).rd n,(H p hp).fs⟩,by unfold qs;simp_all⟩
theorem yID:(qs A).map (·.1)=A.map fun p=>p.1.1:=by unfold qs;rw [map_map];rfl
theorem ywv {v:PV}{n:Nat}{b:Int}{hd:Int->Rw}{bt:Int->List Rw}(g:AllOk d (ar+1) A) (e:AllOk d (ar+1) B) (hd0:d<=30) (z:A.length<=90/\lgs A<=90) (lb:B.length<=90/\lgs B<=90)
  (q:∀ h,yvf "long" (yiu 45) v h=some (.int (b+lgs A+lgs B),h))
  (j:∀ h,yeZ [5,6,7] "others" v h=some (.lst (B.map fun p=>p.1.1),h)) (m:∀ h,yeZ [5,6,7] "parts" v h=some (.lst (A.map fun p=>p.1.1),h))
  (r:∀ (k:Int) h,yeK [v,.int k] h=some (yV (hd k),h)) (i:∀ (k:Int) h,ydj [v,.int k] h=some (.lst ((bt k).map yV),h)) (w:∀ k,(bt k).length<=2) {f:Int} :
  ydZ (n+d+2) [v,.int f] h=some (.lst ((hd (f+b+lgs A)::(cat A (f+1)++(bt (f+b+lgs A+lgs B)++cat B (f+b+lgs A)))).map yV),h):=by
 have hl:=fun h=>by have:=yei (h:=h) (n:=44-d) e (by omega);rwa [show 44-d+d+1=45 by omega] at this
 have u:∀ h,ycq (n+d+1) _ h=some (.lst ((cat A (f+1)).map yV),h):=fun h=>yfr g (by omega)
 have r2:∀ h,ycq (n+d+1) _ h=some (.lst ((cat B (f+b+lgs A)).map yV),h):=fun h=>yfr e (by omega)
 have x:=yfq (f:=f+1) g;have y:=yfq (f:=f+b+lgs A) e;unfold ydZ;rw [yo];show ob (ym _ _ [.val v,.val (.int f),.no,.no,.no,.no] h) fnK=_;have s:f+b+lgs A+lgs B-lgs B=f+b+lgs A:=by omega
 have t:f+(b+lgs A+lgs B)=f+b+lgs A+lgs B:=by omega
 have k1:∀ {a b:List PV}{h:AH},a.length+b.length<=1000->yrG (.lst a) (.lst b) h=some (.lst (a++b),h):=fun l=>by rw [yzr,if_pos (by omega)]
 have k2:∀ h,yrG (.lst [yV (hd (f+b+lgs A))]) _ h=some (.lst ((hd (f+b+lgs A)::cat A (f+1)).map yV),h):=fun h=>k1 (by grind)
 have k3:∀ h,yrG (.lst ((hd (f+b+lgs A)::cat A (f+1)).map yV)) (.lst ((bt (f+b+lgs A+lgs B)).map yV)) h=some (.lst ((hd (f+b+lgs A)::cat A (f+1)++bt (f+b+lgs A+lgs B)).map yV),h):=fun h=>(k1 (by grind)).trans (by rw [map_append])
 have o:∀ h,yrG (.lst ((hd (f+b+lgs A)::cat A (f+1)++bt (f+b+lgs A+lgs B)).map yV)) (.lst ((cat B (f+b+lgs A)).map yV)) h=some (.lst ((hd (f+b+lgs A)::(cat A (f+1)++(bt (f+b+lgs A+lgs B)++cat B (f+b+lgs A)))).map yV),h):=fun h=>(k1 (by grind)).trans (by rw [<- map_append,append_assoc];rfl)
 clear k1
 simpa [q,j,m,hl,t,s,u,r2,r,i,k2,k3,o,-yzr]
variable (hd0:d<=30) (la:A.length<=90/\lgs A<=90) (lb:B.length<=90/\lgs B<=90) (HA:AllOk d (ar+1) A) (HB:AllOk d (ar+1) B) (ha:ar<=8)
include hd0 la lb HA HB ha
theorem yAK {n k:Nat}{b:Int}{fs:List Str}{xs:List PV}{F:Nat->Fn}(e:∀ m,F (m+1)=ybg 1 (yO (xOp yeP (xOp yeP (xC (.int b)) (yJ (yU m) (yb (yY [5,6,7] "parts" (ye 0)) yh))) (yJ (yU m) (yb (yY [5,6,7] "others" (ye 0)) yh)))))
  (f:∀ h,yeZ [5,6,7] "others" (.ins k fs xs) h=some (.lst (B.map fun p=>p.1.1),h)) (g:∀ h,yeZ [5,6,7] "parts" (.ins k fs xs) h=some (.lst (A.map fun p=>p.1.1),h)):F (n+d+2) [.ins k fs xs] h=some (.int (b+lgs A+lgs B),h):=by
 have a:∀ h,yU (n+d+1) _ h=some _:=fun h=>yei HA (by omega)
 have c:∀ h,yU (n+d+1) _ h=some _:=fun h=>yei HB (by omega)
 rw [e,yo];show ob (yO _ [.val _] h) fnK=_
 simpa [f,g,a,c]
theorem yAL {k:Nat}{fs ws:List Str}{xs:List PV}{b:Nat}{hd:Int->Rw}{bt:Int->List Rw}{F:Nat->Fn}(q:∀ n,PF (n+d+4) ar (.ins k fs xs,ws)) (v:∀ m,F (m+1)=ybg 1 (yO (xOp yeP (xOp yeP (xC (.int b)) (yJ (yU m) (yb (yY [5,6,7] "parts" (ye 0)) (yh)))) (yJ (yU m) (yb (yY [5,6,7] "others" (ye 0)) (yh))))))
  (a:∀ h,yeZ [5,6,7] "others" (.ins k fs xs) h=some (.lst ((qs B).map (·.1)),h)) (c:∀ h,yeZ [5,6,7] "parts" (.ins k fs xs) h=some (.lst ((qs A).map (·.1)),h)) (u:∀ (i:Int) h,yeK [.ins k fs xs,.int i] h=some (yV (hd i),h)) (r:∀ (i:Int) h,ydj [.ins k fs xs,.int i] h=some (.lst ((bt i).map yV),h))
  (p:∀ k,(bt k).length+1=b) (w:b<=3) (o:∀ m h,yvf "long" (yiu (m+1)) (.ins k fs xs) h=F m [.ins k fs xs] h) (s:∀ (f:Int) h,ptT [.val (.ins k fs xs),.val (.int f)] h=some (true,h)) :
  yxJ (d+4) ar ((.ins k fs xs,ws),fun f=>hd (f+b+lgs A)::(cat A (f+1)++(bt (f+b+lgs A+lgs B)++cat B (f+b+lgs A)))):=by
 rw [yID] at a c;have g:∀ f:Int,((hd (f+b+lgs A)::(cat A (f+1)++(bt (f+b+lgs A+lgs B)++cat B (f+b+lgs A)))).length:Int)=b+lgs A+lgs B:=fun f=>by have x:=yfq (f:=f+1) HA;have y:=yfq (f:=f+b+lgs A) HB;grind
 have l:∀ n h,F (n+d+2) _ h=some _:=fun n h=>yAK (n:=n) (F:=F) hd0 la lb HA HB ha v a c
 have j:∀ h,yvf "long" (yiu 45) _ h=some _:=fun h=>by rw [o 44 h,<- l (42-d) h,show 42-d+d+2=44 by omega]
 refine ⟨fun n=>(q n).1,fun n h=>?_,fun n f h=>?_,(q 0).2,fun f=>by have:=g f;have:=g 0;dsimp only;omega⟩
 .rw [g 0,<- l (n+1) h,show n+(d+4)=n+1+d+2+1 by omega];exact o _ h
 .dsimp only;have e:=ywv (n:=n+1) (h:=h) (f:=f) HA HB hd0 la lb j a c u r (fun k=>by have:=p k;omega);rw [show n+(d+4)=n+1+d+2+1 by omega];have t:=s f h;unfold ydJ;rw [yo];show ob (ym _ _ [.val _,.val (.int f)] h) fnK=_
  simpa [t,e]
theorem yAM (g:sl s):yxJ (d+4) ar (ifP s A B):=yAL (bt:=fun k=>[.jump k]) (F:=yiv) hd0 la lb HA HB ha (fun n=>yIB ha g (HA.lf la.1 n) (HB.lf lb.1 n)) (fun _=>rfl) fun _=>by kernel_rfl! fun _=>by kernel_rfl! fun _ _=>by kernel_rfl! fun _ _=>by kernel_rfl! (fun _=>rfl) (by decide) fun _ _=>by kernel_rfl! fun _ _=>by kernel_rfl!
theorem yGL:yxJ (d+4) ar (eiP A B):=yAL (bt:=fun k=>[.settle,.jump k]) (F:=yeJ) hd0 la lb HA HB ha (fun n=>yIA ha (HA.lf la.1 n) (HB.lf lb.1 n)) (fun _=>rfl) fun _=>by kernel_rfl! fun _=>by kernel_rfl! fun _ _=>by kernel_rfl! fun _ _=>by kernel_rfl! (fun _=>rfl) (by decide) fun _ _=>by kernel_rfl! fun _ _=>by kernel_rfl!
theorem yGM (a:yiw nm/\fr nm) (g:sl s):yxJ (d+4) ar (trP nm s A B):=yAL (bt:=fun k=>[.settle,.jump k]) (F:=yhf) hd0 la lb HA HB ha (fun n=>yIC ha a g (HA.lf la.1 n) (HB.lf lb.1 n)) (fun _=>rfl) fun _=>by kernel_rfl! fun _=>by kernel_rfl! fun _ _=>by kernel_rfl! fun _ _=>by kernel_rfl! (fun _=>rfl) (by decide) fun _ _=>by kernel_rfl! fun _ _=>by kernel_rfl!
end
noncomputable def shR (f:Int):Rw->Rw
 | .either k=>.either (f+k)
 | .guard a b k=>.guard a b (f+k)
 | .jump k=>.jump (f+k)
 | .unl s k=>.unl s (f+k)
 | r=>r
noncomputable def zn:Nat->Option Nat->List Rw->List (Option Nat)
 | _,_,[]=>[]
 | i,z,r::l=>z::zn (i+1) (match r with|.either _=>some i|.guard ..=>some i|.settle=>none|_=>z) l
def zo (S:List Rw) (i:Nat):Option Nat:=((zn 0 none S)[i]?).getD none
def tg (S:List Rw) (k:Int) (z:Option Nat):Bool:=decide (0<=k) && decide (k.toNat<=S.length) && (zo S k.toNat == z)
def ckR (S:List Rw) (i:Nat):Rw->Bool
 | .unl _ k=>(zo S (i+1) == zo S i) && tg S k (zo S i) && decide (i<k.toNat)
 | .jump k=>tg S k (zo S i) && decide (i<k.toNat)
 | .either k=>(zo S i == none) && (zo S (i+1) == some i) && tg S k none
 | .guard _ _ k=>(zo S i == none) && (zo S (i+1) == some i) && tg S k none
 | .settle=>(zo S i).isSome && (zo S (i+1) == none)
 | .wait=>true
 | .throw ..=>true
 | .lay=>false
 | _=>zo S (i+1) == zo S i
def chk (S:List Rw):Bool:=decide (0<S.length) && (List.range S.length).all fun i=>(match S[i]? with|some r=>okR r && ckR S i r|none=>false) && (match zo S i with|none=>true|some j=>(match S[j]? with|some b=>ygn b && okR b && tg S (toB b) none && decide (i<(toB b).toNat)|none=>false))
def DR:List (List Rw)->Nat->List Rw
 | [],_=>[.lay]
 | S::l,f=>S.map (shR f)++DR l (f+S.length)
def zR (S:List Rw) (f i:Nat):Option Rw:=(zo S i).bind fun j=>(S[j]?).map (shR f)
def Pos:List (List Rw)->Nat->Nat->Option Rw->Prop
 | [],f,t,z=>t=f/\z=none
 | S::l,f,t,z=>(∃ i,i<S.length/\t=f+i/\z=zR S f i)\/Pos l (f+S.length) t z
def cnd (P:Nat->Option Rw->Prop) (t:Nat) (z:Option Rw):Rw->Prop
 | .unl _ k=>P (t+1) z/\P k.toNat z/\t<k.toNat
 | .jump k=>P k.toNat z/\t<k.toNat
 | .either k=>z=none/\P (t+1) (some (.either k))/\P k.toNat none
 | .guard a b k=>z=none/\P (t+1) (some (.guard a b k))/\P k.toNat none
 | .settle=>z≠none/\P (t+1) none
 | .wait=>True
 | .throw ..=>True
 | .lay=>z=none
 | _=>P (t+1) z
def yBq:Rw->Prop|.let_ _ n=>0<=n/\n<B64|_=>True
structure yxK (rws:List Rw) (P:Nat->Option Rw->Prop):Prop where
 st:P 0 none
 nx:∀ t z,P t z->∃ r,rws[t]?=some r/\okR r=true/\cnd P t z r
 zz:∀ t b,P t (some b)->ygn b=true/\okR b=true/\P (toB b).toNat none/\t<(toB b).toNat
 lt:∀ r∈rws,yBq r
theorem yww {P Q:Nat->Option Rw->Prop}(h:∀ t z,P t z->Q t z) (c:cnd P t z r):cnd Q t z r:=by
 cases r with
 | unl s k=>exact ⟨h _ _ c.1,h _ _ c.2.1,c.2.2⟩
 | jump k=>exact ⟨h _ _ c.1,c.2⟩
 | either k=>exact ⟨c.1,h _ _ c.2.1,h _ _ c.2.2⟩
 | guard a b k=>exact ⟨c.1,h _ _ c.2.1,h _ _ c.2.2⟩
 | settle=>exact ⟨c.1,h _ _ c.2⟩
 | wait=>trivial
 | throw a b=>trivial
 | lay=>exact c
 | _=>exact h _ _ c
section
variable {S:List Rw}{l:List (List Rw)}{f:Nat}
theorem yIE:zo S 0=none:=by cases S<;>rfl
theorem Pos.st:∀ {l:List _}{f:Nat},(∀ S∈l,chk S=true)->Pos l f f none
 | [],_,_=>⟨rfl,rfl⟩
 | S::l,f,H=>.inl ⟨0,by have:=H S mem_cons_self;unfold chk at this;rw [Bool.and_eq_true_iff] at this;exact of_decide_eq_true this.1,rfl,by unfold zR;rw [yIE];rfl⟩
theorem ypA (H:∀ S∈l,chk S=true) (c:k<=S.length):Pos (S::l) f (f+k) (zR S f k):=by
 by_cases e:k<S.length
 .exact .inl ⟨k,e,rfl,rfl⟩
 .have:k=S.length:=by omega
  subst this;refine .inr ?_;have a:∀ S i z,(zn i z S).length=S.length:=fun S=>by
   induction S with
   | nil=>intro _ _;rfl
   | cons r S ih=>intro i z;show (zn _ _ S).length+1=_;rw [ih];rfl
  have b:zR S f S.length=none:=by unfold zR zo;rw [List.getElem?_eq_none (by rw [a];omega)];rfl
  rw [b];exact Pos.st H
theorem yxL (H:∀ S∈l,chk S=true) (e:tg S k z=true):Pos (S::l) f (f+k).toNat (z.bind fun j=>S[j]?.map (shR f)):=by unfold tg at e;simp only [Bool.and_eq_true_iff,decide_eq_true_eq,beq_iff_eq] at e;have:=ypA (f:=f) H e.1.2;unfold zR at this;grind
theorem yxM (e:okR r=true):okR (shR f r)=true:=by cases r<;>simp only [shR,okR,Bool.and_eq_true_iff,decide_eq_true_eq] at e ⊢<;>first|exact e|omega|grind
theorem yty:∀ (l:List (List Rw)) (f t:Nat) (z:Option Rw),(∀ S∈l,chk S=true)->Pos l f t z->f<=t/\(∃ r,(DR l f)[t-f]?=some r/\okR r=true/\cnd (Pos l f) t z r)/\∀ b,z=some b->ygn b=true/\okR b=true/\Pos l f (toB b).toNat none/\t<(toB b).toNat
 | [],f,t,z,_,⟨A,x⟩=>by subst A;exact ⟨Nat.le_refl _,⟨.lay,by rw [sub_self];rfl,rfl,x⟩,fun b e=>by rw [x] at e;cases e⟩
 | S::l,f,t,z,H,.inr p=>by obtain ⟨h1,⟨r,h2,y,F⟩,u⟩:=yty l (f+S.length) t z (fun S h=>H S (mem_cons_of_mem _ h)) p;refine ⟨by omega,⟨r,?_,y,yww (fun _ _=>.inr) F⟩,fun b e=>⟨(u b e).1,(u b e).2.1,.inr (u b e).2.2.1,(u b e).2.2.2⟩⟩;show (S.map (shR f)++DR l (f+S.length))[t-f]?=_;rw [getElem?_append_right (by rw [length_map];omega),length_map,show t-f-S.length=t-(f+S.length) by omega,h2]
 | S::l,f,t,z,H,.inl ⟨i,m,D,g⟩=>by
  have C:=H S mem_cons_self;have o:=fun S h=>H S (mem_cons_of_mem _ h)
  unfold chk at C;rw [Bool.and_eq_true_iff] at C;have c:=List.all_eq_true.mp C.2 i (List.mem_range.mpr m);rw [Bool.and_eq_true_iff] at c;obtain ⟨v,d⟩:=c;rw [List.getElem?_eq_getElem m] at v;rw [Bool.and_eq_true_iff] at v;obtain ⟨o1,o2⟩:=v;subst D;have N:zo S (i+1)=zo S i->Pos (S::l) f (f+i+1) z:=fun e=>by have:=ypA (f:=f) (k:=i+1) o m;unfold zR at this;rw [e] at this;rw [g];exact this
  have T:∀ {k:Int},tg S k (zo S i)=true->Pos (S::l) f ((f:Int)+k).toNat z:=fun e=>by rw [g];exact yxL o e
  have w:∀ {k:Int},tg S k none=true->Pos (S::l) f ((f:Int)+k).toNat none:=fun e=>yxL o e
  have B:∀ {b:Rw},S[i]=b->zo S (i+1)=some i->Pos (S::l) f (f+i+1) (some (shR f b)):=fun E e=>by have:=ypA (f:=f) (k:=i+1) o m;unfold zR at this;rw [e,bind_some,List.getElem?_eq_getElem m,E] at this;exact this
  refine ⟨by omega,⟨shR f S[i],?_,yxM o1,?_⟩,fun b e=>?_⟩
  .show (S.map (shR f)++DR l (f+S.length))[f+i-f]?=_;rw [getElem?_append_left (by rw [length_map];omega),getElem?_map,show f+i-f=i by omega,List.getElem?_eq_getElem m];rfl
  .generalize G:S[i]=r at *;cases r with
   | unl s k =>
    simp only [ckR,Bool.and_eq_true_iff,beq_iff_eq,decide_eq_true_eq] at o2;refine ⟨N o2.1.1,T o2.1.2,?_⟩;show f+i<((f:Int)+k).toNat;omega
   | jump k =>
    simp only [ckR,Bool.and_eq_true_iff,decide_eq_true_eq] at o2;refine ⟨T o2.1,?_⟩;show f+i<((f:Int)+k).toNat;omega
   | either k =>
    simp only [ckR,Bool.and_eq_true_iff,beq_iff_eq] at o2;exact ⟨by rw [g];unfold zR;rw [o2.1.1];rfl,B rfl o2.1.2,w o2.2⟩
   | guard a b k =>
    simp only [ckR,Bool.and_eq_true_iff,beq_iff_eq] at o2;exact ⟨by rw [g];unfold zR;rw [o2.1.1];rfl,B rfl o2.1.2,w o2.2⟩
   | settle =>
    simp only [ckR,Bool.and_eq_true_iff,beq_iff_eq] at o2;have p:=ypA (f:=f) (k:=i+1) o m;unfold zR at p;rw [o2.2] at p;refine ⟨fun e=>?_,p⟩;obtain ⟨j,n⟩:=Option.isSome_iff_exists.mp o2.1;rw [n] at d;rw [e] at g;unfold zR at g;rw [n,bind_some] at g;dsimp only at d;cases q:S[j]? with
    | none=>rw [q] at d;cases d
    | some b=>rw [q] at g;cases g
   | wait=>trivial
   | throw a b=>trivial
   | lay=>cases o2
   | _=>exact N (by simpa [ckR] using o2)
  .rw [g] at e;unfold zR at e;cases n:zo S i with
   | none=>rw [n] at e;cases e
   | some j =>
    rw [n,bind_some] at e;rw [n] at d;dsimp only at d;cases q:S[j]? with
    | none=>rw [q] at e;cases e
    | some b' =>
     rw [q] at e d;cases e;simp only [Bool.and_eq_true_iff,decide_eq_true_eq] at d;refine ⟨?_,yxM d.1.1.2,?_,?_⟩
     .revert d;cases b'<;>simp [ygn,shR]
     .have:=w d.1.2
      revert this d;cases b'<;>simp [ygn,shR,toB]
     .revert d;cases b'<;>simp [ygn,shR,toB]<;>omega
end
theorem yxN:∀ {l:List _}{f:Nat},(∀ S∈l,∀ r∈S,yBq r)->∀ r∈DR l f,yBq r
 | [],_,_,r,h=>by rw [List.mem_singleton.mp h];trivial
 | S::l,f,H,r,h=>by
  rcases List.mem_append.mp h with h|h
  .obtain ⟨q,b,rfl⟩:=List.mem_map.mp h;have:=H S mem_cons_self q b;cases q<;>exact this
  .exact yxN (fun S h=>H S (mem_cons_of_mem _ h)) r h
theorem yAN (H:∀ S∈l,chk S=true) (K:∀ S∈l,∀ r∈S,yBq r):yxK (DR l 0) (Pos l 0):=⟨Pos.st H,fun t z p=>(yty l 0 t z H p).2.1,fun t b p=>(yty l 0 t _ H p).2.2 b rfl,yxN K⟩
noncomputable def skR:Rw->Rw
 | .let_ ..=>.let_ "a" 0
 | .reckon ..=>.let_ "a" 0
 | .take ..=>.let_ "a" 0
 | .put ..=>.let_ "a" 0
 | r=>r
def yEY (S:List Rw):Bool:=decide (0<S.length) && (List.range S.length).all fun i=>(match S[i]? with|some r=>ckR S i r|none=>false) && (match zo S i with|none=>true|some j=>(match S[j]? with|some b=>ygn b && tg S (toB b) none && decide (i<(toB b).toNat)|none=>false))
section
variable {S:List Rw}
theorem yEj:∀ S i z,zn i z (S.map skR)=zn i z S
 | [],_,_=>rfl
 | r::S,i,z=>by show z::zn _ _ _=z::zn _ _ S;rw [yEj S];cases r<;>rfl
theorem yAO:zo (S.map skR) i=zo S i:=by unfold zo;rw [yEj]
theorem yEk:tg (S.map skR) k z=tg S k z:=by unfold tg;rw [yAO,length_map]
theorem yGN:ckR (S.map skR) i (skR r)=ckR S i r:=by cases r<;>simp only [skR,ckR,yEk,yAO]
theorem yEl (h:yEY (S.map skR)=true) (k:∀ r∈S,okR r=true):chk S=true:=by
 unfold yEY at h;unfold chk;rw [Bool.and_eq_true_iff] at h ⊢;rw [length_map] at h;refine ⟨h.1,List.all_eq_true.mpr fun i f=>?_⟩;have c:=List.all_eq_true.mp h.2 i f;rw [Bool.and_eq_true_iff] at c ⊢;have f:=List.mem_range.mp f;rw [yAO] at c;obtain ⟨g,d⟩:=c;constructor
 .rw [getElem?_map,List.getElem?_eq_getElem f] at g;rw [List.getElem?_eq_getElem f];have g:ckR (S.map skR) i (skR S[i])=true:=g;rw [yGN] at g;show (okR S[i] && ckR S i S[i])=true;simp_all
 .cases e:zo S i with
  | none=>rfl
  | some j =>
   rw [e] at d;dsimp only at d ⊢;rw [getElem?_map] at d;cases q:S[j]? with
   | none=>simp_all
   | some b =>
    rw [q] at d;have d:(ygn (skR b) && tg (S.map skR) (toB (skR b)) none && decide _)=true:=d;rw [yEk] at d;have o:=k b (mem_of_getElem? q);dsimp only;rw [o];revert d;cases b<;>simp [skR,ygn,toB]
end
def gP:Rw->Prop
 | .let_ a n=>a∈SL/\0<=n/\n<B64
 | .reckon w a b c=>w∈W5/\a∈SL/\b∈SL/\c∈SL
 | .take a b=>a∈SL/\b∈SL
 | .put a b=>a∈SL/\b∈SL
 | _=>False
theorem ydQ (h:a∈SL):sl a:=by
 have:=by simpa [SL] using h
 rcases this with rfl|rfl|rfl|rfl|rfl|rfl|rfl|rfl<;>exact ⟨fun _=>by kernel_rfl!,yja _ (by rfl')⟩
theorem yjL (g:gP r):gdR r/\okR r=true/\yBq r/\skR r=.let_ "a" 0/\(∀ f,shR f r=r)/\(wR r).length<=4:=by
 cases r with
 | let_ a n=>exact ⟨⟨ydQ g.1,g.2⟩,by simpa [okR] using g.1,g.2,rfl,fun _=>rfl,Nat.le_of_ble_eq_true rfl⟩
 | reckon w a b c=>exact ⟨⟨g.1,ydQ g.2.1,ydQ g.2.2.1,ydQ g.2.2.2⟩,by simp [okR,g.1,g.2.1,g.2.2.1,g.2.2.2],trivial,rfl,fun _=>rfl,Nat.le_of_ble_eq_true rfl⟩
 | take a b=>exact ⟨⟨ydQ g.1,ydQ g.2⟩,by simp [okR,g.1,g.2],trivial,rfl,fun _=>rfl,Nat.le_of_ble_eq_true rfl⟩
 | put a b=>exact ⟨⟨ydQ g.1,ydQ g.2⟩,by simp [okR,g.1,g.2],trivial,rfl,fun _=>rfl,Nat.le_of_ble_eq_true rfl⟩
 | _=>exact g.elim
def PL (A:List Rw):Prop:=(∀ r∈A,gP r)/\A.length<=4
section
variable {A B:List Rw}(g:PL A)
include g
theorem PL.sh:A.map (shR f)=A:=by rw [List.map_congr_left (g:=id) fun r b=>(yjL (g.1 r b)).2.2.2.2.1 f,List.map_id]
theorem PL.sk:A.map skR=replicate A.length (.let_ "a" 0):=by refine List.eq_replicate_iff.mpr ⟨length_map ..,fun r c=>?_⟩;obtain ⟨q,b,rfl⟩:=List.mem_map.mp c;exact (yjL (g.1 q b)).2.2.2.1
theorem PL.pc (c:ar<=8):AllOk (d+1) ar (A.map pl):=fun p hp=>by obtain ⟨r,b,rfl⟩:=List.mem_map.mp hp;exact yfL (yjL (g.1 r b)).1 c
omit g
theorem yxO:∀ {A:List Rw}{f:Int},cat (A.map pl) f=A
 | [],_=>rfl
 | r::A,f=>by show r::cat _ _=_;rw [yxO]
theorem ytz:∀ {a b:List Pc}{f:Int},cat (a++b) f=cat a f++cat b (f+(cat a f).length)
 | [],b,f=>by simp [cat]
 | p::a,b,f=>by show p.2 f++cat (a++b) _=p.2 f++cat a _++_;rw [ytz,append_assoc,show cat _ f=p.2 f++cat a _ from rfl,length_append,Int.natCast_add,Int.add_assoc]
end
inductive Pce where
 | two (A B:List Rw)|six (b:Int)|sev (b o:Int) (s:Str)|eig (b:Int) (s s1 nm s2:Str)|nin (s nm s1:Str)
def Pce.pc:Pce->List Pc
 | .two A B=>(A++B).map pl
 | .six b=>[pl (.let_ "e" b),pl (.take "f" "e"),ifP "f" [pl (.let_ "g" 0),pl (.put "e" "g")] [pl .wait]]
 | .sev b o s=>[eiP [pl (.let_ "e" b),pl (.take "f" "e"),ifP "f" [] [pl .wait]] [pl (.let_ "e" o),pl (.put "e" s)]]
 | .eig b s s1 nm s2=>[trP "odd" s2 [pl (.let_ "e" b),pl (.put "e" s),pl (.throw nm s1)] [pl (.take s "e")]]
 | .nin s nm s1=>[ifP s [pl (.throw nm s1)] [pl (.let_ s 1)]]
noncomputable def Pce.sg:Pce->List Rw
 | .two A B=>A++B
 | .six b=>[.let_ "e" b,.take "f" "e",.unl "f" 6,.let_ "g" 0,.put "e" "g",.jump 7,.wait]
 | .sev b o s=>[.either 8,.let_ "e" b,.take "f" "e",.unl "f" 5,.jump 6,.wait,.settle,.jump 10,.let_ "e" o,.put "e" s]
 | .eig b s s1 nm s2=>[.guard "odd" s2 6,.let_ "e" b,.put "e" s,.throw nm s1,.settle,.jump 7,.take s "e"]
 | .nin s nm s1=>[.unl s 3,.throw nm s1,.jump 4,.let_ s 1]
noncomputable def nmP (nm:Str):Prop:=nm = "odd"\/nm = "bad"
def nu (n:Int):Prop:=0<=n/\n<B64
def Pce.Ok:Pce->Prop
 | .two A B=>PL A/\PL B/\A≠[]
 | .six b=>nu b
 | .sev b o s=>nu b/\nu o/\s∈SL
 | .eig b s s1 nm s2=>nu b/\s∈SL/\s1∈SL/\nmP nm/\s2∈SL
 | .nin s nm s1=>s∈SL/\nmP nm/\s1∈SL
theorem ywx (h:nmP nm):yiw nm/\fr nm:=by rcases h with rfl|rfl<;>exact ⟨fun _=>by kernel_rfl!,yja _ (by rfl')⟩
theorem yEm {p:Pce}(g:p.Ok) {f:Nat}:cat p.pc f=p.sg.map (shR f):=by
 cases p with
 | two A B =>
  show cat ((A++B).map pl) f=(A++B).map _;rw [yxO,map_append,g.1.sh,g.2.1.sh]
 | _ =>
  simp [Pce.pc,Pce.sg,cat,pl,ifP,eiP,trP,lgs,shR];omega
theorem yGO:∀ a,a<5->∀ b,b<5->0<a->yEY (replicate a (Rw.let_ "a" 0)++replicate b (Rw.let_ "a" 0))=true:=by rfl'
theorem yEn {p:Pce}(g:p.Ok):∀ r∈p.sg,okR r=true/\yBq r:=by
 cases p with
 | two A B=>exact fun r h=>(List.mem_append.mp h).elim (fun h=>have q:=yjL (g.1.1 r h);⟨q.2.1,q.2.2.1⟩) fun h=>have q:=yjL (g.2.1.1 r h);⟨q.2.1,q.2.2.1⟩
 | six b =>
  intro r h;simp only [Pce.sg,mem_cons,not_mem_nil,or_false] at h;rcases h with rfl|rfl|rfl|rfl|rfl|rfl|rfl<;>exact ⟨by simp [okR,SL],by first|exact g|exact l|trivial⟩
 | sev b o s =>
  obtain ⟨d,f,c⟩:=g;intro r h;simp only [Pce.sg,mem_cons,not_mem_nil,or_false] at h;rcases h with rfl|rfl|rfl|rfl|rfl|rfl|rfl|rfl|rfl|rfl<;>exact ⟨by first|(simp [okR,c,SL];done)|simp [okR,SL] at c ⊢;exact c,by first|exact d|exact f|trivial⟩
 | eig b s s1 nm s2 =>
  obtain ⟨d,f,c,j,i⟩:=g;intro r h;simp only [Pce.sg,mem_cons,not_mem_nil,or_false] at h;rcases h with rfl|rfl|rfl|rfl|rfl|rfl|rfl<;>exact ⟨by first|rfl|simp [okR,f,c,i,show ("e":Str)∈SL by rfl'],by first|exact d|trivial⟩
 | nin s nm s1 =>
  obtain ⟨d,f,c⟩:=g;intro r h;simp only [Pce.sg,mem_cons,not_mem_nil,or_false] at h;rcases h with rfl|rfl|rfl|rfl<;>exact ⟨by first|rfl|simp [okR,d,c],by first|exact k|trivial⟩
theorem yEo {p:Pce}(g:p.Ok):chk p.sg=true:=by
 refine yEl ?_ fun r h=>(yEn g r h).1
 cases p with
 | two A B =>
  have:=yGO A.length (by have:=g.1.2;omega) B.length (by have:=g.2.1.2;omega) (List.length_pos_iff.mpr g.2.2);show yEY ((A++B).map skR)=true;rw [map_append,g.1.sk,g.2.1.sk];exact this
 | _=>kernel_rfl!
def plT (A:List Rw):Str:=Str.join " ; " (A.map fun r=>Str.join " " (wR r))
theorem yEp {p:Pce}(g:p.Ok):AllOk 9 0 p.pc:=by
 have k:nu 0:=⟨by decide,by decide⟩
 have m:nu 1:=⟨by decide,by decide⟩
 have W:∀ {d:Nat}{ar:Int},ar<=8->yxJ (d+1) ar (pl .wait):=fun h=>yfL trivial h
 cases p with
 | two A B =>
  show AllOk 9 0 ((A++B).map pl);rw [map_append];exact .a (g.1.pc (by decide)) (g.2.1.pc (by decide))
 | six b=>exact .c (yfL ⟨slE,g⟩ (by decide)) (.c (yfL ⟨slF,slE⟩ (by decide)) (.c (yAM (d:=5) (by decide) ⟨by decide,by decide⟩ ⟨by decide,by decide⟩ (.c (yfL (r:=.let_ "g" 0) ⟨slG,k⟩ (by decide)) (.c (yfL (r:=.put "e" "g") ⟨slE,slG⟩ (by decide)) .n)) (.c (W (by decide)) .n) (by decide) slF) .n))
 | sev b o s =>
  obtain ⟨f,i,j⟩:=g;exact .c (yGL (d:=5) (by decide) ⟨Nat.le_of_ble_eq_true rfl,show (5:Int)<=90 by decide⟩ ⟨Nat.le_of_ble_eq_true rfl,show (2:Int)<=90 by decide⟩ (.c (yfL ⟨slE,f⟩ (by decide)) (.c (yfL ⟨slF,slE⟩ (by decide)) (.c (yAM (A:=[]) (d:=1) (by decide) ⟨by decide,by decide⟩ ⟨by decide,by decide⟩ .n (.c (W (by decide)) .n) (by decide) slF) .n))) (.c (yfL ⟨slE,i⟩ (by decide)) (.c (yfL ⟨slE,ydQ j⟩ (by decide)) .n)) (by decide)) .n
 | eig b s s1 nm s2 =>
  obtain ⟨f,i,j,l,q⟩:=g;exact .c (yGM (A:=[pl (.let_ "e" b),pl (.put "e" s),pl (.throw nm s1)]) (B:=[pl (.take s "e")]) (d:=5) (by decide) ⟨Nat.le_of_ble_eq_true rfl,show (3:Int)<=90 by decide⟩ ⟨Nat.le_of_ble_eq_true rfl,show (1:Int)<=90 by decide⟩ (.c (yfL ⟨slE,f⟩ (by decide)) (.c (yfL ⟨slE,ydQ i⟩ (by decide)) (.c (yfL ⟨ywx l,ydQ j⟩ (by decide)) .n))) (.c (yfL ⟨ydQ i,slE⟩ (by decide)) .n) (by decide) (ywx (.inl rfl)) (ydQ q)) .n
 | nin s nm s1 =>
  obtain ⟨f,i,j⟩:=g;exact .c (yAM (A:=[pl (.throw nm s1)]) (B:=[pl (.let_ s 1)]) (d:=5) (by decide) ⟨Nat.le_of_ble_eq_true rfl,show (1:Int)<=90 by decide⟩ ⟨Nat.le_of_ble_eq_true rfl,show (1:Int)<=90 by decide⟩ (.c (yfL ⟨ywx i,ydQ j⟩ (by decide)) .n) (.c (yfL ⟨ydQ f,m⟩ (by decide)) .n) (by decide) (ydQ f)) .n
theorem yAP {p:Pce}(g:p.Ok):(∀ q∈p.pc,q.1.2.length<=99)/\p.pc.length<=8/\p.pc≠[]/\lgs p.pc<=18:=by
 have e:=yfq (f:=((0:Nat):Int)) (yEp g);rw [yEm g,length_map] at e;rw [<- e];clear e;cases p with
 | two A B =>
  obtain ⟨d,h,j⟩:=g;have k:=d.2;have l:=h.2;refine ⟨fun q c=>?_,?_,?_,?_⟩
  .obtain ⟨r,i,rfl⟩:=List.mem_map.mp c;have:=(yjL ((List.mem_append.mp i).elim (d.1 r) (h.1 r))).2.2.2.2.2;show (wR r).length<=99;omega
  .show ((A++B).map pl).length<=8;grind
  .cases A with
   | nil=>exact absurd rfl j
   | cons r A=>exact fun z=>by cases z
  .show ((A++B).length:Int)<=18;rw [length_append];omega
 | six b =>
  refine ⟨fun q c=>?_,Nat.le_of_ble_eq_true rfl,(fun z=>by cases z),by show ((7:Nat):Int)<=18;decide⟩;simp only [Pce.pc,mem_cons,not_mem_nil,or_false] at c;rcases c with rfl|rfl|rfl<;>exact Nat.le_of_ble_eq_true rfl
 | sev b o s=>exact ⟨fun q c=>by rw [List.mem_singleton.mp c];exact Nat.le_of_ble_eq_true rfl,Nat.le_of_ble_eq_true rfl,(fun z=>by cases z),by show ((10:Nat):Int)<=18;decide⟩
 | eig b s s1 nm s2=>exact ⟨fun q c=>by rw [List.mem_singleton.mp c];exact Nat.le_of_ble_eq_true rfl,Nat.le_of_ble_eq_true rfl,(fun z=>by cases z),by show ((7:Nat):Int)<=18;decide⟩
 | nin s nm s1=>exact ⟨fun q c=>by rw [List.mem_singleton.mp c];exact Nat.le_of_ble_eq_true rfl,Nat.le_of_ble_eq_true rfl,(fun z=>by cases z),by show ((4:Nat):Int)<=18;decide⟩
theorem yeM {a b:Str}(e:a.cps.toList=b.cps.toList):a=b:=by cases a;simp_all
theorem ykT (a b:Str):(a++b).cps.toList=a.cps.toList++b.cps.toList:=Array.toList_append
theorem ygJ s a b r:Str.join s (a::b::r)=a++s++Str.join s (b::r):=rfl
theorem join_1 s a:Str.join s [a]=a:=rfl
def Pce.tx:Pce->Str
 | .two A B=>plT (A++B)
 | .six b=>"let e "++tI b++" ; take f e ; if f ( let g 0 ; put e g ) else ( wait )"
 | .sev b o s=>"either ( let e "++tI b++" ; take f e ; if f ( ) else ( wait ) ) or ( let e "++tI o++" ; put e "++s++" )"
 | .eig b s s1 nm s2=>"try ( let e "++tI b++" ; put e "++s++" ; throw "++nm++" "++s1++" ) on odd "++s2++" ( take "++s++" e )"
 | .nin s nm s1=>"if "++s++" ( throw "++nm++" "++s1++" ) else ( let "++s++" 1 )"
theorem yEq {p:Pce}(g:p.Ok):p.tx=Str.join " ; " (p.pc.map fun p=>Str.join " " p.1.2):=by
 cases p with
 | two A B =>
  show plT _=Str.join " ; " (((A++B).map pl).map _);rw [map_map];rfl
 | _ =>
  refine yeM ?_;simp only [Pce.tx,Pce.pc,pl,ifP,eiP,trP,eQ,tQ,qs,wR,iQ,sd,map_cons,map_nil,wl,wr,List.cons_append,List.nil_append,append_nil,ygJ,join_1,ykT,append_assoc];kernel_rfl!
def dTx (ps:List Pce):Str:=Str.join " ; " (ps.map Pce.tx)
def dRw (ps:List Pce):List Rw:=DR (ps.map Pce.sg) 0
structure yAQ (ps:List Pce):Prop where
 ok:∀ p∈ps,p.Ok
 ne:ps≠[]
 le:ps.length<=3
theorem yAR:∀ {ps:List Pce}{f:Nat},(∀ p∈ps,p.Ok)->cat (ps.flatMap Pce.pc) f++[Rw.lay]=DR (ps.map Pce.sg) f
 | [],_,_=>rfl
 | p::ps,f,H=>by have P:=H p mem_cons_self;rw [List.flatMap_cons,ytz,yEm P,append_assoc,length_map];show _++(cat _ (f+p.sg.length:Nat)++_)=p.sg.map _++DR _ _;rw [yAR fun p h=>H p (mem_cons_of_mem _ h)]
theorem ytA:∀ (ls:List _) a,a≠[]->(∀ l∈ls,l≠[])->Str.join s (Str.join s a::ls.map (Str.join s))=Str.join s (a++ls.flatten)
 | [],a,_,_=>by rw [List.flatten_nil,append_nil];rfl
 | l::ls,a,c,H=>by have hl:=H l mem_cons_self;show Str.join s a++s++Str.join s (Str.join s l::ls.map _)=_;rw [ytA ls l hl fun l h=>H l (mem_cons_of_mem _ h),List.flatten_cons,yhN c fun z=>hl (List.append_eq_nil_iff.mp z).1]
theorem yxP {ps:List Pce}(H:∀ p∈ps,p.Ok):AllOk 9 0 (ps.flatMap Pce.pc)/\(∀ q∈ps.flatMap Pce.pc,q.1.2.length<=99)/\(ps.flatMap Pce.pc).length<=8*ps.length/\lgs (ps.flatMap Pce.pc)<=18*ps.length:=by
 induction ps with
 | nil=>exact ⟨.n,(fun _ h=>by cases h),Nat.le_refl _,Int.le_refl _⟩
 | cons p ps ih =>
  obtain ⟨e,d,f,g⟩:=ih fun p h=>H p (mem_cons_of_mem _ h)
  have P:=H p mem_cons_self;obtain ⟨s1,s2,_,s4⟩:=yAP P;refine ⟨.a (yEp P) e,fun q c=>?_,?_,?_⟩
  .exact (List.mem_append.mp c).elim (s1 q) (d q)
  .grind
  .rw [List.flatMap_cons,yGK,length_cons];omega
theorem yEr (D:yAQ ps):Rdb (dTx ps,dRw ps)/\(dTx ps).length<=69000:=by
 obtain ⟨H,c,hl⟩:=D;obtain ⟨i,h,k,j⟩:=yxP H;have e:dRw ps=cat _ 0++[Rw.lay]:=(yAR H).symm;have f:dTx ps=Str.join " ; " ((ps.flatMap Pce.pc).map fun p=>Str.join " " p.1.2):=by
  unfold dTx;rw [show ps.map Pce.tx=(ps.map _).map _ by rw [map_map];exact List.map_congr_left fun p hp=>yEq (H p hp)]
  cases ps with
  | nil=>exact absurd rfl c
  | cons p ps =>
   have d:∀ q∈p::ps,(q.pc.map fun p=>Str.join " " p.1.2)≠[]:=fun q b z=>(yAP (H q b)).2.2.1 (List.map_eq_nil_iff.mp z)
   refine (ytA _ _ (d p mem_cons_self) fun l hl=>?_).trans ?_
   .obtain ⟨q,b,rfl⟩:=List.mem_map.mp hl;exact d q (mem_cons_of_mem _ b)
   .rw [List.flatMap_cons,map_append,List.map_flatMap,List.flatMap_def]
 rw [e];generalize g:ps.flatMap Pce.pc=l at *;cases l with
 | nil =>
  cases ps with
  | nil=>exact absurd rfl c
  | cons p ps=>exact absurd (List.append_eq_nil_iff.mp g).1 (yAP (H p mem_cons_self)).2.2.1
 | cons p l=>exact yEi i (by decide) f h (by grind) (by omega)
theorem yAS (D:yAQ ps):yxK (dRw ps) (Pos (ps.map Pce.sg) 0):=yAN (fun S b=>by
 obtain ⟨p,hp,rfl⟩:=List.mem_map.mp b;exact yEo (D.ok p hp)) fun S b r c=>by
 obtain ⟨p,hp,rfl⟩:=List.mem_map.mp b;exact (yEn (D.ok p hp) r c).2
def inB (v:Int):Prop:=0<=v/\v<B64
def GV (l:List Int):Prop:=l.length=8/\∀ v∈l,inB v
def DOk (W:Nat) (d:List Key×List PV):Prop:=∃ m:List (Nat×Int×Int),d=(sK m,sA m)/\(m.map (·.1)).Nodup/\∀ p∈m,p.1<W/\inB p.2.1
theorem yGP:inB (rk w x y):=by
 unfold rk inB;have:=ycF (x+y) (show 0<B64 by decide);have:=ycF (x-y) (show 0<B64 by decide);have:=ycF (x*y) (show 0<B64 by decide)
 repeat' split
 all_goals first|assumption|exact ⟨by decide,by decide⟩
theorem in0:inB 0:=⟨by decide,by decide⟩
theorem GV.at_ (g:GV l) k:inB (l.getD k 0):=by
 by_cases e:k<l.length
 .rw [getD_eq_getElem?_getD,List.getElem?_eq_getElem e];exact g.2 _ (getElem_mem e)
 .rw [getD_eq_getElem?_getD,List.getElem?_eq_none (by omega)];exact in0
theorem GV.set (g:GV l) (hv:inB v):GV (l.set k v):=⟨by rw [length_set];exact g.1,fun u hu=>(List.mem_or_eq_of_mem_set hu).elim (g.2 u) fun e=>e ▸ hv⟩
section
variable {W:Nat}{d e:List Key×List PV}{dd:List (List Key×List PV)}
theorem DOk.nil:DOk W ([],[]):=⟨[],rfl,List.nodup_nil,fun _ h=>by cases h⟩
theorem DOk.put (D:DOk W d) (hk:k<W) (hv:inB v):DOk W (ydm d.1 d.2 (.inl (k:Int)) (.int v)):=by
 obtain ⟨m,rfl,nd,hb⟩:=D;refine ⟨yfa m k v 0,yAD (f:=fun p=>.int p.2.1) rfl,?_,fun p hp=>?_⟩
 .rw [ypz];split
  .exact nd
  .rename_i e;rw [List.nodup_append];exact ⟨nd,by simp,fun x hx y hy z=>by rw [List.mem_singleton.mp hy] at z;exact e (z ▸ hx)⟩
 .rcases yog hp with rfl|hp
  .exact ⟨hk,hv⟩
  .exact hb p hp
theorem DOk.mrg (D:DOk W d) (E:DOk W e):DOk W (yky d.1 d.2 e.1 e.2):=by
 obtain ⟨m,rfl,_,a⟩:=D;have:∀ m e,(∀ p∈m,p.1<W/\inB p.2.1)->DOk W e->DOk W (yky (sK m) (sA m) e.1 e.2):=by
  intro m
  induction m with
  | nil=>exact fun e _ E=>E
  | cons p m ih=>exact fun e a E=>ih _ (fun p h=>a p (mem_cons_of_mem _ h)) (E.put (a p mem_cons_self).1 (a p mem_cons_self).2)
 exact this m e a E
theorem DOk.len (D:DOk W d):d.1.length<=W:=by
 obtain ⟨m,rfl,c,a⟩:=D;have:=yiC W _ c fun k b=>by obtain ⟨p,hp,rfl⟩:=List.mem_map.mp b;exact (a p hp).1
 show (m.map _).length<=W;simp_all
theorem DOk.get (D:DOk W d) (e:yko d.1 d.2 j=some x):∃ v,x=.int v/\inB v:=by
 obtain ⟨m,rfl,_,hb⟩:=D;have:∀ m:List (Nat×Int×Int),(∀ p∈m,p.1<W/\inB p.2.1)->yko (sK m) (sA m) j=some x->∃ v,x=.int v/\inB v:=by
  intro m
  induction m with
  | nil=>exact fun _ e=>by cases e
  | cons p m ih =>
   intro hb e;have e:(if (Sum.inl (p.1:Int):Key)=j then some (PV.int p.2.1) else yko (sK m) (sA m) j)=some x:=e;split at e
   .cases e;exact ⟨_,rfl,(hb p mem_cons_self).2⟩
   .exact ih (fun p h=>hb p (mem_cons_of_mem _ h)) e
 exact this m hb e
theorem yxQ (H:∀ d∈dd,DOk W d) :∀ k,yxC dd j k=.non\/∃ v,yxC dd j k=.int v/\inB v
 | 0=>.inl rfl
 | k+1=>by
  unfold yxC;split
  .rename_i d b;split
   .rename_i x a;exact .inr ((H d (mem_of_getElem? b)).get a)
   .exact yxQ H k
  .exact .inl rfl
theorem ytB:∀ m,ysb (sK m)=some (m.map fun p=>(p.1:Int))
 | []=>rfl
 | p::m=>by show (ysb (sK m)).map _=_;rw [ytB m];rfl
theorem ykU:∀ {l:List _}{p:Int×PV},p∈ykw l->p∈l
 | q::l,p,hp=>by
  have a:∀ l,p∈ynQ q l->p=q\/p∈l:=by
   intro l
   induction l with
   | nil=>exact fun h=>.inl (List.mem_singleton.mp h)
   | cons r l ih =>
    intro h;unfold ynQ at h;split at h
    .simp_all
    .rcases mem_cons.mp h with e|h
     .simp_all
     .exact (ih h).imp id (mem_cons_of_mem _)
  rcases a _ hp with rfl|h
  .exact mem_cons_self
  .exact mem_cons_of_mem _ (ykU h)
theorem ypB:∀ l,(ykw l).length=l.length
 | []=>rfl
 | q::l=>by
  have a:∀ l,(ynQ q l).length=l.length+1:=by
   intro l
   induction l with
   | nil=>rfl
   | cons r l ih =>
    unfold ynQ;split
    .rfl
    simp_all
  show (ynQ q _).length=_;rw [a,ypB l];rfl
theorem ypC:∀ l,(l.map (·.1)).Nodup->(ykw l).Pairwise fun a b=>a.1<b.1
 | [],_=>.nil
 | q::l,f=>by
  have ih:=ypC l (List.nodup_cons.mp f).2;have g:∀ p∈ykw l,p.1≠q.1:=fun p hp e=>(List.nodup_cons.mp f).1 (by show q.1∈l.map _;rw [<- e];exact List.mem_map_of_mem (ykU hp))
  have c:∀ l,l.Pairwise (fun a b=>a.1<b.1)->(∀ p∈l,p.1≠q.1)->(ynQ q l).Pairwise fun a b=>a.1<b.1:=by
   intro l
   induction l with
   | nil=>exact fun _ _=>List.pairwise_singleton ..
   | cons r l ih =>
    intro h n;have h2:=List.pairwise_cons.mp h;have j:=n r mem_cons_self;unfold ynQ;split
    .refine List.pairwise_cons.mpr ⟨fun p hp=>?_,h⟩;grind
    .refine List.pairwise_cons.mpr ⟨fun p hp=>?_,ih h2.2 fun p hp=>n p (mem_cons_of_mem _ hp)⟩;have i:∀ l,p∈ynQ q l->p=q\/p∈l:=by
      intro l
      induction l with
      | nil=>exact fun h=>.inl (List.mem_singleton.mp h)
      | cons r l ih =>
       intro h;unfold ynQ at h;split at h
       .simp_all
       .rcases mem_cons.mp h with e|h
        .simp_all
        .exact (ih h).imp id (mem_cons_of_mem _)
     rcases i l hp with rfl|hp
     .omega
     .exact h2.1 p hp
  exact c _ ih g
noncomputable def Ris (ls:List (Nat×Int)):Prop:=ls.Pairwise fun a b=>a.1<b.1
theorem yoj {m:List _}(g:m.length<64) (i:(m.map (·.1)).Nodup):∃ ls:List _,sortI (sK m) (sA m)=some (ls.map ydr)/\(∀ p∈ls,∃ q∈m,p=(q.1,q.2.1))/\ls.length=m.length/\Ris ls:=by
 have z:∀ m:List _,(m.map fun p=>(p.1:Int)).zip (sA m)=m.map fun p=>((p.1:Int),PV.int p.2.1):=by
  intro m
  induction m with
  | nil=>rfl
  | cons p m ih=>show _::(m.map _).zip (sA m)=_;rw [ih];rfl
 have f:∀ l,(∀ p∈l,∃ q∈m,p=((q.1:Int),PV.int q.2.1))->∃ ls:List _,l=ls.map (fun p=>((p.1:Int),PV.int p.2))/\∀ p∈ls,∃ q∈m,p=(q.1,q.2.1):=by
  intro l
  induction l with
  | nil=>exact fun _=>⟨[],rfl,fun _ h=>by cases h⟩
  | cons p l ih =>
   intro H;obtain ⟨ls,e,k⟩:=ih fun p h=>H p (mem_cons_of_mem _ h)
   obtain ⟨q,a,rfl⟩:=H p mem_cons_self;refine ⟨(q.1,q.2.1)::ls,by simp_all,fun p hp=>?_⟩;rcases mem_cons.mp hp with rfl|hp
   .exact ⟨q,a,rfl⟩
   .exact k p hp
 obtain ⟨ls,e,k⟩:=f _ fun p hp=>by obtain ⟨q,a,e⟩:=List.mem_map.mp (ykU hp);exact ⟨q,a,e.symm⟩
 have c:=ypC (m.map fun p=>(p.1,PV.int p.2.1)) (by
  have:(m.map ((fun x=>x.1) ∘ fun p=>((p.1:Int),PV.int p.2.1)))=(m.map (·.1)).map (fun n:Nat=>(n:Int)):=by rw [map_map];rfl
  grind)
 have b:=ypB (m.map fun p=>(p.1,PV.int p.2.1));rw [e] at c b;rw [length_map,length_map] at b;refine ⟨ls,?_,k,b,(List.pairwise_map.mp c).imp fun h=>by simp_all⟩;unfold sortI;rw [ytB];dsimp only;rw [if_pos (by rw [length_map];omega),z,e,map_map];rfl
end
def ZS (z:Option Rw) (sd:List (Rw×List Int)):Prop:=match z with|none=>sd=[]|some b=>∃ q,sd=[(b,q)]/\GV q
structure RW (W:Nat) (rws:List Rw) (P:Nat->Option Rw->Prop) (s:RS):Prop where
 ps:∃ z,P s.t z/\ZS z s.sd
 hs:GV s.hs
 dd:∀ d∈s.dd,DOk W d
 ln:s.dd.length=s.sd.length+1
section
variable {W:Nat}{rws:List Rw}{P:Nat->Option Rw->Prop}{s:RS}
theorem RW.ok (G:yxK rws P) (R:RW W rws P s) (k:W<=16):okS s=true:=by
 obtain ⟨z,hp,hz⟩:=R.ps;unfold okS;simp only [and_eq_true,beq_iff_eq,decide_eq_true_eq,List.all_eq_true];have c:∀ d∈s.dd,d.1.length<400:=fun d h=>by have:=(R.dd d h).len;omega
 cases z with
 | none =>
  have e:=hz;rw [e];exact ⟨⟨⟨⟨R.hs.1,by rw [R.ln,e]⟩,by decide⟩,fun _ h=>by cases h⟩,c⟩
 | some b =>
  obtain ⟨q,e,i⟩:=hz;obtain ⟨j,f,_⟩:=G.zz _ _ hp;rw [e];exact ⟨⟨⟨⟨R.hs.1,by rw [R.ln,e]⟩,by show 1<90;decide⟩,fun x g=>by rw [List.mem_singleton.mp g];exact ⟨⟨j,f⟩,i.1⟩⟩,c⟩
theorem RW.start (G:yxK rws P) (g:GV bf):RW W rws P (S0 bf):=⟨⟨none,G.st,rfl⟩,g,fun d h=>by rw [List.mem_singleton.mp h];exact .nil,rfl⟩
end
section
variable {W:Nat}{rws:List Rw}{P:Nat->Option Rw->Prop}{s:RS}{r:Rw}{z:Option Rw}
theorem yAT (b:1<=W) (x:Int):∃ n:Nat,x%W=n/\n<W:=⟨(x%W).toNat,by have:=Int.emod_nonneg x (show (W:Int)≠0 by omega);omega,by have:=Int.emod_lt_of_pos x (show (0:Int)<W by omega);omega⟩
theorem RW.go (G:yxK rws P) (R:RW W rws P s) (h1:1<=W) (M:W<=16) (hp:P s.t z) (hz:ZS z s.sd) (N:rws[s.t]?=some r) (B:okR r=true) (c:cnd P s.t z r) (u:yhz W s r=false):∃ s',yqk W r s=some s'/\RW W rws P s'/\s'.sn=s.sn/\s.t<s'.t:=by
 have A:(okR r && okS s)=true:=by rw [B,R.ok G M];rfl
 have E:∀ {g:Rw->List Int->List Int},(∀ b q,GV q->GV (g b q))->¬tkL s.sd r s.sd.length=0->∃ s',yjJ s r g=some s'/\RW W rws P s'/\s'.sn=s.sn/\s.t<s'.t:=fun {g} J O=>by
  obtain ⟨L,F⟩:∃ L,tkL s.sd r s.sd.length=L+1:=⟨tkL s.sd r s.sd.length-1,by omega⟩
  obtain ⟨x,m,_⟩:=ykO F;cases z with
  | none=>rw [show s.sd=[] from hz] at m;cases m
  | some b =>
   obtain ⟨q,e,C⟩:=hz;have l0:L=0:=by have:=(List.getElem?_eq_some_iff.mp m).1;rw [e] at this;have:L<1:=this;omega
   subst l0;have K:x=(b,q):=by rw [e] at m;cases m;rfl
   subst K;have l:=R.ln;rw [e] at l;have l:s.dd.length=2:=l;refine ⟨⟨(toB b).toNat,g b q,s.sd.take 0,s.dd.take 1,s.sn⟩,?_,⟨⟨none,(G.zz _ _ hp).2.2.1,rfl⟩,J b q C,fun d i=>R.dd d (List.mem_of_mem_take i),?_⟩,rfl,(G.zz _ _ hp).2.2.2⟩
   .unfold yjJ;rw [F];dsimp only;rw [m]
   .show (s.dd.take 1).length=0+1;rw [length_take];omega
 unfold yqk;rw [if_pos A];cases r with
 | let_ a n=>exact ⟨_,rfl,⟨⟨z,c,hz⟩,R.hs.set (G.lt _ (mem_of_getElem? N)),R.dd,R.ln⟩,rfl,Nat.lt_succ_self _⟩
 | take a q =>
  dsimp only;rcases yxQ R.dd (j:=.inl (s.hs.getD (sx q) 0%(W:Nat))) s.dd.length with e|⟨v,e,hv⟩
  .have:isN (yta s W q)=false:=u;unfold yta at this;rw [e] at this;cases this
  .have e:yta s W q=.int v:=e;rw [e];exact ⟨_,rfl,⟨⟨z,c,hz⟩,R.hs.set hv,R.dd,R.ln⟩,rfl,Nat.lt_succ_self _⟩
 | put p q =>
  obtain ⟨n,en,I⟩:=yAT h1 (s.hs.getD (sx p) 0);have w:s.dd≠[]:=fun e=>by have:=R.ln;rw [e] at this;simp at this
  refine ⟨_,rfl,⟨⟨z,c,hz⟩,R.hs,?_,?_⟩,rfl,Nat.lt_succ_self _⟩
  .show ∀ d∈yhr s.dd _ _,DOk W d;unfold yhr;rw [List.getLast?_eq_some_getLast w,en];intro d i;rcases List.mem_append.mp i with i|i
   .exact R.dd d (List.dropLast_subset _ i)
   .rw [List.mem_singleton.mp i];exact (R.dd _ (List.getLast_mem w)).put I (R.hs.at_ _)
  .show (yhr s.dd _ _).length=_;unfold yhr;rw [List.getLast?_eq_some_getLast w];have:=R.ln;simp only [length_append,List.length_dropLast,List.length_singleton];show _=s.sd.length+1;omega
 | unl a k =>
  refine ⟨_,rfl,⟨⟨z,?_,hz⟩,R.hs,R.dd,R.ln⟩,rfl,?_⟩
  .show P (if _ then _ else _) z;split
   .exact c.2.1
   .exact c.1
  .show s.t<if _ then _ else _
   split
   .exact c.2.2
   .exact Nat.lt_succ_self _
 | jump k=>exact ⟨_,rfl,⟨⟨z,c.1,hz⟩,R.hs,R.dd,R.ln⟩,rfl,c.2⟩
 | either k =>
  obtain ⟨rfl,o,_⟩:=c;have e:s.sd=[]:=hz;refine ⟨_,rfl,⟨⟨some (.either k),o,s.hs,?_,R.hs⟩,R.hs,?_,?_⟩,rfl,Nat.lt_succ_self _⟩
  .show s.sd++_=_;rw [e];rfl
  .intro d i;rcases List.mem_append.mp i with i|i
   .exact R.dd d i
   .rw [List.mem_singleton.mp i];exact .nil
  .show (s.dd++_).length=(s.sd++_).length+1;rw [length_append,length_append,R.ln];rfl
 | guard a b k =>
  obtain ⟨rfl,o,_⟩:=c;have e:s.sd=[]:=hz;refine ⟨_,rfl,⟨⟨some (.guard a b k),o,s.hs,?_,R.hs⟩,R.hs,?_,?_⟩,rfl,Nat.lt_succ_self _⟩
  .show s.sd++_=_;rw [e];rfl
  .intro d i;rcases List.mem_append.mp i with i|i
   .exact R.dd d i
   .rw [List.mem_singleton.mp i];exact .nil
  .show (s.dd++_).length=(s.sd++_).length+1;rw [length_append,length_append,R.ln];rfl
 | settle =>
  obtain ⟨H,o⟩:=c;cases z with
  | none=>exact absurd rfl H
  | some b =>
   obtain ⟨q,e,C⟩:=hz;have l:=R.ln;rw [e] at l;obtain ⟨t,d',ed⟩:∃ t d',s.dd=[t,d']:=by
    match h:s.dd,l with
    | [x,y],_=>exact ⟨x,y,rfl⟩
   have D:=R.dd;rw [ed] at D;dsimp only;rw [if_neg (by rw [e];exact fun z=>by cases z)];refine ⟨_,rfl,⟨⟨none,o,?_⟩,R.hs,?_,?_⟩,rfl,Nat.lt_succ_self _⟩
   .show s.sd.dropLast=[]
    rw [e];rfl
   .show ∀ d∈yjI s.dd,DOk W d;rw [ed];intro d i;rw [List.mem_singleton.mp (show d∈[yky d'.1 d'.2 t.1 t.2] from i)];exact (D d' (by simp)).mrg (D t (by simp))
   .show (yjI s.dd).length=s.sd.dropLast.length+1;rw [ed,e];rfl
 | reckon v a p q =>
  dsimp only;rw [if_pos (show 0<=s.hs.getD (sx p) 0/\s.hs.getD (sx p) 0<B64 from R.hs.at_ _)];exact ⟨_,rfl,⟨⟨z,c,hz⟩,R.hs.set yGP,R.dd,R.ln⟩,rfl,Nat.lt_succ_self _⟩
 | wait=>exact E (fun _ _ g=>g) (by have:=of_decide_eq_false u;omega)
 | throw a b=>exact E (fun _ _ g=>g.set (R.hs.at_ _)) (by have:=of_decide_eq_false u;omega)
 | lay=>cases u
end
noncomputable def lnV:PV->Nat|.lst l=>l.length|_=>0
noncomputable def rm (x:HD):Nat:=x.ds.length-x.nth
def fu (x:HD):Nat:=((x.ds.drop (x.nth+1)).map lnV).sum
def cu (sp:List Int) (x:HD):Nat:=if x.sl=true then 0 else (x.rows.length-x.s.t)+(if stB x.s.sn sp=true then x.rows.length else 0)
def phi (sp:List Int) (T:Nat) (x:HD):Nat:=cu sp x+x.rows.length*(T-rm x)+fu x*(1+(T-rm x))
def rmS (xs:List HD):Nat:=(xs.map rm).sum
def ywy (sp:List Int) (T:Nat) (xs:List HD):Nat:=(xs.map (phi sp T)).sum
theorem ywz:rmS (a++x::b)=rmS a+rm x+rmS b:=by simp [rmS,Nat.add_assoc]
theorem ypD:ywy sp T (a++x::b)=ywy sp T a+phi sp T x+ywy sp T b:=by simp [ywy,Nat.add_assoc]
theorem yAU:∀ {a:List HD},x∈a->rm x<=rmS a
 | y::a,h=>by
  have e:rmS (y::a)=rm y+rmS a:=rfl;rw [e];rcases mem_cons.mp h with rfl|h
  .omega
  .have:=yAU h
   omega
theorem ytC:∀ {a:List HD},(∀ x∈a,phi sp' T' (f x)<=phi sp T x)->ywy sp' T' (a.map f)<=ywy sp T a
 | [],_=>Nat.le_refl _
 | y::a,h=>by
  have h1:=h y mem_cons_self;have h2:=ytC fun x c=>h x (mem_cons_of_mem _ c)
  exact Nat.add_le_add h1 h2
section
variable {sp sp':List Int}{T:Nat}{x y:HD}
theorem yEs (h1:y.ds=x.ds) (h2:y.nth=x.nth) (a:y.rows=x.rows) (h:cu sp y<cu sp x):phi sp T y<phi sp T x:=by unfold phi fu rm;simp_all
theorem ywA:phi sp T x<=phi sp (T+1) x:=Nat.add_le_add (Nat.add_le_add_left (Nat.mul_le_mul_left _ (by omega)) _) (Nat.mul_le_mul_left _ (by omega))
theorem yAV (h:rm x<=T):phi sp' T (ydL sp' x)<=phi sp (T+1) x:=by
 unfold ydL;split
 .rename_i e;have b:=by rw [Bool.and_eq_true_iff] at e;have:=e.1;unfold asB at this;simp at this;exact this.2
  have d:cu sp x=0:=if_pos b;have f:cu sp' { x with sl:=false,s:=S0 x.bf }=x.rows.length:=rfl;unfold phi;rw [d];show x.rows.length+x.rows.length*(T-rm x)+fu x*(1+(T-rm x))<=_;rw [show T+1-rm x=T-rm x+1 by omega,Nat.mul_succ];grind
 .have c:cu sp' x<=cu sp x+x.rows.length:=by unfold cu;grind
  unfold phi;rw [show T+1-rm x=T-rm x+1 by omega,Nat.mul_succ];grind
theorem yAW (h1:x.nth<x.ds.length) (d:x.sl=false) (b:Due x.ds (x.nth+1) rows') (f:0<cu sp x) (g:rm x<=T+1):phi sp' T { x with nth:=x.nth+1,bf:=bf,rows:=rows',s:=S0 bf }<phi sp (T+1) x:=by
 have e:rows'.length+((x.ds.drop (x.nth+1+1)).map lnV).sum=fu x:=by
  unfold fu;rcases b with ⟨h,e⟩|⟨h,e⟩
  .rw [List.drop_eq_getElem_cons h,map_cons];rw [List.getElem?_eq_getElem h] at e;rw [Option.some.inj e];rfl
  .rw [e,List.drop_of_length_le (by omega),List.drop_of_length_le (by omega)];rfl
 have c:cu sp' { x with nth:=x.nth+1,bf:=bf,rows:=rows',s:=S0 bf }=rows'.length:=by unfold cu;rw [if_neg (by rw [d];decide)];rfl
 unfold phi;rw [c];show rows'.length+rows'.length*(T-(x.ds.length-(x.nth+1)))+((x.ds.drop (x.nth+1+1)).map lnV).sum*(1+(T-(x.ds.length-(x.nth+1))))<_;unfold rm at *;rw [<- e];grind
end
structure HW (W:Nat) (x:HD):Prop where
 ds:∀ i,i<x.ds.length->∃ rws P,x.ds[i]?=some (.lst (rws.map yV))/\yxK rws P/\rws.length<=100
 le:x.nth<=x.ds.length
 bf:GV x.bf
 nf:NF W x.s
 due:Due x.ds x.nth x.rows
 run:x.nth<x.ds.length->∃ rws P,x.rows=rws.map yV/\yxK rws P/\RW W rws P x.s
 dl:x.ds.length<=6
 rl:x.rows.length<=100
structure St where
 bx:List Int
 sp:List Int
 en:List PV
 xs:List HD
noncomputable def iV (l:List Int):PV:=.lst (l.map .int)
def EnOk (e:PV):Prop:=∃ (i j:Int) (k:Str) (ts:List PV) (a b:List (Nat×Int)) (c:List Int),e=.tup [.int i,.int j,.tup (.str k::ts),.lst (a.map ydr),.lst (b.map ydr),iV c]/\∀ t∈ts,(∃ s,t=.str s)\/∃ n,t=.int n
structure SW (W:Nat) (S:St):Prop where
 b:S.bx.length=W
 p:S.sp.length=W
 bb:∀ v∈S.bx,inB v
 x:∀ x∈S.xs,HW W x
 e:∀ e∈S.en,EnOk e
 n:S.en.length=(S.xs.map (·.nth)).sum
def Turn (W:Nat) (S:St) (i:Nat) (told:PV) (S':St):Prop:=∀ h g as own,HH h g W S.bx S.sp S.en as S.xs own->∃ h' as',yC [.loc g.H,.int (i:Nat)] h=some (told,h')/\HH h' g W S'.bx S'.sp S'.en as' S'.xs own
def Phi (S:St):Nat:=ywy S.sp (rmS S.xs) S.xs
structure TO (W:Nat) (S:St) (i:Nat) (told:PV) (S':St):Prop where
 t:Turn W S i told S'
 w:SW W S'
 k:∃ (k:Str) (ns:List Int),told=.tup (.str k::ns.map .int)
 l:S'.xs.length=S.xs.length
 d:∀ x,S.xs[i]?=some x->stX x = "awake"->Phi S'<Phi S
theorem NF0:NF W (S0 bf):=⟨List.nodup_nil,fun _ h=>(by cases h),by show 0<=900;decide⟩
section
variable {W i:Nat}{S:St}{x:HD}
theorem HW.next (w:HW W x) (c:x.nth<x.ds.length) {bf:List Int}(g:GV bf):∃ rows',Due x.ds (x.nth+1) rows'/\HW W { x with nth:=x.nth+1,bf:=bf,rows:=rows',s:=S0 bf }:=by
 by_cases e:x.nth+1<x.ds.length
 .obtain ⟨rws,P,b,G,hl⟩:=w.ds _ e;exact ⟨_,.inl ⟨e,b⟩,w.ds,c,g,NF0,.inl ⟨e,b⟩,fun _=>⟨rws,P,rfl,G,.start G g⟩,w.dl,by simp_all⟩
 .have d:x.nth+1=x.ds.length:=by omega
  exact ⟨[],.inr ⟨d,rfl⟩,w.ds,c,g,NF0,.inr ⟨d,rfl⟩,fun h=>absurd h e,w.dl,by simp_all⟩
theorem HW.anew (w:HW W x):HW W { x with sl:=false,s:=S0 x.bf }:=⟨w.ds,w.le,w.bf,NF0,w.due,fun h=>by obtain ⟨rws,P,e,G,_⟩:=w.run h;exact ⟨rws,P,e,G,.start G w.bf⟩,w.dl,w.rl⟩
theorem HW.wake (w:HW W x) :HW W (ydL sp x):=by
 unfold ydL;split
 .exact w.anew
 .exact w
theorem yhO {Y:Type}{l:List Y}{i:Nat}(h:i<l.length):∃ a x b,l=a++x::b/\a.length=i:=⟨l.take i,l[i],l.drop (i+1),by simp_all,by grind⟩
theorem yxR:∀ {l:List _}{bx:List Int},(∀ v∈bx,inB v)->(∀ p∈l,inB p.2)->∀ v∈ywo bx l,inB v
 | [],_,h,_=>h
 | p::l,bx,h,k=>yxR (l:=l) (fun v hv=>(List.mem_or_eq_of_mem_set hv).elim (h v) fun e=>e ▸ k p mem_cons_self) fun p hp=>k p (mem_cons_of_mem _ hp)
theorem ywB:(ydL sp y).nth=y.nth:=by unfold ydL;split<;>rfl
theorem ytD {xs:List HD}(H:∀ x∈xs,HW W x):(xs.map (·.nth)).sum<=6*xs.length:=by
 induction xs with
 | nil=>exact Nat.le_refl _
 | cons x xs ih =>
  have h:=H x mem_cons_self;have:=h.le;have:=h.dl;grind
theorem yxS (h:x.sl=false) (a:x.s.t<x.rows.length):0<cu sp x:=by unfold cu;grind
theorem ypE {x':HD}(h1:x'.ds=x.ds) (h2:x'.nth=x.nth) (b:x'.rows=x.rows) (h:cu sp x'<cu sp x):Phi ⟨bx',sp,en',xs1++x'::xs2⟩<Phi ⟨bx,sp,en,xs1++x::xs2⟩:=by
 unfold Phi;dsimp only;have e:rm x'=rm x:=by unfold rm;rw [h1,h2]
 rw [ywz,ywz,e,ypD,ypD];have:=yEs (T:=rmS xs1+rm x+rmS xs2) h1 h2 b h;omega
theorem yGQ (b:∀ y,rm (f y)=rm y) {l:List HD}:rmS (l.map f)=rmS l:=by unfold rmS;rw [map_map];exact congrArg List.sum (List.map_congr_left fun y _=>b y)
theorem yIF y:rm (ydL sp y)=rm y:=by unfold ydL;split<;>rfl
theorem ytE (n:∀ y,rm (f y)=rm y) (H:∀ y T,rm y<=T->phi sp' T (f y)<=phi sp (T+1) y) (j:f { x with nth:=x.nth+1,bf:=bf,rows:=rows',s:=S0 bf }={ x with nth:=x.nth+1,bf:=bf,rows:=rows',s:=S0 bf }) (h1:x.nth<x.ds.length) (h:x.sl=false) (l:Due x.ds (x.nth+1) rows') (k:x.s.t<x.rows.length):Phi ⟨bx',sp',en',(xs1++{ x with nth:=x.nth+1,bf:=bf,rows:=rows',s:=S0 bf }::xs2).map f⟩<Phi ⟨bx,sp,en,xs1++x::xs2⟩:=by
 unfold Phi;dsimp only;have e:rm { x with nth:=x.nth+1,bf:=bf,rows:=rows',s:=S0 bf }+1=rm x:=by unfold rm;dsimp only;omega
 rw [yGQ n,map_append,map_cons,j,ywz,ywz,ypD,ypD,show rmS xs1+rm x+rmS xs2=(rmS xs1+rm { x with nth:=x.nth+1,bf:=bf,rows:=rows',s:=S0 bf }+rmS xs2)+1 by omega];obtain ⟨T,m⟩:∃ T,rmS xs1+rm { x with nth:=x.nth+1,bf:=bf,rows:=rows',s:=S0 bf }+rmS xs2=T:=⟨_,rfl⟩
 rw [m];have a:=ytC (a:=xs1) fun y g=>H y T (by have:=yAU g;omega)
 have b:=ytC (a:=xs2) fun y g=>H y T (by have:=yAU g;omega)
 have d:=yAW (sp:=sp) (sp':=sp') (T:=T) (bf:=bf) h1 h l (yxS h k);omega
theorem ytF (w:SW W S) (h1:1<=W) (h3:W<=16) (h8:S.xs.length<=8) (hi:i<S.xs.length):∃ v S',TO W S i v S':=by
 obtain ⟨bx,sp,en,xs⟩:=S;obtain ⟨rfl,K,wb,T,we,wn⟩:=w;dsimp only at *;have en8:=ytD T;obtain ⟨xs1,x,xs2,rfl,rfl⟩:=yhO hi;have n:=T x (by simp);have upd:∀ {x':HD},HW bx.length x'->∀ y∈xs1++x'::xs2,HW bx.length y:=fun {x'} hx y N=>by
  rcases List.mem_append.mp N with z|z
  .exact T y (mem_append_left _ z)
  .rcases mem_cons.mp z with rfl|z
   .exact hx
   .exact T y (mem_append_right _ (mem_cons_of_mem _ z))
 have A:∀ {h g H own} {v:PV}{S':St},HH h g bx.length bx sp en H (xs1++x::xs2) own->(∀ as1 a as2,as1.length=xs1.length->HH h g bx.length bx sp en (as1++a::as2) (xs1++x::xs2) own->∃ h' L,yC [.loc g.H,.int (as1.length:Nat)] h=some (v,h')/\HH h' g bx.length S'.bx S'.sp S'.en L S'.xs own)->∃ h' L,yC [.loc g.H,.int (xs1.length:Nat)] h=some (v,h')/\HH h' g bx.length S'.bx S'.sp S'.en L S'.xs own:=fun {h g H own v S'} X k=>by obtain ⟨as1,a,as2,rfl,l⟩:=yhO (l:=H) (i:=xs1.length) (by rw [X.ly.len,length_append,length_cons];omega);have:=k as1 a as2 l X;rwa [l] at this
 have sn4:x.s.sn.length<64:=by
  have:=yiC bx.length _ n.nf.nd fun k M=>by obtain ⟨p,hp,rfl⟩:=List.mem_map.mp M;exact n.nf.hb p hp
  rw [length_map] at this;omega
 by_cases st:stX x = "awake"
 .have u:x.nth<x.ds.length:=by
   have:=n.le
   by_cases e:x.nth=x.ds.length
   .unfold stX at st;rw [if_pos e] at st;exact absurd st (by rfl')
   .omega
  have o:x.sl=false:=by
   cases e:x.sl with
   | false=>rfl
   | true =>
    unfold stX at st;rw [if_neg (by omega),if_pos e] at st;exact absurd st (by rfl')
  obtain ⟨rws,P,I,G,R⟩:=n.run u;obtain ⟨z,hp,hz⟩:=R.ps;obtain ⟨r,O,F,c⟩:=G.nx _ _ hp;have Z:=R.ok G (by omega);have B:∀ {x':HD},HW bx.length x'->x'.nth=x.nth->SW bx.length ⟨bx,sp,en,xs1++x'::xs2⟩:=fun hx e=>⟨rfl,K,wb,upd hx,we,by rw [wn];simp [e]⟩
  have Y:x.s.t<x.rows.length:=by rw [I,length_map];exact (List.getElem?_eq_some_iff.mp O).1
  have cx:cu sp x=x.rows.length-x.s.t+(if stB x.s.sn sp=true then x.rows.length else 0):=by unfold cu;rw [if_neg (by rw [o];decide)]
  cases U:yhz bx.length x.s r with
  | false =>
   obtain ⟨s',e2,R',es,tl⟩:=R.go G h1 (by omega) hp hz O F c U;refine ⟨.tup [.str "gone",.int x.s.t],⟨bx,sp,en,xs1++{ x with s:=s' }::xs2⟩,fun h g H own X=>A X fun as1 a as2 l X=>?_,B ⟨n.ds,n.le,n.bf,?_,n.due,(fun _=>⟨rws,P,I,G,R'⟩),n.dl,n.rl⟩ rfl,⟨"gone",[(x.s.t:Nat)],rfl⟩,by simp,fun _ _ _=>ypE rfl rfl rfl (by rw [cx];unfold cu;dsimp only;rw [es,if_neg (by rw [o];decide)];omega)⟩
   .obtain ⟨h',c',E,C⟩:=yGF X l h1 I u o O Z F U e2;exact ⟨h',_,E,C⟩
   .obtain ⟨a,b,c⟩:=n.nf;exact ⟨by rw [es];exact a,by rw [es];exact b,by rw [es];exact c⟩
  | true =>
   cases fr:stB x.s.sn sp with
   | true =>
    refine ⟨.tup [.str "anew",.int x.s.t],⟨bx,sp,en,xs1++{ x with sl:=false,s:=S0 x.bf }::xs2⟩,fun h g H own X=>A X fun as1 a as2 l X=>?_,B n.anew rfl,⟨"anew",[(x.s.t:Nat)],rfl⟩,by simp,fun _ _ _=>ypE rfl rfl rfl (by rw [cx,fr];show x.rows.length-0+0<x.rows.length-x.s.t+x.rows.length;omega)⟩;obtain ⟨h',c',E,C⟩:=yGH X l K h1 I u o n.nf fr O Z F U n.due;exact ⟨h',_,E,C⟩
   | false =>
    obtain ⟨ls,eL,kL,lL,_⟩:=yoj (m:=x.s.sn) sn4 n.nf.nd;cases r with
    | take p q =>
     obtain ⟨k,ek,M⟩:=yAT h1 (x.s.hs.getD (sx q) 0);have hv:inB (bx.getD k 0):=by rw [getD_eq_getElem?_getD,List.getElem?_eq_getElem M];exact wb _ (getElem_mem M)
     refine ⟨.tup [.str "seen",.int x.s.t,.int (k:Nat),.int (bx.getD k 0)],⟨bx,sp,en,xs1++{ x with s:=⟨x.s.t+1,x.s.hs.set (sx p) (bx.getD k 0),x.s.sd,x.s.dd,yfa x.s.sn k (bx.getD k 0) (sp.getD k 0)⟩ }::xs2⟩,fun h g H own X=>A X fun as1 a as2 l X=>?_,B ⟨n.ds,n.le,n.bf,n.nf.put M (by omega),n.due,(fun _=>⟨rws,P,I,G,⟨z,c,hz⟩,R.hs.set hv,R.dd,R.ln⟩),n.dl,n.rl⟩ rfl,⟨"seen",[(x.s.t:Nat),(k:Nat),bx.getD k 0],rfl⟩,by simp,fun _ _ _=>ypE rfl rfl rfl (by rw [cx,fr];unfold cu;dsimp only;rw [if_neg (by rw [o];decide),yDV fr];simp only [Bool.false_eq_true,if_false];omega)⟩;obtain ⟨h',E,C⟩:=yGG X l K h1 I u o n.nf fr O Z F U ek M;exact ⟨h',_,E,C⟩
    | wait =>
     refine ⟨.tup [.str "asleep",.int x.s.t],⟨bx,sp,en,xs1++{ x with sl:=true }::xs2⟩,fun h g H own X=>A X fun as1 a as2 l X=>?_,B ⟨n.ds,n.le,n.bf,n.nf,n.due,(fun _=>⟨rws,P,I,G,R⟩),n.dl,n.rl⟩ rfl,⟨"asleep",[(x.s.t:Nat)],rfl⟩,by simp,fun _ _ _=>ypE rfl rfl rfl (yxS o Y)⟩;obtain ⟨h',E,C⟩:=yDW X l K h1 I u o n.nf fr O Z U;exact ⟨h',_,E,C⟩
    | throw p q =>
     obtain ⟨rows',du,wN⟩:=n.next u n.bf;refine ⟨.tup [.str "fell",.int x.s.t],⟨bx,sp,en++[yDX xs1.length x (.tup [.str "fell",.str p,.int (x.s.hs.getD (sx q) 0)]) (ls.map ydr) [] x.bf],xs1++{ x with nth:=x.nth+1,rows:=rows',s:=S0 x.bf }::xs2⟩,fun h g H own X=>A X fun as1 a as2 l X=>?_,⟨rfl,K,wb,upd wN,fun e D=>?_,by show (en++_).length=_;rw [length_append,wn];simp;omega⟩,⟨"fell",[(x.s.t:Nat)],rfl⟩,by simp,fun _ _ _=>?_⟩
     .obtain ⟨h',c',E,C⟩:=yGI X l K h1 I u o n.nf fr O Z F U eL du (by omega);rw [l] at C;exact ⟨h',_,E,C⟩
     .rcases List.mem_append.mp D with D|D
      .exact we e D
      .rw [List.mem_singleton.mp D];exact ⟨_,_,"fell",[.str p,.int _],ls,[],x.bf,rfl,fun t ht=>by simp at ht;rcases ht with rfl|rfl<;>first|exact .inl ⟨_,rfl⟩|exact .inr ⟨_,rfl⟩⟩
     .have:=ytE (f:=id) (bf:=x.bf) (bx:=bx) (bx':=bx) (sp:=sp) (sp':=sp) (en:=en) (en':=en++[yDX xs1.length x (.tup [.str "fell",.str p,.int (x.s.hs.getD (sx q) 0)]) (ls.map ydr) [] x.bf]) (xs1:=xs1) (xs2:=xs2) (fun _=>rfl) (fun _ _ _=>ywA) rfl u o du Y
      rwa [List.map_id] at this
    | lay =>
     subst c;have e0:x.s.sd=[]:=hz;obtain ⟨d,ed⟩:∃ d,x.s.dd=[d]:=by
      have:=R.ln;rw [e0] at this
      match h:x.s.dd,this with
      | [d],_=>exact ⟨d,rfl⟩
     obtain ⟨m,rfl,nd,hb⟩:=R.dd d (by rw [ed];simp);have ml:m.length<64:=by
      have:=yiC bx.length _ nd fun k M=>by obtain ⟨p,hp,rfl⟩:=List.mem_map.mp M;exact (hb p hp).1
      rw [length_map] at this;omega
     obtain ⟨lw,eW,kW,lW,_⟩:=yoj ml nd;have hlw:∀ p∈lw,p.1<bx.length/\inB p.2:=fun p hp=>by obtain ⟨q,hq,rfl⟩:=kW p hp;exact hb q hq
     obtain ⟨rows',du,wN⟩:=n.next u R.hs;refine ⟨.tup [.str "done",.int x.s.t],⟨ywo bx lw,yqo sp lw,en++[yDX xs1.length x (.tup [.str "done"]) (ls.map ydr) (lw.map ydr) x.s.hs],(xs1++{ x with nth:=x.nth+1,bf:=x.s.hs,rows:=rows',s:=S0 x.s.hs }::xs2).map (ydL (yqo sp lw))⟩,fun h g H own X=>A X fun as1 a as2 l X=>?_,⟨ypx _ _,by rw [ykQ];exact K,yxR wb fun p hp=>(hlw p hp).2,fun y N=>?_,fun e D=>?_,by show (en++_).length=_;rw [length_append,wn,map_map,show ((fun x:HD=>x.nth) ∘ ydL (yqo sp lw))=fun x=>x.nth from funext fun y=>ywB];simp;omega⟩,⟨"done",[(x.s.t:Nat)],rfl⟩,by simp,fun _ _ _=>ytE yIF (fun _ _=>yAV) (by unfold ydL;rw [if_neg (by unfold asB;simp [o])]) u o du Y⟩
     .obtain ⟨h',L,E,C,_⟩:=yGJ X l K h1 I u o n.nf fr O Z ed eW (fun p hp=>(hlw p hp).1) eL du (by omega) fun y N=>by
       have:y∈xs1++x::xs2:=by
        rcases List.mem_append.mp N with z|z
        .exact mem_append_left _ z
        .exact mem_append_right _ (mem_cons_of_mem _ z)
       exact ⟨(T y this).due,(T y this).nf⟩
      rw [l] at C;exact ⟨h',_,E,C⟩
     .obtain ⟨y',hy',e'⟩:=List.mem_map.mp N;rw [<- e'];exact (upd wN y' hy').wake
     .rcases List.mem_append.mp D with D|D
      .exact we e D
      .rw [List.mem_singleton.mp D];exact ⟨_,_,"done",[],ls,lw,x.s.hs,rfl,fun t ht=>by cases ht⟩
    | _=>cases U
 .refine ⟨.tup [.str "idle"],⟨bx,sp,en,xs1++x::xs2⟩,fun h g H own X=>A X fun as1 a as2 l X=>?_,⟨rfl,K,wb,T,we,wn⟩,⟨"idle",[],rfl⟩,rfl,fun y N st'=>?_⟩
  .exact ⟨h,_,yGE X l (eq_false st),X⟩
  .rw [getElem?_append_right (Nat.le_refl _),sub_self] at N;cases N;exact absurd st' st
end
section
variable {W:Nat}{h:AH}
noncomputable def Fl:Nat->PV->Prop
 | _,.int _=>True
 | _,.str _=>True
 | n+1,.tup xs=>∀ x∈xs,Fl n x
 | n+1,.lst xs=>∀ x∈xs,Fl n x
 | _,_=>False
theorem ypF:∀ {xs:List PV},(∀ x∈xs,f x x=some true)->yhw f xs xs=some true
 | [],_=>rfl
 | x::xs,H=>yDY (H x mem_cons_self) (ypF fun x h=>H x (mem_cons_of_mem _ h))
theorem yAX:∀ n {k:Nat}{x:PV},Fl n x->n<k->eqP k h x x=some true
 | 0,k+1,x,F,_=>by cases x<;>first|exact yDZ|exact yEa|exact False.elim F
 | n+1,k+2,x,F,c=>by
  cases x with
  | tup xs=>exact yAH (ypF fun x b=>yAX n (F x b) (by omega))
  | lst xs=>exact yAI (ypF fun x b=>yAX n (F x b) (by omega))
  | _=>first|exact yDZ|exact yEa|exact False.elim F
theorem ypG (F:∀ x∈xs,Fl n x) (d:n<40):ytZ (.lst xs) (.lst xs) h=some (.bl false,h)/\yzD (.lst xs) (.lst xs) h=some (.bl true,h)/\ytZ (.tup xs) (.tup xs) h=some (.bl false,h):=by
 have e:yhw (eqP 40 h) xs xs=some true:=ypF fun x c=>yAX n (F x c) d
 have b:pairE (eqP 40 h) h (.lst xs) (.lst xs)=some true:=by unfold pairE ybM;simp_all
 have f:pairE (eqP 40 h) h (.tup xs) (.tup xs)=some true:=by unfold pairE;dsimp only;rw [e];simp
 exact ⟨by unfold ytZ;rw [b];rfl,by unfold yzD;rw [b],by unfold ytZ;rw [f];rfl⟩
theorem TO.fl {i:Nat}{S S':St}{t:PV}(T:TO W S i t S'):∃ xs,t=.tup xs/\∀ x∈xs,Fl 0 x:=by
 obtain ⟨k,ns,e⟩:=T.k;refine ⟨_,e,fun x a=>?_⟩;rcases mem_cons.mp a with rfl|a
 .trivial
 .obtain ⟨i,_,rfl⟩:=List.mem_map.mp a;trivial
end
def awB (x:HD):Bool:=decide (stX x = "awake")
def clm (S:St):Bool:=!(S.xs.any awB)
inductive Rd (W:Nat):List Nat->St->List PV->St->Prop
 | nil {S:St}:Rd W [] S [] S
 | skip {i:Nat}{l:List Nat}{S S':St}{us:List PV}{x:HD}:S.xs[i]?=some x->awB x=false->Rd W l S us S'->Rd W (i::l) S us S'
 | go {i:Nat}{l:List Nat}{S S1 S':St}{us:List PV}{t:PV}{x:HD}:S.xs[i]?=some x->awB x=true->TO W S i t S1->Rd W l S1 us S'->Rd W (i::l) S (.tup [.int (i:Nat),t]::us) S'
inductive Cal (W:Nat):Nat->St->List PV->St->Prop
 | stop {S:St}:clm S=true->Cal W 0 S [] S
 | step {n:Nat}{S S1 S':St}{us vs:List PV}:clm S=false->Rd W (List.range S.xs.length) S us S1->Cal W n S1 vs S'->Cal W (n+1) S (us++vs) S'
section
variable {W:Nat}
theorem yAY (h1:1<=W) (b:W<=16):∀ l S,SW W S->S.xs.length<=8->(∀ i∈l,i<S.xs.length)->∃ us S',Rd W l S us S'/\SW W S'/\S'.xs.length=S.xs.length/\Phi S'+us.length<=Phi S/\(us=[]->∀ i∈l,∀ x,S.xs[i]?=some x->awB x=false)
 | [],S,w,_,_=>⟨[],S,.nil,w,rfl,Nat.le_refl _,fun _ _ z=>by cases z⟩
 | i::l,S,w,f,hl=>by
  have j:=hl i mem_cons_self;have g:=List.getElem?_eq_getElem j;cases e:awB _ with
  | false =>
   obtain ⟨us,S',R,h,l',p,q⟩:=yAY h1 b l S w f fun k z=>hl k (mem_cons_of_mem _ z)
   refine ⟨us,S',.skip g e R,h,l',p,fun z k c x m=>?_⟩;rcases mem_cons.mp c with rfl|c
   .simp_all
   .exact q z k c x m
  | true =>
   obtain ⟨t,n,T⟩:=ytF w h1 b f j;obtain ⟨us,S',R,h,l',p,q⟩:=yAY h1 b l n T.w (by rw [T.l];exact f) fun k z=>by rw [T.l];simp_all
   have d:=T.d _ g (of_decide_eq_true e);exact ⟨_,S',.go g e T R,h,by rw [l',T.l],by grind,fun z=>by cases z⟩
theorem yEt (h:clm S=false):∃ i,i<S.xs.length/\∃ x,S.xs[i]?=some x/\awB x=true:=by unfold clm at h;rw [Bool.not_eq_false'] at h;obtain ⟨x,a,e⟩:=List.any_eq_true.mp h;obtain ⟨i,b,c⟩:=getElem_of_mem a;exact ⟨i,b,x,by simp_all,e⟩
theorem yxT (h1:1<=W) (b:W<=16):∀ k S,Phi S<=k->SW W S->S.xs.length<=8->∃ n us S',Cal W n S us S'/\SW W S'/\S'.xs.length=S.xs.length/\n<=k/\us.length<=k/\clm S'=true
 | k,S,o,w,f=>by
  cases c:clm S with
  | true=>exact ⟨0,[],S,.stop c,w,rfl,zero_le _,zero_le _,c⟩
  | false =>
   obtain ⟨us,j,R,g,e,p,q⟩:=yAY h1 b _ S w f fun i d=>List.mem_range.mp d
   have m:=List.length_pos_iff.mpr fun z=>by obtain ⟨i,d,x,h,r⟩:=yEt c;have:=q z i (List.mem_range.mpr d) x h;simp_all
   match k with
   | 0=>simp_all
   | k+1 =>
    obtain ⟨n,vs,S',C,l,l',s,hv,c'⟩:=yxT h1 b (k+1-us.length) j (by omega) g (by rw [e];exact f);exact ⟨n+1,_,S',.step c R C,l,by rw [l',e],by omega,by grind,c'⟩
termination_by k=>k
end
section
variable {h:AH}{g:HC}{W n:Nat}{S S':St}{as:List (Nat×Lc)}{own:List (Nat×Nd)}
theorem ytG (X:HH h g W S.bx S.sp S.en as S.xs own) (e:S.xs[k]?=some x):∃ as1 a as2 xs1 xs2,HH h g W S.bx S.sp S.en (as1++a::as2) (xs1++x::xs2) own/\as1.length=k/\xs1.length=k:=by
 obtain ⟨b,i⟩:=List.getElem?_eq_some_iff.mp e;obtain ⟨xs1,y,xs2,f,c⟩:=yhO b;obtain ⟨as1,a,as2,rfl,d⟩:=yhO (by rw [X.ly.len];exact b);have:y=x:=by simp_all
 subst this;rw [f] at X;exact ⟨as1,a,as2,xs1,xs2,X,d,c⟩
theorem yhP {k:Nat}{x:HD}(X:HH h g W S.bx S.sp S.en as S.xs own) (e:S.xs[k]?=some x):ybe [.loc g.H,.int k] h=some (.str (stX x),h):=by obtain ⟨as1,a,as2,xs1,xs2,c,b,d⟩:=ytG X e;rw [<- b];exact yxI c (by omega)
theorem yAZ (X:HH h g W S.bx S.sp S.en as S.xs own):ybd [.loc g.H] h=some (.int S.xs.length,h):=by
 obtain ⟨d,c,a,b⟩:=ycY (X.at_.get 0 rfl);have l:=yie (X.at_.get 3 rfl);rw [length_map,length_map,X.ly.len] at l;unfold ybd;rw [yo];show ob (yO _ [.val _] h) fnK=_
 simpa [a,l]
theorem yBa m:yiS 0 m=(List.range m).map fun k=>.int k:=by unfold yiS;simp
theorem ykV (X:HH h g W S.bx S.sp S.en as S.xs own) (e:ye 0 ρ h=some (.loc g.H,h)) (b:S.xs.length<=8):yhI (yb (yg 15 "hands" ybd (ye 0) yh) yh) ρ h=some ((List.range S.xs.length).map fun k=>.int k,h):=by
 have o:=X.at_.get 0 rfl;have q:=yAZ X;rw [<- yBa];refine yoY (j:=S.xs.length) ?_ (by omega) (by omega)
 simpa [ycm,e,yD (m:="hands") o (by rfl'),q]
theorem all_map {Y:Type}{f:Y->Bool}{l:List Y}:ytW [.lst (l.map fun a=>.bl (f a))] h=some (.bl (l.all f),h):=by
 have:∀ l:List Y,ygv (l.map fun a=>PV.bl (f a))=some (l.map f):=fun l=>by
  induction l with
  | nil=>rfl
  | cons a l ih =>
   show ygv (PV.bl _::l.map _)=some (f a::l.map f);unfold ygv;simp_all
 unfold ytW ybM;simp_all
theorem yxU {Y b:Type}{l:List Y}{f:Y->b}{d:b}:(List.range l.length).map (fun k=>(l.map f).getD k d)=l.map f:=List.ext_getElem? fun k=>by
 rw [getElem?_map]
 by_cases a:k<l.length
 .rw [List.getElem?_range a,getElem?_map,List.getElem?_eq_getElem a,map_some,getD_eq_getElem?_getD,getElem?_map,List.getElem?_eq_getElem a];rfl
 simp_all
theorem ywC:oNe (.str (stX x)) (.str "awake") h=some (.bl !(awB x),h)/\oEq (.str (stX x)) (.str "awake") h=some (.bl (awB x),h):=by
 unfold awB
 by_cases e:stX x = "awake"
 .rw [e];exact ⟨rfl,rfl⟩
 .constructor<;>symm
theorem calm_eq (X:HH h g W S.bx S.sp S.en as S.xs own) (i:S.xs.length<=8):ydp [.loc g.H] h=some (.bl (clm S),h):=by
 have o:=X.at_.get 0 rfl;have d:=ykV (ρ:=[.val _]) X rfl i;have e:=ygi (inn:=ygU [0] [.val _]) _ (fun k=>(S.xs.map _).getD k _) (ts:=List.range S.xs.length) fun k c=>by
  have c:=List.mem_range.mp c;have q:=yhP X (List.getElem?_eq_getElem c);rw [show (S.xs.map fun x=>PV.bl !(awB x)).getD k .non=.bl _ by rw [getD_eq_getElem?_getD,getElem?_map,List.getElem?_eq_getElem c];rfl];have z:=ywC (h:=h) (x:=S.xs[k]).1;show xOp oNe (yg 15 "state" ybe (ye 1) (yb (ye 0) yh)) (xC (.str "awake")) [.val (.int k),.val (.loc g.H)] h=_
  simpa [ycm,yD (m:="state") o (by rfl'),q,z]
 rw [yxU] at e;have a:=all_map (h:=h) (f:=fun x=>!awB x) (l:=S.xs);rw [show S.xs.all _=clm S by unfold clm;simp [List.all_eq_not_any_not]] at a;have l:(((List.range S.xs.length).map fun k:Nat=>PV.int k).length<=100000)=True:=eq_true (by simp;omega);unfold ydp;rw [yo];show ob (yO _ [.val _] h) fnK=_
 simpa [d,l,e,a]
end
section
variable {h:AH}{g:HC}{W n:Nat}{S S':St}{as:List (Nat×Lc)}{own:List (Nat×Nd)}
theorem yok {Y:Type} f P g:∀ {ts:List Y},(∀ t∈ts,c (inn (f t)) h=some (P t,h))->(∀ t∈ts,e (inn (f t)) h=some (g t,h))->yxb c e inn (ts.map f) h=some ((ts.filter P).map g,h)
 | [],_,_=>rfl
 | t::ts,d,b=>by
  have a:=yok f P g (fun t h=>d t (mem_cons_of_mem _ h)) fun t h=>b t (mem_cons_of_mem _ h)
  show ob _ _=_;rw [d t mem_cons_self,ybo,List.filter_cons];cases P t with
  | false=>exact a
  | true =>
   rw [b t mem_cons_self,ybo];rw [a];rfl
def cnt (S:St):Nat:=((List.range S.xs.length).filter fun k=>(S.xs.map awB).getD k false).length
theorem yBb a:(S.xs.map awB).getD k false=awB S.xs[k]:=by rw [getD_eq_getElem?_getD,getElem?_map,List.getElem?_eq_getElem a];rfl
theorem yBc:((cnt S:Int)=0)=(clm S=true):=by
 refine propext ⟨fun e=>?_,fun e=>?_⟩
 .cases c:clm S with
  | true=>rfl
  | false =>
   obtain ⟨i,b,x,d,f⟩:=yEt c;have e:cnt S=0:=by omega
   unfold cnt at e;rw [List.length_eq_zero_iff,List.filter_eq_nil_iff] at e;refine absurd ?_ (e i (List.mem_range.mpr b));rw [yBb b];rw [List.getElem?_eq_getElem b] at d;rw [Option.some.inj d];exact f
 .have:cnt S=0:=by unfold cnt;rw [List.length_eq_zero_iff,List.filter_eq_nil_iff];intro k a;have a:=List.mem_range.mp a;rw [yBb a];unfold clm at e;rw [Bool.not_eq_true',List.any_eq_false] at e;exact e _ (getElem_mem a)
  omega
theorem ykW (X:HH h g W S.bx S.sp S.en as S.xs own) (d:S.xs.length<=8):ybX [.loc g.H] h=some (.int (cnt S),h):=by
 have o:=X.at_.get 0 rfl;have f:=ykV (ρ:=[.val _]) X rfl d;have e:=yok (e:=ye 0) (inn:=ygU [0] [.val _]) _ (fun k=>(S.xs.map awB).getD k false) _ (ts:=List.range S.xs.length) (fun k b=>by
  have b:=List.mem_range.mp b;have q:=yhP X (List.getElem?_eq_getElem b);rw [yBb b];have z:=(ywC (h:=h) (x:=S.xs[k])).2;show yt (xOp oEq (yg 15 "state" ybe (ye 1) (yb (ye 0) (yh))) (xC (.str "awake"))) [.val (.int k),.val (.loc g.H)] h=_
  simpa [ycm,yD (m:="state") o (by rfl'),q,z]) fun _ _=>rfl
 have l:(((List.range S.xs.length).map fun k:Nat=>PV.int k).length<100000)=True:=eq_true (by simp;omega);have i:∀ h,ybW [.lst (((List.range S.xs.length).filter _).map fun k:Nat=>PV.int k)] h=some (.int (cnt S),h):=fun h=>by rw [ymf,length_map];rfl
 unfold ybX;rw [yo];show ob (yO _ [.val _] h) fnK=_;have c:yfO (yhI (yb (yg 15 "hands" ybd (ye 0) (yh)) (yh))) [0] (yt (xOp (oEq) (yg 15 "state" ybe (ye 1) (yb (ye 0) (yh))) (xC (.str "awake")))) (ye 0) [.val (.loc g.H)] h=some (.lst (((List.range S.xs.length).filter fun k=>(S.xs.map awB).getD k false).map fun k:Nat=>PV.int k),h):=by unfold yfO;rw [f,ybo,if_pos (of_eq_true l),e,ybo]
 simpa [c,i,-ymf]
theorem Rd.l {l:List Nat}{us:List PV}(R:Rd W l S us S'):S'.xs.length=S.xs.length:=by
 induction R with
 | nil=>rfl
 | skip _ _ _ ih=>exact ih
 | go _ _ T _ ih=>rw [ih,T.l]
noncomputable def rdS (g:HC) (acc:List PV) (v:PVar):PSt:=[.val (.loc g.H),.own (.lst acc),v]
theorem yEu {S S':St}(R:Rd W l S us S'):∀ {h:AH}{as:List (Nat×Lc)}(acc:List PV) (v:PVar),HH h g W S.bx S.sp S.en as S.xs own->acc.length+us.length<=90000->∃ h' as' v',ygc (yv 2) rdB (l.map fun k:Nat=>.int (k:Nat)) (rdS g acc v) h=some (.nx (rdS g (acc++us) v'),h')/\HH h' g W S'.bx S'.sp S'.en as' S'.xs own:=by
 induction R with
 | nil=>exact fun {h as} acc v X _=>⟨h,as,v,by rw [append_nil];rfl,X⟩
 | @skip i l S S' us x ex ea R ih =>
  intro h as acc v X hl;obtain ⟨h',as',v',q,X'⟩:=ih acc (.val (.int (i:Nat))) X hl;refine ⟨h',as',v',?_,X'⟩;have o:h[g.H]?=some (yqh g.nu g.ma g.cr g.en):=X.at_.get 0 rfl;have s:=yhP X ex;have z:=(ywC (h:=h) (x:=x)).2;rw [ea] at z;have st:rdB (rdS g acc (.val (.int (i:Nat)))) h=some (.nx (rdS g acc (.val (.int (i:Nat)))),h):=by
   clear X X' q R;unfold rdB rdS
   simpa [ycm,yD (m:="state") o (by rfl'),s,z]
  rw [map_cons,ymE rfl (show rdB (rdS g acc (.val (.int (i:Nat)))) h=_ from st),q]
 | @go i l S S1 S' us t x ex ea T R ih =>
  intro h as acc v X hl;rw [length_cons] at hl;obtain ⟨h1,as1,q1,X1⟩:=T.t h g as own X;obtain ⟨h',as',v',q,X'⟩:=ih (acc++[.tup [.int (i:Nat),t]]) (.val (.int (i:Nat))) X1 (by rw [length_append];show acc.length+1+_<=_;omega);refine ⟨h',as',v',?_,X'⟩;have o:h[g.H]?=some (yqh g.nu g.ma g.cr g.en):=X.at_.get 0 rfl;have s:=yhP X ex;have z:=(ywC (h:=h) (x:=x)).2;rw [ea] at z;have s2:yeV 1 (yen (yb (ye 2) (yb (yg 15 "turn" yC (ye 0) (yb (ye 2) (yh))) (yh)))) (rdS g acc (.val (.int (i:Nat)))) h=some (.nx (rdS g (acc++[.tup [.int (i:Nat),t]]) (.val (.int (i:Nat)))),h1):=by
   clear X X' X1 q R T;unfold rdS;rw [yjz rfl]
   simpa [ycm,yD (m:="turn") o (by rfl'),q1]
   rw [if_pos (by omega)]
  have st:rdB (rdS g acc (.val (.int (i:Nat)))) h=some (.nx (rdS g (acc++[.tup [.int (i:Nat),t]]) (.val (.int (i:Nat)))),h1):=by
   have c:yt (xOp (oEq) (yg 15 "state" ybe (ye 0) (yb (ye 2) (yh))) (xC (.str "awake"))) (rdS g acc (.val (.int (i:Nat)))) h=some (true,h):=by
    clear X X' X1 q R T s2;unfold rdS
    simpa [ycm,yD (m:="state") o (by rfl'),s,z]
   unfold rdB;rw [yzn,c,ybo,if_pos rfl,s2]
  rw [map_cons,ymE rfl (show rdB (rdS g acc (.val (.int (i:Nat)))) h=_ from st),q,append_assoc];rfl
def rdF:XS:=yiV (yhI (yb (yg 15 "hands" ybd (ye 0) (yh)) (yh))) (yv 2) rdB
theorem yol (hc:∀ {h:AH}{S:St}{as:List (Nat×Lc)}{acc:List PV}{v:PVar},HH h g W S.bx S.sp S.en as S.xs own->S.xs.length<=8->c (rdS g acc v) h=some (!(clm S),h)):∀ {n:Nat}{S S':St}{us:List PV}{h:AH}{as:List (Nat×Lc)}{k:Nat}(acc:List PV) (v:PVar),Cal W n S us S'->S.xs.length<=8->n<k->HH h g W S.bx S.sp S.en as S.xs own->acc.length+us.length<=90000->∃ h' as' v',whl c rdF k (rdS g acc v) h=some (.nx (rdS g (acc++us) v'),h')/\HH h' g W S'.bx S'.sp S'.en as' S'.xs own
 | _,S,_,_,h,as,k+1,acc,v,.stop e,h8,_,X,_=>⟨h,as,v,by unfold whl;rw [hc X h8,ybo,e,append_nil];rfl,X⟩
 | _,S,_,_,h,as,k+1,acc,v,.step (us:=us) (vs:=vs) e R C,h8,hn,X,hl=>by
  rw [length_append] at hl;obtain ⟨h1,as1,v1,q1,X1⟩:=yEu R acc v X (by omega);obtain ⟨h',as',v',q,X'⟩:=yol hc (k:=k) (acc++us) v1 C (by rw [R.l];exact h8) (by omega) X1 (by rw [length_append];omega);refine ⟨h',as',v',?_,X'⟩;have f:rdF (rdS g acc v) h=some (.nx (rdS g (acc++us) v1),h1):=by unfold rdF;rw [ynJ,ykV X rfl h8,ybo,q1]
  unfold whl;rw [hc X h8,ybo,e,if_pos (show (!false)=true from rfl),f,ybo,<- append_assoc];exact q
theorem yEv {h:AH}{S:St}{as:List _}(X:HH h g W S.bx S.sp S.en as S.xs own) (b:S.xs.length<=8):yjs (yt (yJ ydp (yb (ye 0) yh))) (rdS g a v) h=some (!clm S,h):=by
 have q:=calm_eq X b;unfold rdS
 simpa [q]
theorem yBd {h:AH}{S:St}{as:List _}(X:HH h g W S.bx S.sp S.en as S.xs own) (b:S.xs.length<=8):yt (xOp oGt (yJ ybX (yb (ye 0) yh)) (xC (.int 0))) (rdS g a v) h=some (!clm S,h):=by
 have q:=ykW X b;have z:=yBc (S:=S);unfold rdS;cases c:clm S with
 | true =>
  have e:((0:Int)<cnt S)=False:=eq_false (by simp_all)
  simpa [q,e]
 | false =>
  have e:((0:Int)<cnt S)=True:=eq_true (by grind)
  simpa [q,e]
theorem ymH (C:Cal W n S us S') (X:HH h g W S.bx S.sp S.en as S.xs own) (b:S.xs.length<=8) (f:n<=90000) (e:us.length<=90000):∃ h' a,ygF [.loc g.H] h=some (.lst us,h')/\HH h' g W S'.bx S'.sp S'.en a S'.xs own:=by obtain ⟨h',a,i,q,d⟩:=yol yEv (k:=100000) [] .no C b (by omega) X (by simp_all);refine ⟨h',a,?_,d⟩;unfold ygF;rw [yo];show ob (ym _ (ym (ydy _ _ rdF) _) _ h) fnK=_;rw [yeB,show ygb _ 1 _ h=some (.nx (rdS g [] .no),h) from rfl,ybo,yib,yeB,show ∀ c,ydy _ c rdF _ h=whl c rdF _ _ h from fun _=>rfl,q,ybo];rfl
theorem ytH (C:Cal W n S us S') (X:HH h g W S.bx S.sp S.en as S.xs own) (b:S.xs.length<=8) (f:n<=90000) (e:us.length<=90000):∃ h' a,ydE [.loc g.H] h=some (.lst us,h')/\HH h' g W S'.bx S'.sp S'.en a S'.xs own:=by obtain ⟨h',a,i,q,d⟩:=yol yBd (k:=100000) [] .no C b (by omega) X (by show 0+_<=_;omega);refine ⟨h',a,?_,d⟩;unfold ydE;rw [yo];show ob (ym _ (ym (ydy _ _ rdF) _) _ h) fnK=_;rw [yeB,show ygb _ 1 _ h=some (.nx (rdS g [] .no),h) from rfl,ybo,yib,yeB,show ∀ c,ydy _ c rdF _ h=whl c rdF _ _ h from fun _=>rfl,q,ybo];rfl
end
def yGR (x:HD):List PV:=(sortI (sK x.s.sn) (sA x.s.sn)).getD []
def hvV (x:HD):PV:=.lst [.str (stX x),.int (x.nth:Nat),iV x.s.hs,.lst (yGR x)]
def lkV (S:St):List PV:=[iV S.bx,iV S.sp,.lst S.en]++S.xs.map hvV
theorem yxV {Y:Type}{n:Nat}{f:Y->PV}{l:List Y}(H:∀ x∈l,Fl n (f x)):Fl (n+1) (.lst (l.map f)):=fun x c=>by obtain ⟨i,b,rfl⟩:=List.mem_map.mp c;exact H i b
theorem yBr:Fl n (.int i):=by cases n<;>trivial
theorem yHS:Fl n (.str i):=by cases n<;>trivial
theorem ykX:Fl (n+1) (iV l):=yxV fun _ _=>yBr
theorem ykY {l:List _}:Fl (n+2) (.lst (l.map ydr)):=yxV fun x c=>by intro y b;simp at b;rcases b with rfl|rfl<;>exact yBr
theorem EnOk.fl (E:EnOk e):Fl 3 e:=by
 obtain ⟨i,j,k,ts,a,b,c,rfl,g⟩:=E;intro x f;simp only [mem_cons,not_mem_nil,or_false] at f;rcases f with rfl|rfl|rfl|rfl|rfl|rfl
 .exact yBr
 .exact yBr
 .intro y d;rcases mem_cons.mp d with rfl|d
  .exact yHS
  .rcases g y d with ⟨s,rfl⟩|⟨s,rfl⟩<;>trivial
 .exact ykY
 .exact ykY
 .exact ykX
section
variable {h:AH}{g:HC}{W:Nat}{S:St}{as:List (Nat×Lc)}{own:List (Nat×Nd)}
theorem SW.saw (w:SW W S) (c:W<=16) {x:HD}(a:x∈S.xs):∃ ls:List _,sortI (sK x.s.sn) (sA x.s.sn)=some (ls.map ydr)/\yGR x=ls.map ydr:=by
 have F:=(w.x x a).nf;have:=yiC W _ F.nd fun k b=>by obtain ⟨p,hp,rfl⟩:=List.mem_map.mp b;exact F.hb p hp
 rw [length_map] at this;obtain ⟨ls,e,_⟩:=yoj (by omega) F.nd;exact ⟨ls,e,by unfold yGR;rw [e];rfl⟩
theorem SW.fl (w:SW W S) (c:W<=16):∀ x∈lkV S,Fl 4 x:=fun x a=>by
 rcases List.mem_append.mp a with a|a
 .simp only [mem_cons,not_mem_nil,or_false] at a;rcases a with rfl|rfl|rfl
  .exact ykX
  .exact ykX
  .exact fun e d=>(w.e e d).fl
 .obtain ⟨y,b,rfl⟩:=List.mem_map.mp a;obtain ⟨ls,_,e⟩:=w.saw c b;intro z hz;rw [e] at hz;simp only [mem_cons,not_mem_nil,or_false] at hz;rcases hz with rfl|rfl|rfl|rfl
  .exact yHS
  .exact yBr
  .exact ykX
  .exact ykY
theorem SW.en (w:SW W S) (a:S.xs.length<=8):S.en.length<=48:=by have:=ytD w.x;rw [w.n];omega
theorem yBe (X:HH h g W S.bx S.sp S.en as S.xs own) (w:SW W S) (f:S.xs.length<=8):yce [.loc g.H] h=some (.lst S.en,h):=ywq X (fun e d=>by obtain ⟨i,j,k,ts,a,b,c,rfl,_⟩:=w.e e d;exact ⟨_,_,_,_,_,_,rfl⟩) (by have:=w.en f;omega)
theorem ytI (X:HH h g W S.bx S.sp S.en as S.xs own) (w:SW W S) (j:W<=16):∀ (l:List Nat) (b:List PV) (v:PVar),(∀ k∈l,k<S.xs.length)->b.length+l.length<=1000->∃ f,ygc (yv 2) lkB (l.map fun k:Nat=>.int (k:Nat)) (rdS g b v) h=some (.nx (rdS g (b++l.map fun k=>(S.xs.map hvV).getD k .non) f),h)
 | [],b,v,_,_=>⟨v,by show some _=some (Out.nx (rdS g (b++[]) v),h);rw [append_nil]⟩
 | k::l,b,v,n,hl=>by
  rw [length_cons] at hl;have e:=n k mem_cons_self;have s:=List.getElem?_eq_getElem e;obtain ⟨f,q⟩:=ytI X w j l (b++[hvV S.xs[k]]) _ (fun k z=>n k (mem_cons_of_mem _ z)) (by rw [length_append];show b.length+1+_<=_;omega);refine ⟨f,?_⟩;have o:=X.at_.get 0 rfl;obtain ⟨ls,t,x⟩:=w.saw j (mem_of_getElem? s);obtain ⟨as1,a,as2,xs1,xs2,d,u,y⟩:=ytG X s;have l:as1.length=xs1.length:=by omega
  have i:=yxI d l;have r2:=yEc d l;have p:=yEd d l;have r:=yIy d l t;rw [u] at i r2 p r;have st:lkB (rdS g b (.val (.int (k:Nat)))) h=some (.nx (rdS g (b++[hvV S.xs[k]]) (.val (.int (k:Nat)))),h):=by
   unfold lkB;rw [yjz rfl];unfold rdS;clear X d q w
   simpa [ycm,yD (m:="state") o (by rfl'),yD (m:="which") o (by rfl'),yD (m:="slots") o (by rfl'),yD (m:="saw") o (by rfl'),i,r2,p,r]
   rw [if_pos (by omega),<- x];rfl
  rw [map_cons,ymE rfl (st),q,append_assoc,map_cons,show (S.xs.map hvV).getD k .non=hvV S.xs[k] by simp_all];rfl
theorem ygK (X:HH h g W S.bx S.sp S.en as S.xs own) (w:SW W S) (i:W<=16) (b:S.xs.length<=8):ybZ [.loc g.H] h=some (.lst (lkV S),h):=by
 have o:=X.at_.get 0 rfl;have j:=yEb X;have d:=yAJ X;have e:=yBe X w b;obtain ⟨c,q⟩:=ytI X w i _ [iV S.bx,iV S.sp,.lst S.en] .no (fun k z=>List.mem_range.mp z) (by rw [List.length_range];show 3+_<=_;omega);rw [yxU] at q;have f:yiV (yhI (yb (yg 15 "hands" ybd (ye 0) yh) yh)) (yv 2) lkB (rdS g [iV S.bx,iV S.sp,.lst S.en] .no) h=some (.nx (rdS g (lkV S) c),h):=by rw [ynJ,ykV X rfl b,ybo,q];rfl
 have a1:ygb (yeU (yb (yg 15 "boxes" ydo (ye 0) yh) (yb (yg 15 "stamps" ycS (ye 0) yh) (yb (yg 15 "journal" yce (ye 0) yh) yh)))) 1 [.val (.loc g.H),.no,.no] h=some (.nx (rdS g [iV S.bx,iV S.sp,.lst S.en] .no),h):=by
  simpa [ycm,yD (m:="boxes") o (by rfl'),yD (m:="stamps") o (by rfl'),yD (m:="journal") o (by rfl'),j,d,e]
  rfl
 unfold ybZ;rw [yo];show ob (ym _ _ [.val _,.no,.no] h) fnK=_;rw [yeB,a1,ybo,yib,yeB,f,ybo];rfl
end
theorem yEw (b:nu n):(tI n).length<=20:=str_len b.1 (by decide) (Int.lt_trans b.2 ysJ)
section
variable {h:AH}{ρ:PSt}{acc z:Str}
theorem yGS (b:e ρ h=some (.str z,h)) (hl:acc.length+z.length<=100000):yk e r ρ h acc=r ρ h (acc++z):=by unfold yk;rw [b];show (if _ then _ else _)=_;rw [if_pos (by rw [yfl];exact hl)]
theorem yGT (hl:acc.length<=100000):ydb ρ h acc=some (acc,h):=if_pos hl
theorem yIG (b:e ρ h=some (.str z,h)) (hl:z.length<=100000):xFv e ρ h=some (.str z,h):=by unfold xFv;rw [b];show (if _ then _ else _)=_;rw [if_pos hl]
theorem yIH (d:e ρ h=some (.int n,h)) (c:nu n):xFv e ρ h=some (.str (tI n),h):=by
 have f:=yEw c;have b:n.natAbs.log2<1920:=by
  have h2:n.natAbs<2 ^ 64:=by have:=c.1;have:=c.2;grind
  by_cases z:n.natAbs=0
  .rw [z];decide
  .exact Nat.lt_trans ((Nat.log2_lt z).mpr h2) (by decide)
 unfold xFv yHL;rw [d,ybo];simp only [b,↓reduceIte];grind
end
section
variable {h:AH}{ns:List Int}
theorem yfF k:yX [.scr ns,.int (k:Nat)] h=some (.int (ns.getD k 0),h):=by
 unfold yX;rw [yo];show ob (ym _ _ [.val _,.val _] h) fnK=_
 by_cases e:k<ns.length
 .have b:((k:Int)<ns.length)=True:=eq_true (by omega);have c:atI ns k=some (ns.getD k 0):=ycO (by simp_all);have d:ycM (.scr ns) (.int k) h=some (.int (ns.getD k 0),h):=by unfold ycM;simp only [c]
  simpa [b,d,c]
 .have b:((k:Int)<ns.length)=False:=eq_false (by omega);rw [show ns.getD k 0=0 by simp_all]
  simpa [b]
theorem ymI c:∃ n,ycz [.int c] h=some (.int n,h)/\nu n:=by
 have j:=ycF (c/3) (show 0<4 by decide);have e:=ycF (c/3) (show 0<18446744073709551616 by decide);unfold ycz;rw [yo];show ∃ n,ob (ym _ _ [.val _] h) fnK=_/\_
 by_cases b:c%3=0
 .have g:=eq_true b;exact ⟨c/3%4,by simpa [g],by unfold nu B64;omega⟩
 .have f0:=eq_false b
  by_cases d:c%3=1
  .have f:=eq_true d;exact ⟨18446744073709551616-1-c/3%4,by simpa [f0,f],by unfold nu B64;omega⟩
  .have i:=eq_false d;exact ⟨c/3%18446744073709551616,by simpa [f0,i],by unfold nu B64;omega⟩
end
section
variable {h:AH}{ρ:PSt}{s s1 s2 w nm:Str}{n b o:Int}
theorem yII (e:r ρ h "" = some (z,h)):xJn r ρ h=some (.str z,h):=by unfold xJn;rw [e,ybo]
def okP (t:Str) (_:Int):Prop:=(∃ p:Pce,p.Ok/\t=p.tx)/\t.length<=1000
theorem ytJ:("e":Str)∈SL:=by rfl'
theorem yEZ:("f":Str)∈SL:=by rfl'
theorem yIJ:("h":Str)∈SL:=by rfl'
theorem yIK:("d":Str)∈SL:=by rfl'
theorem i1:nu 1:=⟨by decide,by decide⟩
theorem ydR {Y:Type}{p:Y->Prop}{a:Y}{l:List Y}(h:p a) (t:∀ x∈l,p x):∀ x∈a::l,p x:=List.forall_mem_cons.2 ⟨h,t⟩
theorem ybV {Y:Type}{p:Y->Prop}:∀ x∈[],p x:=fun _ h=>by cases h
theorem yqq (h1:s∈SL) (h2:nu n):gP (.let_ s n):=⟨h1,h2⟩
theorem ypH (h1:s∈SL) (h2:s1∈SL):gP (.take s s1):=⟨h1,h2⟩
theorem yBf (h1:s∈SL) (h2:s1∈SL):gP (.put s s1):=⟨h1,h2⟩
theorem yjM (a:∀ r∈A,gP r) (b:∀ r∈B,gP r) (e:A.length<=4) (lb:B.length<=4) (d:A≠[]):(Pce.two A B).Ok:=⟨⟨a,e⟩,⟨b,lb⟩,d⟩
theorem yIL (h1:s∈SL) (h2:nu b) (hl:(""++"let "++s++" "++tI b).length<=1000):okP (""++"let "++s++" "++tI b) n:=⟨⟨_,yjM (ydR (yqq h1 h2) ybV) ybV (Nat.le_of_ble_eq_true rfl) (Nat.le_of_ble_eq_true rfl) (by simp),by refine yeM ?_;simp only [Pce.tx,plT,wR,map_cons,map_nil,List.cons_append,List.nil_append,append_nil,ygJ,join_1,ykT,append_assoc];kernel_rfl!⟩,hl⟩
theorem yIM (d:w∈W5) (h1:s∈SL) (h2:s1∈SL) (c:s2∈SL) (hl:(""++w++" "++s++" "++s1++" "++s2).length<=1000):okP (""++w++" "++s++" "++s1++" "++s2) n:=⟨⟨.two [.reckon w s s1 s2] [],yjM (ydR ⟨d,h1,h2,c⟩ ybV) ybV (Nat.le_of_ble_eq_true rfl) (Nat.le_of_ble_eq_true rfl) (by simp),by refine yeM ?_;simp only [Pce.tx,plT,wR,map_cons,map_nil,List.cons_append,List.nil_append,append_nil,ygJ,join_1,ykT,append_assoc];kernel_rfl!⟩,hl⟩
theorem yIN (h1:s∈SL) (h2:nu b) (hl:(""++"let e "++tI b++" ; take "++s++" e").length<=1000):okP (""++"let e "++tI b++" ; take "++s++" e") n:=⟨⟨_,yjM (ydR (yqq ytJ h2) (ydR (ypH h1 ytJ) ybV)) ybV (Nat.le_of_ble_eq_true rfl) (Nat.le_of_ble_eq_true rfl) (by simp),by refine yeM ?_;simp only [Pce.tx,plT,wR,map_cons,map_nil,List.cons_append,List.nil_append,append_nil,ygJ,join_1,ykT,append_assoc];kernel_rfl!⟩,hl⟩
theorem yIO (h1:s∈SL) (h2:nu b) (hl:(""++"let e "++tI b++" ; put e "++s).length<=1000):okP (""++"let e "++tI b++" ; put e "++s) n:=⟨⟨_,yjM (ydR (yqq ytJ h2) (ydR (yBf ytJ h1) ybV)) ybV (Nat.le_of_ble_eq_true rfl) (Nat.le_of_ble_eq_true rfl) (by simp),by refine yeM ?_;simp only [Pce.tx,plT,wR,map_cons,map_nil,List.cons_append,List.nil_append,append_nil,ygJ,join_1,ykT,append_assoc];kernel_rfl!⟩,hl⟩
theorem yIP (h1:s∈SL) (h2:nu b) (hl:(""++"let e "++tI b++" ; take f e ; plus f f "++s++" ; let d 1 ; put e f").length<=1000):okP (""++"let e "++tI b++" ; take f e ; plus f f "++s++" ; let d 1 ; put e f") n:=⟨⟨.two [.let_ "e" b,.take "f" "e",.reckon "plus" "f" "f" s,.let_ "d" 1] _,yjM (ydR (yqq ytJ h2) (ydR (ypH yEZ ytJ) (ydR ⟨by rfl',yEZ,yEZ,h1⟩ (ydR (yqq yIK i1) ybV)))) (ydR (yBf ytJ yEZ) ybV) (Nat.le_of_ble_eq_true rfl) (Nat.le_of_ble_eq_true rfl) (by simp),by refine yeM ?_;simp only [Pce.tx,plT,wR,map_cons,map_nil,List.cons_append,List.nil_append,append_nil,ygJ,join_1,ykT,append_assoc];kernel_rfl!⟩,hl⟩
theorem yGU (h1:s∈SL) (h2:s1∈SL) (c:nu b) (hl:(""++"let e "++tI b++" ; take h e ; put e "++s++" ; take "++s1++" e").length<=1000):okP (""++"let e "++tI b++" ; take h e ; put e "++s++" ; take "++s1++" e") n:=⟨⟨_,yjM (ydR (yqq ytJ c) (ydR (ypH yIJ ytJ) (ydR (yBf ytJ h1) (ydR (ypH h2 ytJ) ybV)))) ybV (Nat.le_of_ble_eq_true rfl) (Nat.le_of_ble_eq_true rfl) (by simp),by refine yeM ?_;simp only [Pce.tx,plT,wR,map_cons,map_nil,List.cons_append,List.nil_append,append_nil,ygJ,join_1,ykT,append_assoc];kernel_rfl!⟩,hl⟩
theorem yIQ (c:nu b) (hl:((""++"let e "++tI b++" ; take f e ; if f ")++"( let g 0 ; put e g ) else ( wait )").length<=1000):okP ((""++"let e "++tI b++" ; take f e ; if f ")++"( let g 0 ; put e g ) else ( wait )") n:=⟨⟨.six b,c,by kernel_rfl!⟩,hl⟩
theorem yIR (c:nu b) (d:nu o) (h1:s∈SL) (hl:("either ( "++(""++"let e "++tI b++" ; take f e ; if f ")++"( ) else ( wait ) ) or "++(""++"( let e "++tI o++" ; put e "++s++" )")).length<=1000):okP ("either ( "++(""++"let e "++tI b++" ; take f e ; if f ")++"( ) else ( wait ) ) or "++(""++"( let e "++tI o++" ; put e "++s++" )")) n:=⟨⟨.sev b o s,⟨c,d,h1⟩,by refine yeM ?_;simp only [Pce.tx,plT,wR,map_cons,map_nil,List.cons_append,List.nil_append,append_nil,ygJ,join_1,ykT,append_assoc];kernel_rfl!⟩,hl⟩
theorem yIS (e:nu b) (h1:s∈SL) (d:nmP nm) (h2:s1∈SL) (c:s2∈SL) (hl:((""++"try ( let e "++tI b++" ; put e "++s++" ; ")++(""++"throw "++nm++" "++s1++" ) on odd "++s2++" ( take "++s++" e )")).length<=1000):okP ((""++"try ( let e "++tI b++" ; put e "++s++" ; ")++(""++"throw "++nm++" "++s1++" ) on odd "++s2++" ( take "++s++" e )")) n:=⟨⟨.eig b s s1 nm s2,⟨e,h1,h2,d,c⟩,by refine yeM ?_;simp only [Pce.tx,plT,wR,map_cons,map_nil,List.cons_append,List.nil_append,append_nil,ygJ,join_1,ykT,append_assoc];kernel_rfl!⟩,hl⟩
theorem yIT (h1:s∈SL) (c:nmP nm) (h2:s1∈SL) (hl:(""++"if "++s++" ( throw "++nm++" "++s1++" ) else ( let "++s++" 1 )").length<=1000):okP (""++"if "++s++" ( throw "++nm++" "++s1++" ) else ( let "++s++" 1 )") n:=⟨⟨.nin s nm s1,⟨h1,c,h2⟩,by kernel_rfl!⟩,hl⟩
end
section
variable {h:AH}
theorem c8 {k:Int}(h0:0<=k) (h8:k<8):k=0\/k=1\/k=2\/k=3\/k=4\/k=5\/k=6\/k=7:=by obtain ⟨n,rfl⟩:=Int.eq_ofNat_of_zero_le h0;have:=Int.ofNat_lt.mp h8;clear h0 h8;revert n;decide
theorem c4 {k:Int}(h0:0<=k) (h8:k<4):k=0\/k=1\/k=2\/k=3:=by obtain ⟨n,rfl⟩:=Int.eq_ofNat_of_zero_le h0;have:=Int.ofNat_lt.mp h8;clear h0 h8;revert n;decide
theorem yHT (k:Int) (h0:0<=k) (h4:k<4):∃ s,yrE (.str "abcd") (.int k) h=some (.str s,h)/\s∈SL:=by
 rcases c4 h0 h4 with rfl|rfl|rfl|rfl
 .exact ⟨"a",by kernel_rfl!,by rfl'⟩
 .exact ⟨"b",by kernel_rfl!,by rfl'⟩
 .exact ⟨"c",by kernel_rfl!,by rfl'⟩
 .exact ⟨"d",by kernel_rfl!,by rfl'⟩
theorem yHU (k:Int) (h0:0<=k) (h4:k<8):∃ s,yrE (.str "abcdefgh") (.int k) h=some (.str s,h)/\s∈SL:=by
 rcases c8 h0 h4 with rfl|rfl|rfl|rfl|rfl|rfl|rfl|rfl
 .exact ⟨"a",by kernel_rfl!,by rfl'⟩
 .exact ⟨"b",by kernel_rfl!,by rfl'⟩
 .exact ⟨"c",by kernel_rfl!,by rfl'⟩
 .exact ⟨"d",by kernel_rfl!,by rfl'⟩
 .exact ⟨"e",by kernel_rfl!,by rfl'⟩
 .exact ⟨"f",by kernel_rfl!,by rfl'⟩
 .exact ⟨"g",by kernel_rfl!,by rfl'⟩
 .exact ⟨"h",by kernel_rfl!,by rfl'⟩
end
section
variable {h:AH}{ρ:PSt}{acc z s:Str}{r:XJ}{k i:Nat}
def JK (ρ:PSt) (h:AH) (r:XJ) (acc z:Str) (k:Nat):Prop:=acc.length+k<=1000->r ρ h acc=some (z,h)/\z.length<=acc.length+k
theorem yfs:JK ρ h ydb acc acc 0:=fun b=>⟨yGT (by omega),by omega⟩
theorem yGV (b:e ρ h=some (.str s,h)) (hs:s.length<=50) (K:JK ρ h r (acc++s) z k):JK ρ h (yk e r) acc z (k+50):=fun c=>by have q:=K (by rw [yfl];omega);rw [yGS b (by omega)];rw [yfl] at q;grind
theorem yft (hs:decide (s.length<=50)=true) (K:JK ρ h r (acc++s) z k):JK ρ h (yk (xC (.str s)) r) acc z (k+50):=yGV x_c (of_decide_eq_true hs) K
theorem yjN (hv:ye i ρ h=some (.str s,h)) (f:fr s) (K:JK ρ h r (acc++s) z k):JK ρ h (yk (xFv (ye i)) r) acc z (k+50):=yGV (yIG hv (by have:=f.2.2;omega)) (by have:=f.2.2;omega) K
theorem yxW (hv:ye i ρ h=some (.int n,h)) (b:nu n) (K:JK ρ h r (acc++tI n) z k):JK ρ h (yk (xFv (ye i)) r) acc z (k+50):=yGV (yIH hv b) (by have:=yEw b;omega) K
theorem yfu (K:JK ρ h r "" z k) (b:decide (k<=1000)=true):xJn r ρ h=some (.str z,h)/\z.length<=k:=by have q:=K (by rw [ypt];grind);rw [ypt] at q;exact ⟨yII q.1,by omega⟩
end
section
variable {h:AH}
theorem yHV (c:nu y4):xJn (yk (xC (.str "let e ")) (yk (xFv (ye 4)) (yk (xC (.str " ; take f e ; if f ")) ydb))) [v0,v1,.val (.str x2),.val (.str x3),.val (.int y4),.val (.str x5),.val (.str x6),.val (.int y7),v8,v9] h=some (.str (""++"let e "++tI y4++" ; take f e ; if f "),h)/\(""++"let e "++tI y4++" ; take f e ; if f ").length<=150:=yfu (yft (by rfl') (yxW rfl c (yft (by rfl') yfs))) (by decide)
theorem yHW (k2:fr x2) (c:nu y7):xJn (yk (xC (.str "( let e ")) (yk (xFv (ye 7)) (yk (xC (.str " ; put e ")) (yk (xFv (ye 2)) (yk (xC (.str " )")) ydb))))) [v0,v1,.val (.str x2),.val (.str x3),.val (.int y4),.val (.str x5),.val (.str x6),.val (.int y7),v8,v9] h=some (.str (""++"( let e "++tI y7++" ; put e "++x2++" )"),h)/\(""++"( let e "++tI y7++" ; put e "++x2++" )").length<=250:=yfu (yft (by rfl') (yxW rfl c (yft (by rfl') (yjN rfl k2 (yft (by rfl') yfs))))) (by decide)
theorem yHX (k2:fr x2) (c:nu y4):xJn (yk (xC (.str "try ( let e ")) (yk (xFv (ye 4)) (yk (xC (.str " ; put e ")) (yk (xFv (ye 2)) (yk (xC (.str " ; ")) ydb))))) [v0,v1,.val (.str x2),.val (.str x3),.val (.int y4),.val (.str x5),.val (.str x6),.val (.int y7),v8,v9] h=some (.str (""++"try ( let e "++tI y4++" ; put e "++x2++" ; "),h)/\(""++"try ( let e "++tI y4++" ; put e "++x2++" ; ").length<=250:=yfu (yft (by rfl') (yxW rfl c (yft (by rfl') (yjN rfl k2 (yft (by rfl') yfs))))) (by decide)
theorem yHY (k2:fr x2) (k3:fr x3) (k5:fr x5) (c:fr x6):xJn (yk (xC (.str "throw ")) (yk (xFv (ye 6)) (yk (xC (.str " ")) (yk (xFv (ye 3)) (yk (xC (.str " ) on odd ")) (yk (xFv (ye 5)) (yk (xC (.str " ( take ")) (yk (xFv (ye 2)) (yk (xC (.str " e )")) ydb))))))))) [v0,v1,.val (.str x2),.val (.str x3),.val (.int y4),.val (.str x5),.val (.str x6),.val (.int y7),v8,v9] h=some (.str (""++"throw "++x6++" "++x3++" ) on odd "++x5++" ( take "++x2++" e )"),h)/\(""++"throw "++x6++" "++x3++" ) on odd "++x5++" ( take "++x2++" e )").length<=450:=yfu (yft (by rfl') (yjN rfl c (yft (by rfl') (yjN rfl k3 (yft (by rfl') (yjN rfl k5 (yft (by rfl') (yjN rfl k2 (yft (by rfl') yfs))))))))) (by decide)
theorem yHZ (k2:fr x2) (k3:fr x3) (c:fr x6):xJn (yk (xC (.str "if ")) (yk (xFv (ye 2)) (yk (xC (.str " ( throw ")) (yk (xFv (ye 6)) (yk (xC (.str " ")) (yk (xFv (ye 3)) (yk (xC (.str " ) else ( let ")) (yk (xFv (ye 2)) (yk (xC (.str " 1 )")) ydb))))))))) [v0,v1,.val (.str x2),.val (.str x3),.val (.int y4),.val (.str x5),.val (.str x6),.val (.int y7),v8,v9] h=some (.str (""++"if "++x2++" ( throw "++x6++" "++x3++" ) else ( let "++x2++" 1 )"),h)/\(""++"if "++x2++" ( throw "++x6++" "++x3++" ) else ( let "++x2++" 1 )").length<=450:=yfu (yft (by rfl') (yjN rfl k2 (yft (by rfl') (yjN rfl c (yft (by rfl') (yjN rfl k3 (yft (by rfl') (yjN rfl k2 (yft (by rfl') yfs))))))))) (by decide)
theorem yIa (k2:fr x2) (k3:fr x3) (c:nu y4):xJn (yk (xC (.str "let e ")) (yk (xFv (ye 4)) (yk (xC (.str " ; take h e ; put e ")) (yk (xFv (ye 2)) (yk (xC (.str " ; take ")) (yk (xFv (ye 3)) (yk (xC (.str " e")) ydb))))))) [v0,v1,.val (.str x2),.val (.str x3),.val (.int y4),.val (.str x5),.val (.str x6),.val (.int y7),v8,v9] h=some (.str (""++"let e "++tI y4++" ; take h e ; put e "++x2++" ; take "++x3++" e"),h)/\(""++"let e "++tI y4++" ; take h e ; put e "++x2++" ; take "++x3++" e").length<=350:=yfu (yft (by rfl') (yxW rfl c (yft (by rfl') (yjN rfl k2 (yft (by rfl') (yjN rfl k3 (yft (by rfl') yfs))))))) (by decide)
theorem yIb (k5:fr x5) (c:nu y7):xJn (yk (xC (.str "let ")) (yk (xFv (ye 5)) (yk (xC (.str " ")) (yk (xFv (ye 7)) ydb)))) [v0,v1,v2,.val (.str x3),.val (.str x4),.val (.str x5),.val (.int y6),.val (.int y7),.val (.str x8)] h=some (.str (""++"let "++x5++" "++tI y7),h)/\(""++"let "++x5++" "++tI y7).length<=200:=yfu (yft (by rfl') (yjN rfl k5 (yft (by rfl') (yxW rfl c yfs)))) (by decide)
theorem yIc (k3:fr x3) (d:fr x4) (k5:fr x5) (c:fr x8):xJn (yk (xFv (ye 8)) (yk (xC (.str " ")) (yk (xFv (ye 3)) (yk (xC (.str " ")) (yk (xFv (ye 4)) (yk (xC (.str " ")) (yk (xFv (ye 5)) ydb))))))) [v0,v1,v2,.val (.str x3),.val (.str x4),.val (.str x5),.val (.int y6),.val (.int y7),.val (.str x8)] h=some (.str (""++x8++" "++x3++" "++x4++" "++x5),h)/\(""++x8++" "++x3++" "++x4++" "++x5).length<=350:=yfu (yjN rfl c (yft (by rfl') (yjN rfl k3 (yft (by rfl') (yjN rfl d (yft (by rfl') (yjN rfl k5 yfs))))))) (by decide)
theorem yId (k3:fr x3) (c:nu y6):xJn (yk (xC (.str "let e ")) (yk (xFv (ye 6)) (yk (xC (.str " ; take ")) (yk (xFv (ye 3)) (yk (xC (.str " e")) ydb))))) [v0,v1,v2,.val (.str x3),.val (.str x4),.val (.str x5),.val (.int y6),.val (.int y7),.val (.str x8)] h=some (.str (""++"let e "++tI y6++" ; take "++x3++" e"),h)/\(""++"let e "++tI y6++" ; take "++x3++" e").length<=250:=yfu (yft (by rfl') (yxW rfl c (yft (by rfl') (yjN rfl k3 (yft (by rfl') yfs))))) (by decide)
theorem yIe (k3:fr x3) (c:nu y6):xJn (yk (xC (.str "let e ")) (yk (xFv (ye 6)) (yk (xC (.str " ; put e ")) (yk (xFv (ye 3)) ydb)))) [v0,v1,v2,.val (.str x3),.val (.str x4),.val (.str x5),.val (.int y6),.val (.int y7),.val (.str x8)] h=some (.str (""++"let e "++tI y6++" ; put e "++x3),h)/\(""++"let e "++tI y6++" ; put e "++x3).length<=200:=yfu (yft (by rfl') (yxW rfl c (yft (by rfl') (yjN rfl k3 yfs)))) (by decide)
theorem yIf (k3:fr x3) (c:nu y6):xJn (yk (xC (.str "let e ")) (yk (xFv (ye 6)) (yk (xC (.str " ; take f e ; plus f f ")) (yk (xFv (ye 3)) (yk (xC (.str " ; let d 1 ; put e f")) ydb))))) [v0,v1,v2,.val (.str x3),.val (.str x4),.val (.str x5),.val (.int y6),.val (.int y7),.val (.str x8)] h=some (.str (""++"let e "++tI y6++" ; take f e ; plus f f "++x3++" ; let d 1 ; put e f"),h)/\(""++"let e "++tI y6++" ; take f e ; plus f f "++x3++" ; let d 1 ; put e f").length<=250:=yfu (yft (by rfl') (yxW rfl c (yft (by rfl') (yjN rfl k3 (yft (by rfl') yfs))))) (by decide)
end
section
variable {h:AH}
theorem yIU k (b:0<=k) (h2:k<2):∃ s:Str,atI [PV.str "odd",PV.str "bad"] k=some (.str s)/\nmP s:=by
 rcases show k=0\/k=1 by omega with rfl|rfl
 .exact ⟨_,yET,by unfold nmP;simp⟩
 .exact ⟨_,yGo,by unfold nmP;simp⟩
theorem yIV k (c:0<=k) (h2:k<5):∃ s:Str,atI [PV.str "plus",PV.str "minus",PV.str "times",PV.str "less",PV.str "same"] k=some (.str s)/\s∈(["plus","minus","times","less","same"]:List Str):=by
 rcases show k=0\/k=1\/k=2\/k=3\/k=4 by omega with rfl|rfl|rfl|rfl|rfl
 .exact ⟨_,yET,by rfl'⟩
 .exact ⟨_,yGo,by rfl'⟩
 .exact ⟨_,yHB,by rfl'⟩
 .exact ⟨_,yHC,by rfl'⟩
 .exact ⟨_,yHD,by rfl'⟩
theorem yiE {a b:Str}(f:a.length<=n) (e:b.length<=m) (d:decide (n+m<=100000)=true):yhZ (.str a) (.str b) h=some (.str (a++b),h)/\(a++b).length<=n+m:=by have:=of_decide_eq_true d;refine ⟨?_,by rw [yfl];omega⟩;rw [yxh,if_pos (by omega)]
theorem ytK {s:Str}(h:decide (s.length<=n)=true):s.length<=n:=of_decide_eq_true h
theorem yEx a:nu (a%4):=by have:=ycF a (show 0<4 by decide);unfold nu B64;omega
theorem ymJ (e:ρ[i]?=some (.val (.int j))) (n:¬ j=l):ym (ybG (yt (xOp oEq (ye i) (xC (.int l)))) A yS) B ρ h=B ρ h:=by
 have e1:ye i ρ h=some (.int j,h):=by unfold ye;rw [e]
 have n1:=eq_false n
 simpa [e1,n1,↓reduceIte]
theorem ykZ (e:T ρ h=some (true,h)) (r:A ρ h=some (.rt v,h)):ob (ym (ybG T A yS) B ρ h) fnK=some (v,h):=by simpa [e,r]
theorem yxX (e:ρ[i]?=some (.val (.int j))) (n:j=l):yt (xOp oEq (ye i) (xC (.int l))) ρ h=some (true,h):=by
 have e1:ye i ρ h=some (.int j,h):=by unfold ye;rw [e]
 subst n
 simpa [e1]
theorem yjf (e:E ρ h=some (.str t,h)):yO (yen (yb E (yb (xC (.int n)) yh))) ρ h=some (.rt (.tup [.str t,.int n]),h):=by simpa [e]
theorem yIW (e:E ρ h=some (.str t,h)):ob (yO (yen (yb E (yb (xC (.int n)) yh))) ρ h) fnK=some (.tup [.str t,.int n],h):=by rw [yjf e];rfl
theorem yEy (e:ybs E y ρ h=some (.nx ρ',h)) (r:B ρ' h=some (o,h')):ym (ybs E y) B ρ h=some (o,h'):=by rw [yeB,e,ybo,yib,r]
theorem yIg (i:Nat) (e:E ρ h=some (.str t,h)):ybs E (yv i) ρ h=some (.nx (ρ.set i (.val (.str t))),h):=by unfold ybs;rw [e];rfl
theorem ytL (ea:A ρ h=some (.str a,h)) (eb:B ρ h=some (.str b,h)) (ec:yhZ (.str a) (.str b) h=some (.str c,h)):xOp yhZ A B ρ h=some (.str c,h):=by rw [yEQ,ea,ybo,eb,ybo,ec]
theorem ywD (hw:6<=w) (h1:s∈SL) (h2:s1∈SL) (hb:nu b):∃ t n,yec [.int w,.int m,.str s,.str s1,.int b] h=some (.tup [.str t,.int n],h)/\okP t n:=by
 obtain ⟨fa,e1,h3⟩:=yHU (h:=h) (m/176%8) (ycF _ (by decide)).1 (ycF _ (by decide)).2;obtain ⟨nm,e2,hn⟩:=yIU (m/5%2) (ycF _ (by decide)).1 (ycF _ (by decide)).2;have ho:=yEx (m/3);have f1:=(ydQ h1).2;have f2:=(ydQ h2).2;have f3:=(ydQ h3).2;have f4:=(ywx hn).2;obtain ⟨S,eS⟩:∃ S,("":Str)++"let e "++tI b++" ; take f e ; if f " = S:=⟨_,rfl⟩
 suffices H:∃ t n,ob (sdC [.val (.int w),.val (.int m),.val (.str s),.val (.str s1),.val (.int b),.val (.str fa),.val (.str nm),.val (.int (m/3%4)),.val (.str S),.no] h) fnK=some (.tup [.str t,.int n],h)/\okP t n by
  obtain ⟨t,n,e,o⟩:=H;refine ⟨t,n,?_,o⟩;rw [<- e];unfold yec;rw [yo];show ob (ym _ (ym _ (ym _ (ym _ sdC))) [.val (.int w),.val (.int m),.val (.str s),.val (.str s1),.val (.int b),.no,.no,.no,.no,.no] h) fnK=_;clear e o
  simpa [e1,e2,(yHV hb).1,eS]
 have l0:S.length<=150:=eS ▸ (yHV (h:=h) (v0:=.no) (v1:=.no) (v8:=.no) (v9:=.no) (x2:=s) (x3:=s) (x5:=s) (x6:=s) (y7:=0) hb).2;have a0:=yiE (h:=h) l0 (ytK (s:="( let g 0 ; put e g ) else ( wait )") (n:=50) (by rfl')) (by decide);have a1:=yiE (h:=h) (ytK (s:="either ( ") (n:=50) (by rfl')) l0 (by decide);have a2:=yiE (h:=h) a1.2 (ytK (s:="( ) else ( wait ) ) or ") (n:=50) (by rfl')) (by decide);have a3:=yiE (h:=h) a2.2 (yHW (h:=h) (v0:=.no) (v1:=.no) (v8:=.no) (v9:=.no) (x3:=s) (x5:=s) (x6:=s) (y4:=0) f1 ho).2 (by decide);have a4:=yiE (h:=h) (yHX (h:=h) (v0:=.no) (v1:=.no) (v8:=.no) (v9:=.no) (x3:=s) (x5:=s) (x6:=s) (y7:=0) f1 hb).2 (yHY (h:=h) (v0:=.no) (v1:=.no) (v8:=.no) (v9:=.no) (y4:=0) (y7:=0) f1 f2 f3 f4).2 (by decide);unfold sdC
 by_cases z6:w=6
 .exact ⟨_,7,ykZ (yxX rfl z6) (yjf (ytL rfl rfl a0.1)),by rw [<- eS] at a0 ⊢;exact yIQ hb (Nat.le_trans a0.2 (by decide))⟩
 rw [ymJ rfl z6]
 by_cases z7:w=7
 .exact ⟨_,10,ykZ (yxX rfl z7) (yEy (yIg 9 (ytL (ytL rfl rfl a1.1) rfl a2.1)) (yjf (ytL rfl (yHW f1 ho).1 a3.1))),by rw [<- eS] at a3 ⊢;exact yIR hb ho h1 (Nat.le_trans a3.2 (by decide))⟩
 rw [ymJ rfl z7]
 by_cases z8:w=8
 .exact ⟨_,7,ykZ (yxX rfl z8) (yEy (yIg 9 (yHX f1 hb).1) (yjf (ytL rfl (yHY f1 f2 f3 f4).1 a4.1))),yIS hb h1 hn h2 h3 (Nat.le_trans a4.2 (by decide))⟩
 rw [ymJ rfl z8]
 by_cases z9:w=9
 .exact ⟨_,4,ykZ (yxX rfl z9) (yjf (yHZ f1 f2 f4).1),yIT h1 hn h2 (Nat.le_trans (yHZ (h:=h) (v0:=.no) (v1:=.no) (v8:=.no) (v9:=.no) (x5:=s) (y4:=0) (y7:=0) f1 f2 f4).2 (by decide))⟩
 rw [ymJ rfl z9];exact ⟨_,4,yIW (yIa f1 f2 hb).1,yGU h1 h2 hb (Nat.le_trans (yIa (h:=h) (v0:=.no) (v1:=.no) (v8:=.no) (v9:=.no) (x5:=s) (x6:=s) (y7:=0) f1 f2 hb).2 (by decide))⟩
end
section
variable {h:AH}
theorem yla (c:Int):∃ t n,yed [.int c] h=some (.tup [.str t,.int n],h)/\okP t n:=by
 obtain ⟨m,em⟩:∃ m,c*48271%2147483647=m:=⟨_,rfl⟩
 obtain ⟨s1,e1,h1⟩:=yHT (h:=h) (m/11%4) (ycF _ (by decide)).1 (ycF _ (by decide)).2;obtain ⟨s2,e2,h2⟩:=yHT (h:=h) (m/44%4) (ycF _ (by decide)).1 (ycF _ (by decide)).2;obtain ⟨s3,e3,h3⟩:=yHU (h:=h) (m/176%8) (ycF _ (by decide)).1 (ycF _ (by decide)).2;obtain ⟨wd,e4,h4⟩:=yIV (m/1408%5) (ycF _ (by decide)).1 (ycF _ (by decide)).2;obtain ⟨nb,e5,h5⟩:=ymI (h:=h) (c/7);have hb:=yEx (m/1408);have f1:=(ydQ h1).2;have f2:=(ydQ h2).2;have f3:=(ydQ h3).2;have f4:fr wd:=by
  have q:∀ w∈(["plus","minus","times","less","same"]:List Str),(32∉w.cps.toList/\w.length≠0/\w.length<=20):=by rfl'
  exact q wd h4
 suffices H:∃ t n,ob (pcC [.val (.int c),.val (.int m),.val (.int (m%11)),.val (.str s1),.val (.str s2),.val (.str s3),.val (.int (m/1408%4)),.val (.int nb),.val (.str wd)] h) fnK=some (.tup [.str t,.int n],h)/\okP t n by
  obtain ⟨t,n,e,o⟩:=H;refine ⟨t,n,?_,o⟩;rw [<- e];unfold yed;rw [yo];show ob (ym _ (ym _ (ym _ (ym _ (ym _ (ym _ (ym _ (ym _ pcC))))))) [.val (.int c),.no,.no,.no,.no,.no,.no,.no,.no] h) fnK=_;clear e o
  simpa [em,e1,e2,e3,e4,e5]
 unfold pcC
 by_cases z0:m%11=0
 .exact ⟨_,1,ykZ (yxX rfl z0) (yjf (yIb f3 h5).1),yIL h3 h5 (Nat.le_trans (yIb (h:=h) (v0:=.no) (v1:=.no) (v2:=.no) (x3:=s1) (x4:=s1) (x8:=s1) (y6:=0) f3 h5).2 (by decide))⟩
 rw [ymJ rfl z0]
 by_cases z1:m%11=1
 .exact ⟨_,1,ykZ (yxX rfl z1) (yjf (yIc f1 f2 f3 f4).1),yIM h4 h1 h2 h3 (Nat.le_trans (yIc (h:=h) (v0:=.no) (v1:=.no) (v2:=.no) (y6:=0) (y7:=0) f1 f2 f3 f4).2 (by decide))⟩
 rw [ymJ rfl z1]
 by_cases z2:m%11=2
 .exact ⟨_,2,ykZ (yxX rfl z2) (yjf (yId f1 hb).1),yIN h1 hb (Nat.le_trans (yId (h:=h) (v0:=.no) (v1:=.no) (v2:=.no) (x4:=s1) (x5:=s1) (x8:=s1) (y7:=0) f1 hb).2 (by decide))⟩
 rw [ymJ rfl z2]
 by_cases z3:m%11=3
 .exact ⟨_,2,ykZ (yxX rfl z3) (yjf (yIe f1 hb).1),yIO h1 hb (Nat.le_trans (yIe (h:=h) (v0:=.no) (v1:=.no) (v2:=.no) (x4:=s1) (x5:=s1) (x8:=s1) (y7:=0) f1 hb).2 (by decide))⟩
 rw [ymJ rfl z3]
 by_cases z4:m%11<6
 .exact ⟨_,5,ykZ (by
   have t4:=eq_true z4;show yt (xOp oLt (ye 2) (xC (.int 6))) _ h=_
   simpa [t4]) (yjf (yIf f1 hb).1),yIP h1 hb (Nat.le_trans (yIf (h:=h) (v0:=.no) (v1:=.no) (v2:=.no) (x4:=s1) (x5:=s1) (x8:=s1) (y7:=0) f1 hb).2 (by decide))⟩
 have n4:=eq_false z4;obtain ⟨t,n,e6,h6⟩:=ywD (h:=h) (w:=m%11) (m:=m) (by omega) h1 h2 hb;refine ⟨t,n,?_,h6⟩;clear z0 z1 z2 z3 z4
 simpa [n4,e6]
end
def okD (t:Str) (_:Int):Prop:=∃ ps:List Pce,yAQ ps/\t=dTx ps
theorem yGW (o:okP t n):okD t (1+n):=by obtain ⟨⟨p,g,rfl⟩,_⟩:=o;exact ⟨[p],⟨ydR g ybV,by simp,Nat.le_of_ble_eq_true rfl⟩,rfl⟩
theorem yGX (o:okP t n) (c:okP t' b):okD (Str.join " ; " [t,t']) (1+n+b):=by obtain ⟨⟨p,g,rfl⟩,_⟩:=o;obtain ⟨⟨q,g',rfl⟩,_⟩:=c;exact ⟨_,⟨ydR g (ydR g' ybV),by simp,Nat.le_of_ble_eq_true rfl⟩,rfl⟩
section
variable {h:AH}
theorem yom (o:okP t n):t.length<=1000:=o.2
theorem yxY:(" ; ":Str).length=3:=by rfl'
theorem yIX {t:Str}(b:t.length<=1000):yrJ (.str " ; ") [.lst [.str t]] h=some (.str t,h):=by
 show (if _ then _ else _)=_;rw [if_pos]
 .rfl
 .rw [yxY];simp;omega
theorem yIY {t t':Str}(c:t.length<=1000) (b:t'.length<=1000):yrJ (.str " ; ") [.lst [.str t,.str t']] h=some (.str (Str.join " ; " [t,t']),h):=by show (if _ then _ else _)=_;rw [if_pos];rw [yxY];simp;omega
theorem yFa {xs:List PV}{r:PSt}:xIL (ye 0) (.val (.lst xs)::r) h=some (xs,h):=yES yrM
theorem yxZ {v:PVar}{r:PSt}{xs:List PV}{e:XE}:yeV 1 e (v::.own (.lst xs)::r) h=ob (e (v::.own (.lst xs)::r) h) fun x h1=>if xs.length<100000 then some (.nx (v::.own (.lst (xs++[x]))::r),h1) else none:=yjz rfl
theorem yEz c:∃ t n,ybi [.lst [.int c]] h=some (.tup [.str t,.int n],h)/\okD t n:=by
 obtain ⟨t,n,e,o⟩:=yla (h:=h) c;refine ⟨t,1+n,?_,yGW o⟩;unfold ybi;rw [yo];show ob (ym _ _ [.val _,.no,.no,.no,.no,.no] h) fnK=_
 simpa [e,yxZ,yFa,yrQ,yxg,yzp,List.nil_append,List.cons_append,length_nil,length_cons,yIX (yom o)]
theorem yEA c c':∃ t n,ybi [.lst [.int c,.int c']] h=some (.tup [.str t,.int n],h)/\okD t n:=by
 obtain ⟨t,n,e,o⟩:=yla (h:=h) c;obtain ⟨t',d,e',b⟩:=yla (h:=h) c';refine ⟨_,_,?_,yGX o b⟩;unfold ybi;rw [yo];show ob (ym _ _ [.val _,.no,.no,.no,.no,.no] h) fnK=_
 simpa [e,e',yxZ,yFa,yrQ,yxg,yzp,List.nil_append,List.cons_append,length_nil,length_cons,yIY (yom o) (yom b)]
end
section
variable {h:AH}
theorem ylb cs c b:yoL (cs.map PV.int) c b=(yoL cs c b).map .int:=by unfold yoL;rw [length_map,List.map_take,List.map_drop]
theorem yon (cs:List Int) (i j:Nat) (hij:i<=j):(yoL cs (some (i:Int)) (some (j:Int))).length=min j cs.length-min i cs.length:=by unfold yoL;rw [HT.sIx_nat,HT.sIx_nat,length_take,length_drop];exact Nat.min_eq_left (Nat.sub_le_sub_right (Nat.min_le_right ..) _)
theorem yoo {Y:Type}{e:XE}{inn:PV->PSt}{v:Y->PV}{Q:Y->Prop}:∀ {xs:List PV},(∀ x∈xs,∃ a,e (inn x) h=some (v a,h)/\Q a)->∃ c:List Y,yls e inn xs h=some (c.map v,h)/\c.length=xs.length/\∀ a∈c,Q a
 | [],_=>⟨[],rfl,rfl,fun _ z=>absurd z not_mem_nil⟩
 | x::xs,k=>by
  obtain ⟨a,d,f⟩:=k x mem_cons_self;obtain ⟨c,i,l,g⟩:=yoo fun y j=>k y (mem_cons_of_mem _ j)
  refine ⟨_,?_,by simp [l],ydR f g⟩;show ob _ _=_;rw [d,ybo,i];rfl
abbrev DT:=Str×Int
noncomputable def vD (d:DT):PV:=.tup [.str d.1,.int d.2]
def vDs (ds:List DT):PV:=.lst (ds.map vD)
def yFb (ds:List DT):Prop:=ds.length<=3/\∀ d∈ds,okD d.1 d.2
variable {ns cs ms:List Int}{m b:Int}{v3 v5:PVar}
theorem yBg (hl:cs.length<=60) (j:0<m):∃ ms:List Int,yfO (yhI (yb (xCB (ybW) (yb (ye 2) (yh))) (yh))) [2,4,1] (yt (xOp (oEq) (xOp oMod (ye 0) (ye 3)) (ye 2))) (xOp (ycM) (ye 1) (ye 0)) [.val (.scr ns),.val (.int m),.val (.lst (cs.map .int)),v3,.val (.int b),v5] h=some (.lst (ms.map .int),h)/\ms.length<=cs.length:=by
 have f:(0<m)=True:=eq_true j;have i:yb (xCB (ybW) (yb (ye 2) (yh))) (yh) [.val (.scr ns),.val (.int m),.val (.lst (cs.map .int)),v3,.val (.int b),v5] h=some ([.int ((cs.map PV.int).length:Nat)],h):=by symm
 rw [length_map] at i;have l:=yoY i (by omega) (by omega);have g:=yok (h:=h) (c:=yt (xOp (oEq) (xOp oMod (ye 0) (ye 3)) (ye 2))) (e:=xOp (ycM) (ye 1) (ye 0)) (inn:=ygU [2,4,1] [.val (.scr ns),.val (.int m),.val (.lst (cs.map .int)),v3,.val (.int b),v5]) (ts:=List.range cs.length) _ (fun k:Nat=>decide ((0+(k:Int))%m=b)) (fun k=>.int (cs.getD k 0)) (fun k d=>by
   show yt _ [.val (.int (0+(k:Int))),.val _,.val (.int b),.val (.int m)] h=_
   simpa [f]) (fun k d=>by
   have d:=List.mem_range.mp d;have g:atI (cs.map PV.int) (0+(k:Nat))=some (.int (cs.getD k 0)):=by rw [Int.zero_add];exact ycO (by rw [getElem?_map,List.getElem?_eq_getElem d,getD_eq_getElem?_getD,List.getElem?_eq_getElem d];rfl)
   show xOp _ _ _ [.val (.int (0+(k:Int))),.val _,.val (.int b),.val (.int m)] h=_
   simpa [g])
 refine ⟨((List.range cs.length).filter fun k:Nat=>decide ((0+(k:Int))%m=b)).map fun k=>cs.getD k 0,?_,?_⟩
 .unfold yfO;rw [l,ybo,if_pos (by rw [ygh];omega),show ((cs.length:Nat):Int).toNat=cs.length from rfl];unfold yiS;rw [g,ybo,map_map];rfl
 .rw [length_map];exact Nat.le_trans (List.length_filter_le _ _) (by simp_all)
theorem yGY:∃ ds:List DT,yfd (yxk (yb (xC (.int 0)) (yb (xCB (ykt) (yb (xCB (ybW) (yb (ye 5) (yh))) (yb (xC (.int 6)) (yh)))) (yb (xC (.int 2)) (yh))))) [5] (yJ ybi (yb (xFz (yqx yoM (ye 1) (yeo (ye 0)) (yeo (xOp yeP (ye 0) (xC (.int 2)))))) (yh))) [v0,v1,v2,v3,v4,.val (.lst (ms.map .int))] h=some (.lst (ds.map vD),h)/\yFb ds:=by
 obtain ⟨n,en⟩:∃ n:Nat,(if (6:Int)<(ms.length:Nat) then (6:Int) else (ms.length:Nat))=(n:Nat):=by
  split
  .exact ⟨6,rfl⟩
  .exact ⟨_,rfl⟩
 have G:n<=6/\n<=ms.length:=by split at en<;>omega
 have A:yb (xC (.int 0)) (yb (xCB (ykt) (yb (xCB (ybW) (yb (ye 5) (yh))) (yb (xC (.int 6)) (yh)))) (yb (xC (.int 2)) (yh))) [v0,v1,v2,v3,v4,.val (.lst (ms.map .int))] h=some ([.int 0,.int (n:Nat),.int 2],h):=by
  have z:ykt [.int (ms.length:Nat),.int 6] h=some (.int (n:Nat),h):=by unfold ykt;simp only [en]
  simpa [length_map,z]
 have w:=yCW A (by omega);have hz:szR 0 (n:Nat) 2<=3:=by unfold szR;split<;>omega
 obtain ⟨ds,C,B,E⟩:=yoo (h:=h) (e:=yJ ybi (yb (xFz (yqx yoM (ye 1) (yeo (ye 0)) (yeo (xOp yeP (ye 0) (xC (.int 2)))))) (yh))) (inn:=ygU [5] [v0,v1,v2,v3,v4,.val (.lst (ms.map .int))]) (v:=vD) (Q:=fun d=>okD d.1 d.2) (xs:=ytY 0 2 (szR 0 (n:Nat) 2)) (fun x r=>by
  obtain ⟨k,g,rfl⟩:=List.mem_map.mp r;have g:=List.mem_range.mp g;have F:2*k<ms.length:=by unfold szR at g;split at g<;>omega
  have u:(0+(k:Int)*2)=((2*k:Nat):Int):=by omega
  show ∃ a,yJ ybi _ [.val (.int (0+(k:Int)*2)),.val (.lst (ms.map .int))] h=_/\_;rw [u];have i:=yon ms (2*k) (2*k+2) (by omega);have s:((2*k:Nat):Int)+2=((2*k+2:Nat):Int):=by omega
  have e:∀ {l:List Int},yoL ms (some ((2*k:Nat):Int)) (some ((2*k+2:Nat):Int))=l->yJ ybi (yb (xFz (yqx yoM (ye 1) (yeo (ye 0)) (yeo (xOp yeP (ye 0) (xC (.int 2)))))) (yh)) [.val (.int ((2*k:Nat):Int)),.val (.lst (ms.map .int))] h=ybi [.lst (l.map .int)] h:=fun {l} q=>by
   rw [<- q,<- ylb]
   simpa [s]
  match j:yoL ms (some ((2*k:Nat):Int)) (some ((2*k+2:Nat):Int)) with
  | []=>rw [j] at i;simp only [length_nil] at i;omega
  | [c] =>
   obtain ⟨t,n,o,p⟩:=yEz (h:=h) c;exact ⟨(t,n),(e j).trans o,p⟩
  | [c,c'] =>
   obtain ⟨t,n,o,p⟩:=yEA (h:=h) c c';exact ⟨(t,n),(e j).trans o,p⟩
  | c::c'::y::l=>rw [j] at i;simp only [length_cons] at i;omega)
 have D:(ytY 0 2 (szR 0 (n:Nat) 2)).length=szR 0 (n:Nat) 2:=by simp [ytY]
 refine ⟨ds,?_,by rw [B,D];exact hz,E⟩;rw [yrR,w,ybo,if_pos (by omega),C];rfl
end
section
variable {h:AH}
def vH (H:List (List DT)):PV:=.lst (H.map vDs)
noncomputable def vT (T:List (List Str)):PV:=.lst (T.map fun ts=>.lst (ts.map .str))
noncomputable def tx (H:List (List DT)):List (List Str):=H.map fun ds=>ds.map (·.1)
def okH (H:List (List DT)):Prop:=2<=H.length/\H.length<=4/\∀ ds∈H,yFb ds
theorem ytM:∃ H,yef [.scr ns] h=some (vH H,h)/\okH H:=by
 have w:=ycF (ns.getD 0 0) (show (0:Int)<3 by decide);have u:=ylb ns (some 3) (some 33);have l:=yon ns 3 33 (by omega);have l:(yoL ns (some 3) (some 33)).length=_:=l;generalize p:2+ns.getD 0 0%3=m at *;generalize v:yoL ns (some 3) (some 33)=cs at *;have c0:=yfF (h:=h) (ns:=ns) 0;have c0:yX [.scr ns,.int 0] h=some (.int (ns.getD 0 0),h):=c0;have key:∃ H a4 a5,ygc (yv 4) (ym (ybs (xFz (yfO (yhI (yb (xCB (ybW) (yb (ye 2) (yh))) (yh))) [2,4,1] (yt (xOp (oEq) (xOp oMod (ye 0) (ye 3)) (ye 2))) (xOp (ycM) (ye 1) (ye 0)))) (yv 5)) (yeV 3 (xFz (yfd (yxk (yb (xC (.int 0)) (yb (xCB (ykt) (yb (xCB (ybW) (yb (ye 5) (yh))) (yb (xC (.int 6)) (yh)))) (yb (xC (.int 2)) (yh))))) [5] (yJ ybi (yb (xFz (yqx yoM (ye 1) (yeo (ye 0)) (yeo (xOp yeP (ye 0) (xC (.int 2)))))) (yh)))))) ) (yiS 0 m.toNat) [.val (.scr ns),.val (.int m),.val (.lst (cs.map .int)),.own (.lst []),.no,.no] h=some (.nx [.val (.scr ns),.val (.int m),.val (.lst (cs.map .int)),.own (.lst (H.map vDs)),a4,a5],h)/\okH H:=by
  obtain ⟨ρ',h',e,k,H,a4,a5,d,r,n⟩:=yzz (xs:=yiS 0 m.toNat) (ρ:=[.val (.scr ns),.val (.int m),.val (.lst (cs.map .int)),.own (.lst []),.no,.no]) (h:=h) (fun i ρ h'=>h'=h/\∃ (H:List (List DT)) (a4 a5:PVar),ρ=[.val (.scr ns),.val (.int m),.val (.lst (cs.map .int)),.own (.lst (H.map vDs)),a4,a5]/\H.length=i/\∀ ds∈H,yFb ds) ⟨rfl,[],.no,.no,rfl,rfl,ybV⟩ (s:=(ym (ybs (xFz (yfO (yhI (yb (xCB (ybW) (yb (ye 2) (yh))) (yh))) [2,4,1] (yt (xOp (oEq) (xOp oMod (ye 0) (ye 3)) (ye 2))) (xOp (ycM) (ye 1) (ye 0)))) (yv 5)) (yeV 3 (xFz (yfd (yxk (yb (xC (.int 0)) (yb (xCB (ykt) (yb (xCB (ybW) (yb (ye 5) (yh))) (yb (xC (.int 6)) (yh)))) (yb (xC (.int 2)) (yh))))) [5] (yJ ybi (yb (xFz (yqx yoM (ye 1) (yeo (ye 0)) (yeo (xOp yeP (ye 0) (xC (.int 2)))))) (yh)))))) )) (g:=yv 4) (by
   rintro i x ρ h' o ⟨rfl,H,a4,a5,rfl,t,f⟩;obtain ⟨h1,rfl⟩:=yzA o;obtain ⟨ms,k,_⟩:=yBg (h:=h') (ns:=ns) (cs:=cs) (m:=m) (b:=0+(i:Int)) (v3:=.own (.lst (H.map vDs))) (v5:=a5) (by omega) (by omega);obtain ⟨ds,d,hd⟩:=yGY (h:=h') (ms:=ms) (v0:=.val (.scr ns)) (v1:=.val (.int m)) (v2:=.val (.lst (cs.map .int))) (v3:=.own (.lst (H.map vDs))) (v4:=.val (.int (0+(i:Int))));refine ⟨_,_,h',rfl,.inl (?_:_=some (Out.nx ([.val (.scr ns),.val (.int m),.val (.lst (cs.map .int)),.own (.lst (H.map vDs++[.lst (ds.map vD)])),.val (.int (0+(i:Int))),.val (.lst (ms.map .int))]:PSt),h')),rfl,H++[ds],.val (.int (0+(i:Int))),.val (.lst (ms.map .int)),by rw [map_append];rfl,by simp [t],?_⟩
   .show ym _ _ [.val (.scr ns),.val (.int m),.val (.lst (cs.map .int)),.own (.lst (H.map vDs)),.val (.int (0+(i:Int))),a5] h'=_;have j:(H.map vDs).length<100000:=by rw [length_map];omega
    rw [yeB,yrP,yzk,k,ybo,yzl,ybo];show yeV 3 _ [.val (.scr ns),.val (.int m),.val (.lst (cs.map .int)),.own (.lst (H.map vDs)),.val (.int (0+(i:Int))),.val (.lst (ms.map .int))] h'=_;rw [yjz (xs:=H.map vDs) rfl,yzk,d,ybo,yzl,ybo,if_pos j];rfl
   .intro q c;rcases List.mem_append.mp c with c|c
    .exact f q c
    .rw [List.mem_singleton.mp c];exact hd)
  subst k d;rw [ygh] at r;exact ⟨H,a4,a5,e,by omega,by omega,n⟩
 obtain ⟨H,a4,a5,ek,f⟩:=key;refine ⟨H,?_,f⟩;have d:yhI (yb (ye 1) yh) [.val (.scr ns),.val (.int m),.val (.lst (cs.map .int)),.own (.lst []),.no,.no] h=some (yiS 0 m.toNat,h):=yoY rfl (by omega) (by omega);unfold yef;rw [yo];show ob (ym _ _ [.val (.scr ns),.no,.no,.no,.no,.no] h) fnK=_
 simpa [c0,p,u,d,ek]
 rfl
end
section
variable {h:AH}
theorem ytN {Y:Type}{inn:PV->PV->PSt}{e:XE}{p q g:Y->PV}:∀ {l:List Y},(∀ a∈l,e (inn (p a) (q a)) h=some (g a,h))->yzM yDh e inn (l.map fun a=>.tup [p a,q a]) h=some (l.map g,h)
 | [],_=>rfl
 | a::l,k=>by
  have d:=ytN fun y c=>k y (mem_cons_of_mem _ c)
  rw [map_cons,yzM];rw [show ∀ ρ,yDh ρ h=some _ from fun _=>rfl,ybo,k a mem_cons_self,ybo,d];rfl
theorem yGZ H:vT (tx H)=.lst (H.map fun ds=>.lst ((ds.map (·.1)).map .str)):=by unfold vT tx;rw [map_map];rfl
end
section
variable {h:AH}
theorem ywE (o:okH H):yeg [vH H] h=some (vT (tx H),h):=by
 have e:=ygi (e:=xFz (ymq (xIL _) [] _ _)) (inn:=ygU [] [.val (vH H)]) vDs (fun ds=>.lst ((ds.map _).map _)) (fun ds hd=>by
  have q:=ytN (h:=h) (inn:=yiY [] [.val (vDs ds)]) (q:=fun d=>.int d.2) (g:=fun d=>.str d.1) (l:=ds) fun _ _=>yrM
  have f:=(o.2.2 ds hd).1;show xFz _ [.val _] h=_;rw [yzk];unfold ymq;rw [show xIL _ [.val (vDs ds)] h=some (ds.map fun d=>.tup [.str d.1,.int d.2],h) from yFa,ybo,if_pos (by rw [length_map];omega),q,ybo,ybo,map_map];rfl)
 have b:((H.map vDs).length<=100000)=True:=eq_true (by rw [length_map];have:=o.2.1;omega);have c:xIL _ [.val (vH H)] h=some _:=yFa;unfold yeg;rw [yo];show ob (yO _ [.val _] h) fnK=_
 simpa [c,b,e]
 rw [yGZ]
end
def hC (g:HC) (W:Nat) (S:St) (as:List (Nat×Lc)):List (Nat×Nd):=H5 g S.bx S.sp S.en (as.map (·.1))++CR W as S.xs []
noncomputable def ub {Y:Type}(f:Bool->Y) (b:Bool) (x:Y):Bool->Y:=fun c=>if c=b then x else f c
section
variable {h h':AH}{W:Nat}{g:Bool->HC}{S:Bool->St}{as:List (Nat×Lc)}{own m m1 m2:List (Nat×Nd)}{n:Nat}{d d':Nd}{G:HC}{Z:St}
theorem HH.c (X:HH h G W Z.bx Z.sp Z.en as Z.xs own):At h (hC G W Z as++own):=by have:=X.at_;rw [yiD] at this;exact this
theorem HH.of (A:At h (hC G W Z as++own)) (l:LyOk as Z.xs):HH h G W Z.bx Z.sp Z.en as Z.xs own:=⟨by rw [yiD];exact A,l⟩
def T2 (h:AH) (W:Nat) (g:Bool->HC) (S:Bool->St) (own:List (Nat×Nd)):Prop:=∃ a:Bool->List (Nat×Lc),At h (hC (g false) W (S false) (a false)++(hC (g true) W (S true) (a true)++own))/\∀ b,LyOk (a b) (S b).xs
theorem T2.at_ (T:T2 h W g S own) b:∃ as w,HH h (g b) W (S b).bx (S b).sp (S b).en as (S b).xs w/\∀ {h' S' e},HH h' (g b) W S'.bx S'.sp S'.en e S'.xs w->T2 h' W g (ub S b S') own:=by
 obtain ⟨a,A,l⟩:=T;cases b
 .exact ⟨_,_,HH.of A (l false),fun {h' S' e} X=>⟨ub a false e,X.c,fun c=>by cases c;exact X.ly;exact l true⟩⟩
 .exact ⟨_,_,HH.of (A.perm (List.perm_append_comm_assoc _ _ _)) (l true),fun {h' S' e} X=>⟨ub a true e,X.c.perm (List.perm_append_comm_assoc _ _ _),fun c=>by cases c;exact l false;exact X.ly⟩⟩
end
section
variable {h:AH}{ns:List Int}
theorem ywF:∃ bx:List Int,yee [.scr ns] h=some (.lst (bx.map .int),h)/\1<=bx.length/\bx.length<=16/\∀ v∈bx,0<=v/\v<B64:=by
 have c0:yX [.scr ns,.int 0] h=some (.int (ns.getD 0 0),h):=yfF 0;have c1:yX [.scr ns,.int 1] h=some (.int (ns.getD 1 0),h):=yfF 1;have c2:yX [.scr ns,.int 2] h=some (.int (ns.getD 2 0),h):=yfF 2;obtain ⟨W,eW,w1,w16⟩:∃ W:Nat,atI [PV.int 1,.int 2,.int 3,.int 4,.int 3,.int 2,.int 16,.int 5] (ns.getD 0 0/3%8)=some (.int (W:Nat))/\1<=W/\W<=16:=by
  have:=ycF (ns.getD 0 0/3) (show (0:Int)<8 by decide);generalize ns.getD 0 0/3%8=k at *;rcases c8 this.1 this.2 with rfl|rfl|rfl|rfl|rfl|rfl|rfl|rfl
  .exact ⟨1,rfl,by decide,by decide⟩
  .exact ⟨2,rfl,by decide,by decide⟩
  .exact ⟨3,rfl,by decide,by decide⟩
  .exact ⟨4,rfl,by decide,by decide⟩
  .exact ⟨3,rfl,by decide,by decide⟩
  .exact ⟨2,rfl,by decide,by decide⟩
  .exact ⟨16,rfl,by decide,by decide⟩
  .exact ⟨5,rfl,by decide,by decide⟩
 obtain ⟨f,hf⟩:∃ f,ns.getD 0 0/3=f:=⟨_,rfl⟩
 rw [hf] at eW;obtain ⟨bx,e1,e2,e3⟩:=yoo (h:=h) (e:=xOp yBl (yJ ycz (yb (xOp oDiv (ye 1) (xOp yeP (ye 0) (xC (.int 1)))) (yh))) (xOp oMod (xOp oDiv (ye 2) (xOp yeP (ye 0) (xC (.int 1)))) (xC (.int 2)))) (inn:=ygU [2,3] [.val (.scr ns),.val (.int f),.val (.int (ns.getD 1 0)),.val (.int (ns.getD 2 0)),.val (.int (W:Nat))]) (v:=fun i:Int=>.int i) (Q:=fun v=>0<=v/\v<B64) (xs:=yiS 0 W) (fun x hx=>by
  obtain ⟨k,hk,rfl⟩:=List.mem_map.mp hx;have hk:=List.mem_range.mp hk;have d1:((0:Int)<0+(k:Int)+1/\0+(k:Int)+1<1073741824)=True:=eq_true (by omega);obtain ⟨n,q,hn⟩:=ymI (h:=h) (ns.getD 1 0/(0+(k:Int)+1));have m2:=ycF (ns.getD 2 0/(0+(k:Int)+1)) (show (0:Int)<2 by decide);generalize hz:ns.getD 2 0/(0+(k:Int)+1)%2=z at *;have mu:PX.MulOk n z=True:=eq_true (by right;constructor<;>omega);refine ⟨n*z,?_,?_⟩
  .show xOp yBl _ _ [.val (.int (0+(k:Int))),.val (.int (ns.getD 1 0)),.val (.int (ns.getD 2 0))] h=_
   simpa [d1,q,hz,mu]
  .rcases (show z=0\/z=1 by omega) with rfl|rfl
   .rw [Int.mul_zero];exact ⟨by decide,by decide⟩
   .rw [Int.mul_one];exact hn)
 rw [ygh] at e2;refine ⟨bx,?_,by omega,by omega,e3⟩;have i1:yhI (yb (ye 4) (yh)) [.val (.scr ns),.val (.int f),.val (.int (ns.getD 1 0)),.val (.int (ns.getD 2 0)),.val (.int (W:Nat))] h=some (yiS 0 W,h):=yoY (j:=(W:Nat)) rfl (by omega) (by omega);have l1:((yiS 0 W).length<=100000)=True:=eq_true (by rw [ygh];omega);unfold yee;rw [yo];show ob (ym _ _ [.val (.scr ns),.no,.no,.no,.no] h) fnK=_;have ix:∀ h,ycM (.lst [PV.int 1,.int 2,.int 3,.int 4,.int 3,.int 2,.int 16,.int 5]) (.int (f%8)) h=some (.int (W:Nat),h):=fun h=>by unfold ycM;simp only [eW]
 clear e3
 simpa [c0,hf,c1,c2,ix,i1,l1,e1,-yCL]
noncomputable def nV (l:List Nat):List PV:=l.map fun i:Nat=>.int (i:Nat)
def tuS (X:PV) (m:Nat) (is:List Nat) (v3 v4 v5:PVar):PSt:=[.val X,.val (.int (m:Nat)),.own (.lst (nV is)),v3,v4,v5]
theorem yEB (h1:1<=m) (n:m<=4) :∀ (l:List PV) (b:List Nat) (M:Int) (v5:PVar),b.length+l.length<=1000->(∀ i∈b,i<m)->∃ c f d,ygc (yv 5) tuB l (tuS X m b v3 (.val (.int M)) v5) h=some (.nx (tuS X m c v3 (.val (.int f)) d),h)/\c.length=b.length+l.length/\∀ i∈c,i<m
 | [],b,M,v5,_,H=>⟨b,M,v5,rfl,rfl,H⟩
 | x::l,b,M,v5,hl,H=>by
  obtain ⟨k,ek,k1⟩:=yAT h1 M;obtain ⟨c,f,d,q,j,p⟩:=yEB (X:=X) h1 n l (b++[k]) (M/(m:Nat)) (.val x) (by grind) fun i e=>by
   rcases List.mem_append.mp e with e|e
   .exact H i e
   simp_all
  refine ⟨c,f,d,?_,by rw [j,length_append,length_cons,length_nil,length_cons];omega,p⟩;have o:tuB (tuS X m b v3 (.val (.int M)) (.val x)) h=some (.nx (tuS X m (b++[k]) v3 (.val (.int (M/(m:Nat)))) (.val x)),h):=by
   have g:((0:Int)<(m:Nat))=True:=eq_true (by omega);have r:(((m:Nat):Int)<1073741824)=True:=eq_true (by omega);have s1:yeV 2 (xOp oMod (ye 4) (ye 1)) (tuS X m b v3 (.val (.int M)) (.val x)) h=some (.nx (tuS X m (b++[k]) v3 (.val (.int M)) (.val x)),h):=by
    rw [yjz (xs:=nV b) rfl];unfold tuS
    simpa [g]
    rw [ek,if_pos (by unfold nV;rw [length_map];omega)];unfold nV;rw [map_append];rfl
   unfold tuB;rw [yeB,s1,ybo,yib];unfold tuS
   simpa [g,r]
  rw [ymE rfl (o),q]
def tuO:XS:=ym (ybs (xOp oMod (ye 3) (xOp yBm (xC (.int 10)) (xC (.int 9)))) (yv 4)) (yiV (yhI (yb (xC (.int 5)) (yh))) (yv 5) tuB)
theorem yya (h1:1<=m) (o:m<=4):∀ (l:List Int) d v3 v4 v5,d.length+5*l.length<=900->(∀ i∈d,i<m)->∃ b f g j,ygc (yv 3) tuO (l.map .int) (tuS X m d v3 v4 v5) h=some (.nx (tuS X m b f g j),h)/\b.length<=d.length+5*l.length/\∀ i∈b,i<m
 | [],d,v3,v4,v5,_,H=>⟨d,v3,v4,v5,rfl,Nat.le_add_right _ _,H⟩
 | c::l,d,v3,v4,v5,hl,H=>by
  rw [length_cons] at hl;obtain ⟨e,M1,n,u,q,x⟩:=yEB (X:=X) h1 o (yiS 0 5) d _ v5 (by rw [ygh];omega) H;rw [ygh] at q;obtain ⟨b,v,p,k,r,y,w⟩:=yya h1 o l e _ _ n (by omega) x;refine ⟨b,v,p,k,?_,by grind,w⟩;have t:PX.PowOk 10 9=True:=eq_true (by decide);have s1:ybs (xOp oMod (ye 3) (xOp yBm (xC (.int 10)) (xC (.int 9)))) (yv 4) (tuS X m d (.val (.int c)) v4 v5) h=some (.nx (tuS X m d (.val (.int c)) (.val (.int (c%1000000000))) v5),h):=by
   unfold tuS
   simpa [t]
  have s:tuO (tuS X m d (.val (.int c)) v4 v5) h=some (.nx (tuS X m e (.val (.int c)) (.val (.int M1)) n),h):=by unfold tuO;rw [yeB,s1,ybo,yib,ynJ,show ∀ ρ,yhI _ ρ h=some (yiS 0 5,h) from fun _=>rfl,ybo,u]
  rw [map_cons,ymE rfl (s),r]
theorem ywG (h1:1<=m) (e:m<=4):∃ b:List Nat,ycK [.scr ns,.int (m:Nat)] h=some (.lst (nV b),h)/\b.length<=250/\∀ i∈b,i<m:=by
 have c:=ylb ns (some 33) (some 83);have f:=yon ns 33 83 (by omega);generalize yoL ns _ _=cs at *;obtain ⟨b,v3,v4,v5,q,g,d⟩:=yya (h:=h) h1 e cs [] .no .no .no (by grind) ybV;refine ⟨b,?_,by grind,d⟩;have sl:yoM (.scr ns) (some 33) (some 83)=fun h=>some (.lst (cs.map .int),h):=by funext h;show some _=_;rw [c]
 have i1:xIL (xFz (yqx yoM (ye 0) (yeo (xC (.int 33))) (yeo (xC (.int 83))))) (tuS (.scr ns) m [] .no .no .no) h=some (cs.map .int,h):=yES (by
  unfold tuS;clear q
  simpa [sl,-yCM])
 unfold ycK;rw [yo];show ob (ym _ (ym (yiV _ (yv 3) tuO) _) [.val _,.val _,.no,.no,.no,.no] h) fnK=_;rw [yeB,show ygb _ 2 _ h=some (.nx (tuS (.scr ns) m [] .no .no .no),h) from rfl,ybo,yib,yeB,ynJ,i1,ybo,q,ybo,yib];rfl
end
section
variable {h:AH}{ns:List Int}
def rwP (ds:List (List Pce)):List (Str×List Rw):=ds.map fun ps=>(dTx ps,dRw ps)
def S00 (bx:List Int) (hs:List (List (List Pce))):St:=⟨bx,replicate bx.length 0,[],(hs.map rwP).map hd0⟩
theorem yEC (D:yAQ ps):(dRw ps).length<=100:=by obtain ⟨b,_,_,d⟩:=yxP D.ok;have c:dRw ps=cat _ 0++[Rw.lay]:=(yAR D.ok).symm;have:=yfq (f:=0) b;have:=D.le;grind
theorem sw0 (l:∀ v∈bx,0<=v/\v<B64) (H:∀ ds∈hs,ds.length<=6/\∀ x∈ds,yAQ x):SW bx.length (S00 bx hs):=by
 refine ⟨rfl,by simp [S00],l,fun x g=>?_,(fun _ h=>by cases h),?_⟩
 .obtain ⟨d,hd,rfl⟩:=List.mem_map.mp g;obtain ⟨c,b,rfl⟩:=List.mem_map.mp hd;have j:GV Z8:=⟨rfl,fun v hv=>by rw [show v=0 by simpa [Z8] using hv];exact in0⟩
  have f:∀ d∈rwP c,∃ P,yxK d.2 P/\d.2.length<=100:=fun d hd=>by obtain ⟨ps,hp,rfl⟩:=List.mem_map.mp hd;exact ⟨_,yAS ((H c b).2 ps hp),yEC ((H c b).2 ps hp)⟩
  have m:(rwP c).length<=6:=by unfold rwP;simp_all
  generalize rwP c=ds at *;refine ⟨fun i e=>?_,zero_le _,j,NF0,yHQ ds,fun k=>?_,by simpa [hd0] using m,?_⟩
  .have e:=by simpa [hd0] using e
   obtain ⟨P,G,hl⟩:=f ds[i] (getElem_mem e);refine ⟨_,P,?_,G,hl⟩;show (ds.map yua)[i]?=_;rw [getElem?_map,List.getElem?_eq_getElem e];rfl
  .cases ds with
   | nil=>exact absurd k (by show ¬ 0<0;decide)
   | cons d r =>
    obtain ⟨P,G,_⟩:=f d mem_cons_self;exact ⟨_,P,rfl,G,.start G j⟩
  .cases ds with
   | nil=>exact zero_le _
   | cons d r =>
    obtain ⟨P,G,hl⟩:=f d mem_cons_self;show (d.2.map yV).length<=100;simp_all
 .show 0=(((hs.map rwP).map hd0).map (·.nth)).sum;rw [map_map,map_map]
  induction hs with
  | nil=>rfl
  | cons d r ih=>rw [map_cons,List.sum_cons,<- ih fun x g=>H x (mem_cons_of_mem _ g)];rfl
theorem ytO:∀ {ds:List DT},(∀ d∈ds,okD d.1 d.2)->∃ qs:List _,ds.map (·.1)=qs.map dTx/\(∀ q∈qs,yAQ q)/\qs.length=ds.length
 | [],_=>⟨[],rfl,ybV,rfl⟩
 | d::ds,H=>by
  obtain ⟨ps,D,e⟩:=H d mem_cons_self;obtain ⟨qs,f,b,c⟩:=ytO fun d hd=>H d (mem_cons_of_mem _ hd)
  exact ⟨_,by simp_all,ydR D b,by simp_all⟩
theorem yyb:∀ {H:List _},(∀ ds∈H,yFb ds)->∃ hs:List _,vT (tx H)=.lst (hsV (hs.map rwP))/\(∀ ds∈hs,ds.length<=6/\∀ x∈ds,yAQ x)/\hs.length=H.length
 | [],_=>⟨[],rfl,ybV,rfl⟩
 | ds::H,K=>by
  obtain ⟨hs,b,f,j⟩:=yyb fun d hd=>K d (mem_cons_of_mem _ hd)
  obtain ⟨i,e⟩:=K ds mem_cons_self;obtain ⟨qs,g,c,k⟩:=ytO e;refine ⟨_,?_,ydR ⟨by omega,c⟩ f,by simp_all⟩;have b:=by exact PV.lst.inj b
  show PV.lst (PV.lst ((ds.map _).map _)::(tx H).map _)=.lst (PV.lst _::hsV _);rw [b,g];unfold rwP;rw [map_map,map_map];rfl
theorem yED (w:SW W S) (o:S.xs.length<=4):Phi S<=80000:=by
 have T:rmS S.xs<=24:=by
  have:∀ xs:List HD,(∀ x∈xs,HW W x)->rmS xs<=6*xs.length:=fun xs=>by
   induction xs with
   | nil=>exact fun _=>Nat.le_refl _
   | cons x xs ih =>
    intro H;have:=ih fun y m=>H y (mem_cons_of_mem _ m)
    have:=(H x mem_cons_self).dl;show rm x+rmS xs<=6*(xs.length+1);unfold rm;omega
  have:=this S.xs w.x;omega
 have P:∀ x,HW W x->phi S.sp (rmS S.xs) x<=20000:=fun x k=>by
  have r:=k.rl;have c:cu S.sp x<=200:=by
   unfold cu;split
   .omega
   .split<;>omega
  have f:fu x<=600:=by
   have:∀ l:List PV,(∀ i,i<l.length->∃ y∈[()],lnV (l.getD i .non)<=100)->(l.map lnV).sum<=100*l.length:=fun l=>by
    induction l with
    | nil=>exact fun _=>Nat.le_refl _
    | cons a l ih =>
     intro H;obtain ⟨_,_,n⟩:=H 0 (Nat.zero_lt_succ _);have n:lnV a<=100:=n;have:=ih fun i j=>H (i+1) (Nat.succ_lt_succ j)
     rw [map_cons,List.sum_cons,length_cons];omega
   have q:=this (x.ds.drop (x.nth+1)) fun i j=>by rw [length_drop] at j;obtain ⟨rws,P,e,G,hl⟩:=k.ds (x.nth+1+i) (by omega);refine ⟨(),List.mem_singleton.mpr rfl,?_⟩;rw [getD_eq_getElem?_getD,List.getElem?_drop,e];show (rws.map yV).length<=100;rw [length_map];exact hl
   have d:=k.dl;rw [length_drop] at q;unfold fu;omega
  unfold phi;have a:=Nat.mul_le_mul r (show rmS S.xs-rm x<=24 by omega);have b:=Nat.mul_le_mul f (show 1+(rmS S.xs-rm x)<=25 by omega);omega
 have:∀ xs:List HD,(∀ x∈xs,HW W x)->ywy S.sp (rmS S.xs) xs<=20000*xs.length:=fun xs=>by
  induction xs with
  | nil=>exact fun _=>Nat.le_refl _
  | cons x xs ih =>
   intro H;have:=ih fun y m=>H y (mem_cons_of_mem _ m)
   have:=P x (H x mem_cons_self);show phi _ _ x+ywy _ _ xs<=20000*(xs.length+1);omega
 have:=this S.xs w.x;unfold Phi;omega
end
section
variable {h:AH}{W n i:Nat}{g:Bool->HC}{S S':St}{own:List (Nat×Nd)}{us:List PV}{v0 v1 v2 v5 v6 v7:PVar}
theorem T2.both (T:T2 h W g (ub (ub (fun _=>S) false S') true S') own):T2 h W g (fun _=>S') own:=by rw [show (fun _=>S')=ub (ub _ false S') true S' from funext fun b=>by cases b<;>rfl];exact T
theorem Rd.fl {l:List Nat}{S S':St}{us:List PV}(R:Rd W l S us S'):∀ u∈us,Fl 2 u:=by
 induction R with
 | nil=>exact ybV
 | skip _ _ _ ih=>exact ih
 | go _ _ T _ ih =>
  obtain ⟨xs,rfl,F⟩:=T.fl;exact ydR (fun x hx=>by
   simp only [mem_cons,not_mem_nil,or_false] at hx;rcases hx with rfl|rfl
   .exact yBr
   .exact F) ih
theorem Cal.fl {n:Nat}{S S':St}{us:List PV}(C:Cal W n S us S'):∀ u∈us,Fl 2 u:=by
 induction C with
 | stop=>exact ybV
 | step _ R _ ih=>exact fun u z=>(List.mem_append.mp z).elim (R.fl u) (ih u)
noncomputable def lwS (v0 v1 v2:PVar) (g:Bool->HC) (v5 v6 v7:PVar):PSt:=[v0,v1,v2,.val (.loc (g false).H),.val (.loc (g true).H),v5,v6,v7]
theorem yHa:yiW yer [.bl b,.ty "bool"] h=some (.bl true,h):=by cases b<;>kernel_rfl!
theorem yHb:yiW yer [.lst us,.ty "list"] h=some (.bl true,h):=by kernel_rfl!
theorem yIZ:oNe (.bl b) (.bl b) h=some (.bl false,h):=by cases b<;>rfl
theorem yEE:oEq (.int (cnt S)) (.int 0) h=some (.bl (clm S),h):=by
 have z:=yBc (S:=S);cases c:clm S with
 | true =>
  rw [c] at z;have e:((cnt S:Int)=0)=True:=by rw [z];simp
  simpa [e]
 | false =>
  rw [c] at z;have e:((cnt S:Int)=0)=False:=by rw [z];simp
  simpa [e]
theorem yBh (T:T2 h W g (fun _=>S) own) (O:TO W S i t S') (j:S.xs.length<=8):∃ h' e,lwB (lwS v0 v1 v2 g (.val (.int i)) v6 v7) h=some (.nx (lwS v0 v1 v2 g (.val (.int i)) e v7),h')/\T2 h' W g (fun _=>S') own:=by
 obtain ⟨A,w,X,d⟩:=T.at_ false;obtain ⟨h1,as1,u,v⟩:=O.t _ _ _ _ X;have z:=d v;obtain ⟨as2,B,f,c⟩:=z.at_ true;obtain ⟨h2,q,l,y⟩:=O.t _ _ _ _ (f);refine ⟨h2,.val (.bl (clm S)),?_,(c y).both⟩;have x:=calm_eq X j;have s:=ykW X j;have r:=yEE (h:=h) (S:=S);have p:=yHa (h:=h) (b:=clm S);have k:=yIZ (h:=h) (b:=clm S);obtain ⟨xs,o,F⟩:=O.fl;have ns:ytZ t t h2=some (.bl false,h2):=by rw [o];exact (ypG F (by decide)).2.2
 have o1:=X.at_.get 0 rfl;have o2:=f.at_.get 0 rfl;have s1:ybs (yJ ydp (yb (ye 3) (yh))) (yv 6) (lwS v0 v1 v2 g (.val (.int i)) v6 v7) h=some (.nx (lwS v0 v1 v2 g (.val (.int i)) (.val (.bl (clm S))) v7),h):=by
  unfold lwS
  simpa [x]
 have s2:ybG (xOr (yjs (yt (xCB (yiW yer) (yb (ye 6) (yb (xC (.ty "bool")) (yh)))))) (yt (xOp (oNe) (ye 6) (xOp (oEq) (yJ ybX (yb (ye 3) (yh))) (xC (.int 0)))))) (yO (xC (.bl false))) (yS) (lwS v0 v1 v2 g (.val (.int i)) (.val (.bl (clm S))) v7) h=some (.nx (lwS v0 v1 v2 g (.val (.int i)) (.val (.bl (clm S))) v7),h):=by
  unfold lwS
  simpa [p,s,r,k]
 unfold lwB;rw [yeB,s1,ybo,yib,yeB,s2,ybo,yib];unfold lwS
 simpa [ycm,yD (m:="turn") o1 (by rfl'),u,yD (m:="turn") o2 (by rfl'),l,ns]
theorem ytP (h1:1<=W) (b:W<=16):∀ a h S v5 v6,SW W S->S.xs.length<=8->(∀ i∈a,i<S.xs.length)->T2 h W g (fun _=>S) own->∃ h' S' f d,ygc (yv 5) lwB (nV a) (lwS v0 v1 v2 g v5 v6 v7) h=some (.nx (lwS v0 v1 v2 g f d v7),h')/\T2 h' W g (fun _=>S') own/\SW W S'/\S'.xs.length=S.xs.length
 | [],h,S,v5,v6,w,_,_,T=>⟨h,S,v5,v6,rfl,T,w,rfl⟩
 | i::a,h,S,v5,v6,w,c,r,T=>by obtain ⟨t,k,O⟩:=ytF w h1 b c (r i mem_cons_self);obtain ⟨k1,m,o,q⟩:=yBh T O c;obtain ⟨k2,S',j,x6,l,e,p,l'⟩:=ytP h1 b a k1 k _ m O.w (by rw [O.l];exact c) (fun i z=>by rw [O.l];simp_all) q;refine ⟨k2,S',j,x6,?_,e,p,by rw [l',O.l]⟩;show ygc _ lwB (PV.int _::nV a) _ h=_;rw [ymE rfl (o),l]
theorem yBi (T:T2 h W g (fun _=>S) own) (w:SW W S) (h1:1<=W) (a:W<=16) (P:S.xs.length<=4):∃ h',ob (lqE (lwS v0 v1 v2 g v5 v6 v7) h) fnK=some (.bl true,h'):=by
 obtain ⟨n,us,S',C,e,l',hn,hu,k⟩:=yxT h1 a 80000 S (yED w P) w (by omega);obtain ⟨as,w0,X,f⟩:=T.at_ false;obtain ⟨k1,as1,E,F⟩:=ymH C X (by omega) (by omega) (by omega);have u:=f F;obtain ⟨as2,w2,o,d⟩:=u.at_ true;obtain ⟨k2,s,H,G⟩:=ytH C (o) (by omega) (by omega) (by omega);have j:T2 k2 W g (fun _=>S') own:=(d G).both;obtain ⟨R,w4,Y,c⟩:=j.at_ false;obtain ⟨p,w5,Z,_⟩:=j.at_ true;have l:=calm_eq Y (by omega);have q:=ykW Y (by omega);have x:=ygK Y e a (by omega);have N:=ygK Z e a (by omega);obtain ⟨k3,r,K,B⟩:=ymH (.stop k) Y (by omega) (by omega) (zero_le _);have m:T2 k3 W g (fun _=>S') own:=by have:=c B;rwa [show ub (fun _=>S') false S'=fun _=>S' from funext fun b=>by cases b<;>rfl] at this
 obtain ⟨M,w7,y,_⟩:=m.at_ false;obtain ⟨L,w8,I,_⟩:=m.at_ true;have J:=ygK y e a (by omega);have t:=ygK I e a (by omega);have A:=(ypG (h:=k2) (xs:=us) C.fl (by decide)).1;have v:=(ypG (h:=k2) (xs:=lkV S') (e.fl a) (by decide)).1;have U:=(ypG (h:=k3) (xs:=lkV S') (e.fl a) (by decide)).2.1;have D:yzD (.lst []) (.lst []) k3=some (.bl true,k3):=rfl;have i1:=yHb (h:=k1) (us:=us);rw [k] at l;have z:(((cnt S':Nat):Int)=0)=True:=by rw [yBc,k];simp
 have O:oNe (.int (cnt S':Nat)) (.int 0) k2=some (.bl false,k2):=by simpa [z]
 refine ⟨k3,?_⟩;unfold lqE lwS
 simpa [E,i1,H,A,l,yDz,x,N,v,q,O,K,D,J,t,U]
end
section
variable {h:AH}
theorem yEF (ns:List Int) (hl:ns.length<=63):∃ h',yvQ [.scr ns] h=some (.bl true,h'):=by
 obtain ⟨H,O,o⟩:=ytM (h:=h) (ns:=ns);have E:=ywE (h:=h) o;obtain ⟨h2,R,s⟩:=o;obtain ⟨hs,L,j,S⟩:=yyb s;rw [L] at E;obtain ⟨bx,J,l,e,u⟩:=ywF (h:=h) (ns:=ns);have n:∀ p∈hs.map rwP,p.length<=6/\∀ d∈p,Rdb d:=fun p hp=>by obtain ⟨ds,hd,rfl⟩:=List.mem_map.mp hp;refine ⟨by unfold rwP;rw [length_map];exact (j ds hd).1,fun d r=>?_⟩;obtain ⟨ps,y,rfl⟩:=List.mem_map.mp r;exact (yEr ((j ds hd).2 ps y)).1
 obtain ⟨k1,c,as1,M,F,z⟩:=ymG (h:=h) (bx:=bx) (hs:=hs.map rwP) l e u n (by rw [length_map];omega) (by rw [length_map];omega);obtain ⟨k2,g,as2,N,A,w⟩:=ymG (h:=k1) (bx:=bx) (hs:=hs.map rwP) l e u n (by rw [length_map];omega) (by rw [length_map];omega);have q:HH k1 c bx.length (S00 bx hs).bx (S00 bx hs).sp (S00 bx hs).en as1 (S00 bx hs).xs []:=z [] ⟨List.nodup_nil,fun _ h=>by cases h⟩;have k:=w _ q.c;have T:T2 k2 bx.length (fun b=>if b then g else c) (fun _=>S00 bx hs) []:=⟨fun b=>if b then as2 else as1,k.c.perm (List.perm_append_comm_assoc _ _ _),fun b=>by
  cases b
  .exact q.ly
  .exact k.ly⟩
 have P:(S00 bx hs).xs.length=hs.length:=by show ((hs.map rwP).map hd0).length=_;rw [length_map,length_map]
 obtain ⟨C,K,i1,G⟩:=ywG (h:=k2) (ns:=ns) (m:=hs.length) (by omega) (by omega);have w0:=sw0 u j;obtain ⟨k3,S',v5,v6,t,T',x,l'⟩:=ytP (v0:=.val (.scr ns)) (v1:=.val (.lst (hsV (hs.map rwP)))) (v2:=.val (.lst (bx.map .int))) (v7:=.no) l e C k2 (S00 bx hs) .no .no w0 (by omega) (fun i I=>by rw [P];exact G i I) T;obtain ⟨h',v⟩:=yBi (v0:=.val (.scr ns)) (v1:=.val (.lst (hsV (hs.map rwP)))) (v2:=.val (.lst (bx.map .int))) (v5:=v5) (v6:=v6) (v7:=.no) T' x l e (by omega);refine ⟨h',.trans ?_ v⟩;have D:ybW [.lst (hsV (hs.map rwP))] k2=some (.int (hs.length:Nat),k2):=by rw [ymf];unfold hsV;rw [length_map,length_map]
 have B:xIL (yJ ycK (yb (ye 0) (yb (xCB (ybW) (yb (ye 1) (yh))) (yh)))) (lwS (.val (.scr ns)) (.val (.lst (hsV (hs.map rwP)))) (.val (.lst (bx.map .int))) (fun b=>if b then g else c) .no .no .no) k2=some (nV C,k2):=yES (by
  clear t v T T' q k z w w0 x n j s;unfold lwS
  simpa [D,K,-ymf])
 have f:yiV (xIL (yJ ycK (yb (ye 0) (yb (xCB (ybW) (yb (ye 1) (yh))) (yh))))) (yv 5) lwB (lwS (.val (.scr ns)) (.val (.lst (hsV (hs.map rwP)))) (.val (.lst (bx.map .int))) (fun b=>if b then g else c) .no .no .no) k2=some (.nx (lwS (.val (.scr ns)) (.val (.lst (hsV (hs.map rwP)))) (.val (.lst (bx.map .int))) (fun b=>if b then g else c) v5 v6 .no),k3):=by rw [ynJ,B,ybo,t]
 unfold lwS at f;rw [show ((fun b=>if b=true then g else c) false).H=h.length from F,show ((fun b=>if b=true then g else c) true).H=k1.length from A] at f;clear t v T T' q k z w w0 x n j s B D;unfold yvQ lwS;rw [yo,show ((fun b=>if b=true then g else c) false).H=h.length from F,show ((fun b=>if b=true then g else c) true).H=k1.length from A];show ob (ym _ (ym _ (ym _ (ym _ (ym (yiV _ (yv 5) lwB) lqE)))) [.val (.scr ns),.no,.no,.no,.no,.no,.no,.no] h) fnK=_
 simpa [O,E,J,ysl,M,N,f,-ynJ]
end
end
noncomputable def top (i:Nat):Stmt:=PySem.Challenge.pw_retryhall_k42_calmed_rounds.main.body.getD i (.Pass ⟨0,0,0,0⟩)
noncomputable abbrev FR:=Str×Str×Stmt×Nat×List Str
abbrev fRw (x q:Str) (s:Stmt) (k:Nat) (n:List Str):FR:=(x,q,s,k,n)
noncomputable abbrev mRw (k:Nat) (x:Str) (n:Nat):Nat×Str×Nat:=(k,x,n)
def r0:FR:=fRw "__init__" "Log.__init__" (inClass (top 8) 0) 1 ["self"]
def r1:FR:=fRw "write" "Log.write" (inClass (top 8) 1) 3 ["self","box","number","top"]
def r2:FR:=fRw "own" "Log.own" (inClass (top 8) 2) 2 ["self","box","layer"]
def r3:FR:=fRw "begin" "Log.begin" (inClass (top 8) 3) 1 ["self"]
def r4:FR:=fRw "settle" "Log.settle" (inClass (top 8) 4) 1 ["self","top","beneath"]
def r5:FR:=fRw "drop" "Log.drop" (inClass (top 8) 5) 1 ["self"]
def r6:FR:=fRw "see" "Log.see" (inClass (top 8) 7) 3 ["self","box","number"]
def r7:FR:=fRw "saw" "Log.saw" (inClass (top 8) 8) 1 ["self"]
def r8:FR:=fRw "wrote" "Log.wrote" (inClass (top 8) 9) 1 ["self","lowest"]
def r9:FR:=fRw "reckon" "reckon" (top 15) 3 ["word","one","other"]
def r10:FR:=fRw "is_whole" "is_whole" (top 16) 1 ["value"]
def r11:FR:=fRw "is_number" "is_number" (top 17) 1 ["value"]
def r12:FR:=fRw "is_made_of" "is_made_of" (top 23) 2 ["text","signs"]
def r13:FR:=fRw "number_of" "number_of" (top 18) 1 ["text","number"]
def r14:FR:=fRw "is_word" "is_word" (top 19) 1 ["text"]
def r15:FR:=fRw "is_slot" "is_slot" (top 20) 1 ["text"]
def r16:FR:=fRw "slot_index" "slot_index" (top 21) 1 ["slot"]
def r17:FR:=fRw "is_name" "is_name" (top 22) 1 ["text"]
def r18:FR:=fRw "__init__" "Doer.__init__" (inClass (top 25) 0) 3 ["self","slots","width"]
def r19:FR:=fRw "held_in" "Doer.held_in" (inClass (top 25) 1) 2 ["self","slot"]
def r20:FR:=fRw "hold" "Doer.hold" (inClass (top 25) 2) 3 ["self","slot","number"]
def r21:FR:=fRw "box_at" "Doer.box_at" (inClass (top 25) 3) 2 ["self","place"]
def r22:FR:=fRw "do_reckon" "Doer.do_reckon" (inClass (top 25) 4) 5 ["self","word","slot","one","other"]
def r23:FR:=fRw "do_put" "Doer.do_put" (inClass (top 25) 5) 3 ["self","place","slot"]
def r24:FR:=fRw "sees_at" "Doer.sees_at" (inClass (top 25) 6) 2 ["self","place"]
def r25:FR:=fRw "take_own" "Doer.take_own" (inClass (top 25) 7) 3 ["self","slot","place"]
def r26:FR:=fRw "take_seen" "Doer.take_seen" (inClass (top 25) 8) 4 ["self","slot","place","numbers","box"]
def r27:FR:=fRw "takes" "takes" (top 27) 2 ["begun_by","row"]
def r28:FR:=fRw "__init__" "Run.__init__" (inClass (top 28) 0) 4 ["self","rows","slots","width"]
def r29:FR:=fRw "row" "Run.row" (inClass (top 28) 1) 1 ["self"]
def r30:FR:=fRw "is_stale" "Run.is_stale" (inClass (top 28) 2) 2 ["self","stamps"]
def r31:FR:=fRw "taker_layer" "Run.taker_layer" (inClass (top 28) 3) 2 ["self","row","layer"]
def r32:FR:=fRw "is_looked_over" "Run.is_looked_over" (inClass (top 28) 4) 1 ["self","row"]
def r33:FR:=fRw "see_next" "Run.see_next" (inClass (top 28) 5) 3 ["self","numbers","stamps","row","box"]
def r34:FR:=fRw "go_plain" "Run.go_plain" (inClass (top 28) 7) 2 ["self","row"]
def r35:FR:=fRw "lead" "Run.lead" (inClass (top 28) 8) 2 ["self","row"]
def r36:FR:=fRw "leave" "Run.leave" (inClass (top 28) 10) 2 ["self","row","layer","side","begun_by"]
def r37:FR:=fRw "throw" "Run.throw" (inClass (top 28) 9) 2 ["self","row","number","begun_by"]
def r38:FR:=fRw "go" "Run.go" (inClass (top 28) 6) 1 ["self","row"]
def r39:FR:=fRw "state" "Hand.state" (inClass (top 29) 1) 1 ["self"]
def r40:FR:=fRw "new_run" "Hand.new_run" (inClass (top 29) 2) 1 ["self","rows"]
def r41:FR:=fRw "begin_anew" "Hand.begin_anew" (inClass (top 29) 3) 1 ["self"]
def r42:FR:=fRw "fall_asleep" "Hand.fall_asleep" (inClass (top 29) 4) 1 ["self"]
def r43:FR:=fRw "go_on" "Hand.go_on" (inClass (top 29) 5) 2 ["self","slots"]
def r44:FR:=fRw "__init__" "Hand.__init__" (inClass (top 29) 0) 3 ["self","deeds","width"]
def r45:FR:=fRw "__init__" "Let.__init__" (inClass (top 33) 0) 3 ["self","slot","number"]
def r46:FR:=fRw "__init__" "Reckon.__init__" (inClass (top 34) 0) 5 ["self","word","slot","one","other"]
def r47:FR:=fRw "__init__" "Take.__init__" (inClass (top 35) 0) 3 ["self","slot","place"]
def r48:FR:=fRw "__init__" "Put.__init__" (inClass (top 36) 0) 3 ["self","place","slot"]
def r49:FR:=fRw "__init__" "If.__init__" (inClass (top 37) 0) 4 ["self","slot","parts","others"]
def r50:FR:=fRw "__init__" "Either.__init__" (inClass (top 38) 0) 3 ["self","parts","others"]
def r51:FR:=fRw "__init__" "Try.__init__" (inClass (top 39) 0) 5 ["self","parts","name","slot","others"]
def r52:FR:=fRw "__init__" "Throw.__init__" (inClass (top 40) 0) 3 ["self","name","slot"]
def r53:FR:=fRw "long" "Let.long" (inClass (top 33) 2) 1 ["self"]
def r54:FR:=fRw "long" "Reckon.long" (inClass (top 34) 2) 1 ["self"]
def r55:FR:=fRw "long" "Take.long" (inClass (top 35) 2) 1 ["self"]
def r56:FR:=fRw "long" "Put.long" (inClass (top 36) 2) 1 ["self"]
def r57:FR:=fRw "long" "Throw.long" (inClass (top 40) 2) 1 ["self"]
def r58:FR:=fRw "long" "Wait.long" (inClass (top 41) 1) 1 ["self"]
def r59:FR:=fRw "list_long" "list_long" (top 31) 1 ["parts"]
def r60:FR:=fRw "long" "If.long" (inClass (top 37) 2) 1 ["self"]
def r61:FR:=fRw "long" "Either.long" (inClass (top 38) 2) 1 ["self"]
def r62:FR:=fRw "long" "Try.long" (inClass (top 39) 2) 1 ["self"]
def r63:FR:=fRw "plain_rows" "plain_rows" (top 46) 1 ["part"]
def r64:FR:=fRw "first_row" "first_row" (top 48) 2 ["part","second"]
def r65:FR:=fRw "rows_between" "rows_between" (top 49) 2 ["part","behind"]
def r66:FR:=fRw "list_rows" "list_rows" (top 44) 2 ["parts","first","rows","part"]
def r67:FR:=fRw "part_rows" "part_rows" (top 45) 2 ["part","first"]
def r68:FR:=fRw "sided_rows" "sided_rows" (top 47) 2 ["part","first","behind","second","inner","outer"]
def r69:FR:=fRw "rows_of" "rows_of" (top 43) 1 ["deed"]
def r70:FR:=fRw "__init__" "Reader.__init__" (inClass (top 55) 0) 2 ["self","words"]
def r71:FR:=fRw "words_of" "words_of" (top 54) 1 ["text"]
def r72:FR:=fRw "ahead" "Reader.ahead" (inClass (top 55) 1) 1 ["self"]
def r73:FR:=fRw "taken" "Reader.taken" (inClass (top 55) 2) 1 ["self","word"]
def r74:FR:=fRw "pass_over" "Reader.pass_over" (inClass (top 55) 3) 2 ["self","wanted","word"]
def r75:FR:=fRw "slot_taken" "Reader.slot_taken" (inClass (top 55) 4) 1 ["self","word"]
def r76:FR:=fRw "name_taken" "Reader.name_taken" (inClass (top 55) 5) 1 ["self","word"]
def r77:FR:=fRw "number_taken" "Reader.number_taken" (inClass (top 55) 6) 1 ["self","word","number"]
def r78:FR:=fRw "reckon_taken" "Reader.reckon_taken" (inClass (top 55) 14) 2 ["self","word","slot","one","other"]
def r79:FR:=fRw "plain_taken" "Reader.plain_taken" (inClass (top 55) 13) 2 ["self","word","slot","place","name"]
def r80:FR:=fRw "list_taken" "Reader.list_taken" (inClass (top 55) 7) 2 ["self","around","parts"]
def r81:FR:=fRw "side_taken" "Reader.side_taken" (inClass (top 55) 8) 2 ["self","around","parts"]
def r82:FR:=fRw "part_taken" "Reader.part_taken" (inClass (top 55) 9) 2 ["self","around","word"]
def r83:FR:=fRw "if_taken" "Reader.if_taken" (inClass (top 55) 10) 2 ["self","around","slot","parts","others"]
def r84:FR:=fRw "either_taken" "Reader.either_taken" (inClass (top 55) 11) 2 ["self","around","parts","others"]
def r85:FR:=fRw "try_taken" "Reader.try_taken" (inClass (top 55) 12) 2 ["self","around","parts","name","slot","others"]
def r86:FR:=fRw "read" "read" (top 53) 1 ["text","reader","deed"]
def r87:FR:=fRw "check_boxes" "check_boxes" (top 60) 1 ["boxes"]
def r88:FR:=fRw "rows_of_deeds" "rows_of_deeds" (top 62) 1 ["texts"]
def r89:FR:=fRw "rows_of_hands" "rows_of_hands" (top 61) 1 ["hands"]
def r90:FR:=fRw "__init__" "Hall.__init__" (inClass (top 63) 0) 3 ["self","boxes","hands"]
def r91:FR:=fRw "boxes" "Hall.boxes" (inClass (top 63) 1) 1 ["self"]
def r92:FR:=fRw "stamps" "Hall.stamps" (inClass (top 63) 2) 1 ["self"]
def r93:FR:=fRw "hands" "Hall.hands" (inClass (top 63) 3) 1 ["self"]
def r94:FR:=fRw "hand_at" "Hall.hand_at" (inClass (top 63) 4) 2 ["self","hand"]
def r95:FR:=fRw "state" "Hall.state" (inClass (top 63) 5) 2 ["self","hand"]
def r96:FR:=fRw "which" "Hall.which" (inClass (top 63) 6) 2 ["self","hand"]
def r97:FR:=fRw "slots" "Hall.slots" (inClass (top 63) 7) 2 ["self","hand"]
def r98:FR:=fRw "saw" "Hall.saw" (inClass (top 63) 8) 2 ["self","hand"]
def r99:FR:=fRw "journal" "Hall.journal" (inClass (top 63) 9) 1 ["self"]
def r100:FR:=fRw "wake_stale" "Hall.wake_stale" (inClass (top 63) 13) 1 ["self","member"]
def r101:FR:=fRw "end_deed" "Hall.end_deed" (inClass (top 63) 14) 5 ["self","hand","end","laid","slots","member"]
def r102:FR:=fRw "lay_down" "Hall.lay_down" (inClass (top 63) 12) 2 ["self","hand","run","laid","pair","box"]
def r103:FR:=fRw "looked_over_told" "Hall.looked_over_told" (inClass (top 63) 11) 3 ["self","hand","row_number","member","row","box"]
def r104:FR:=fRw "turn" "Hall.turn" (inClass (top 63) 10) 2 ["self","hand","member","row_number"]
def r105:FR:=fRw "is_calm" "is_calm" (top 65) 1 ["hall"]
def r106:FR:=fRw "calmed" "calmed" (top 66) 1 ["hall","told","hand"]
def r107:FR:=fRw "_law_cell_at" "_law_cell_at" (top 68) 2 ["_law_script","_law_k"]
def r108:FR:=fRw "_law_number" "_law_number" (top 69) 1 ["_law_cell"]
def r109:FR:=fRw "_law_sides" "_law_sides" (top 70) 5 ["_law_way","_law_mixed","_law_one","_law_two","_law_box","_law_far","_law_name","_law_other","_law_start","_law_text"]
def r110:FR:=fRw "_law_piece" "_law_piece" (top 71) 1 ["_law_cell","_law_mixed","_law_way","_law_one","_law_two","_law_far","_law_box","_law_number_here","_law_word"]
def r111:FR:=fRw "_law_deed" "_law_deed" (top 72) 1 ["_law_cells","_law_texts_here","_law_many","_law_cell","_law_text","_law_size"]
def r112:FR:=fRw "_law_boxes" "_law_boxes" (top 73) 1 ["_law_script","_law_first","_law_second","_law_third","_law_many"]
def r113:FR:=fRw "_law_hands" "_law_hands" (top 74) 1 ["_law_script","_law_many","_law_cells","_law_hands_here","_law_hand","_law_mine"]
def r114:FR:=fRw "_law_texts" "_law_texts" (top 75) 1 ["_law_hands_here"]
def r115:FR:=fRw "_law_turns" "_law_turns" (top 76) 2 ["_law_script","_law_many","_law_turns_here","_law_cell","_law_some","_law_k"]
def r116:FR:=fRw "_law_awake" "_law_awake" (top 77) 1 ["_law_hall"]
def r117:FR:=fRw "_law_looked" "_law_looked" (top 78) 1 ["_law_hall","_law_found","_law_hand"]
def r118:FR:=fRw "_law_rounds" "_law_rounds" (top 79) 1 ["_law_hall","_law_told","_law_hand"]
def r119:FR:=fRw "law" "law" (top 80) 1 ["_law_script","_law_texts_here","_law_boxes_here","_law_hall","_law_beside","_law_hand","_law_calm","_law_found"]
def fT:List FR:=[r0,r1,r2,r3,r4,r5,r6,r7,r8,r9,r10,r11,r12,r13,r14,r15,r16,r17,r18,r19,r20,r21,r22,r23,r24,r25,r26,r27,r28,r29,r30,r31,r32,r33,r34,r35,r36,r37,r38,r39,r40,r41,r42,r43,r44,r45,r46,r47,r48,r49,r50,r51,r52,r53,r54,r55,r56,r57,r58,r59,r60,r61,r62,r63,r64,r65,r66,r67,r68,r69,r70,r71,r72,r73,r74,r75,r76,r77,r78,r79,r80,r81,r82,r83,r84,r85,r86,r87,r88,r89,r90,r91,r92,r93,r94,r95,r96,r97,r98,r99,r100,r101,r102,r103,r104,r105,r106,r107,r108,r109,r110,r111,r112,r113,r114,r115,r116,r117,r118,r119]
def fR (n:Nat):FR:=fT.getD n r0
def FR.ps (r:FR):List Str:=r.2.2.2.2.take r.2.2.2.1
abbrev fP (n:Nat):List Str:=FR.ps (fR n)
noncomputable def AllP {Y:Type}(p:Y->Prop):List Y->Prop
 | []=>True
 | c::cs=>p c/\AllP p cs
theorem AllP.get {Y:Type}{p:Y->Prop}{d:Y}(hd:p d):∀ {cs:List Y},AllP p cs->∀ k:Nat,p (cs.getD k d)
 | [],_,_=>hd
 | _::_,a,0=>a.1
 | _::_,a,k+1=>AllP.get hd a.2 k
theorem AllP.mem {Y:Type}{p:Y->Prop}:∀ {cs:List Y},AllP p cs->∀ i∈cs,p i
 | c::cs,a,i,hi=>by
  rcases mem_cons.mp hi with rfl|hi
  .exact a.1
  .exact AllP.mem a.2 i hi
theorem yyc:AllP (fun r:FR=>yez r.2.2.2.2 r.ps (ybF r.2.2.1)) fT:=by repeat' first|exact True.intro|refine And.intro ?_ ?_|exact ⟨rfl,rfl,rfl,by rfl',rfl,by rfl',by rfl'⟩
theorem sc (n:Nat) (h:fR n=r:=by rfl):yez r.2.2.2.2 r.ps (ybF r.2.2.1):=h ▸ AllP.get (p:=fun r:FR=>yez r.2.2.2.2 r.ps (ybF r.2.2.1)) yyc.1 yyc n
def mT:List (Nat×Str×Nat):=[mRw 1 "long" 53,mRw 2 "long" 54,mRw 3 "long" 55,mRw 4 "long" 56,mRw 5 "long" 60,mRw 6 "long" 61,mRw 7 "long" 62,mRw 8 "long" 57,mRw 9 "long" 58,mRw 11 "write" 1,mRw 11 "own" 2,mRw 11 "begin" 3,mRw 11 "settle" 4,mRw 11 "drop" 5,mRw 11 "see" 6,mRw 11 "saw" 7,mRw 11 "wrote" 8,mRw 12 "held_in" 19,mRw 12 "hold" 20,mRw 12 "box_at" 21,mRw 12 "do_put" 23,mRw 12 "do_reckon" 22,mRw 12 "sees_at" 24,mRw 12 "take_own" 25,mRw 12 "take_seen" 26,mRw 12 "row" 29,mRw 12 "is_stale" 30,mRw 12 "taker_layer" 31,mRw 12 "is_looked_over" 32,mRw 12 "see_next" 33,mRw 12 "go" 38,mRw 12 "go_plain" 34,mRw 12 "lead" 35,mRw 12 "throw" 37,mRw 12 "leave" 36,mRw 14 "state" 39,mRw 14 "new_run" 40,mRw 14 "begin_anew" 41,mRw 14 "fall_asleep" 42,mRw 14 "go_on" 43,mRw 15 "boxes" 91,mRw 15 "stamps" 92,mRw 15 "hands" 93,mRw 15 "hand_at" 94,mRw 15 "state" 95,mRw 15 "which" 96,mRw 15 "slots" 97,mRw 15 "saw" 98,mRw 15 "journal" 99,mRw 15 "wake_stale" 100,mRw 15 "end_deed" 101,mRw 15 "lay_down" 102,mRw 15 "looked_over_told" 103,mRw 15 "turn" 104,mRw 10 "ahead" 72,mRw 10 "taken" 73,mRw 10 "pass_over" 74,mRw 10 "slot_taken" 75,mRw 10 "name_taken" 76,mRw 10 "number_taken" 77,mRw 10 "list_taken" 80,mRw 10 "side_taken" 81,mRw 10 "part_taken" 82,mRw 10 "if_taken" 83,mRw 10 "either_taken" 84,mRw 10 "try_taken" 85,mRw 10 "plain_taken" 79,mRw 10 "reckon_taken" 78]
noncomputable abbrev gRw (x:Str) (n:Nat):Str×Nat:=(x,n)
def gT:List (Str×Nat):=[gRw "reckon" 9,gRw "is_whole" 10,gRw "is_number" 11,gRw "is_made_of" 12,gRw "number_of" 13,gRw "is_word" 14,gRw "is_slot" 15,gRw "slot_index" 16,gRw "is_name" 17,gRw "takes" 27,gRw "list_long" 59,gRw "plain_rows" 63,gRw "first_row" 64,gRw "rows_between" 65,gRw "list_rows" 66,gRw "part_rows" 67,gRw "sided_rows" 68,gRw "rows_of" 69,gRw "words_of" 71,gRw "read" 86,gRw "check_boxes" 87,gRw "rows_of_deeds" 88,gRw "rows_of_hands" 89,gRw "is_calm" 105,gRw "calmed" 106,gRw "_law_cell_at" 107,gRw "_law_number" 108,gRw "_law_sides" 109,gRw "_law_piece" 110,gRw "_law_deed" 111,gRw "_law_boxes" 112,gRw "_law_hands" 113,gRw "_law_texts" 114,gRw "_law_turns" 115,gRw "_law_awake" 116,gRw "_law_looked" 117,gRw "_law_rounds" 118,gRw "law" 119]
noncomputable def kT:List (Nat×Nat):=[(1,45),(2,46),(3,47),(4,48),(5,49),(6,50),(7,51),(8,52),(10,70),(11,0),(12,28),(13,18),(14,44),(15,90)]
noncomputable def cT:List Str:=["Part","Let","Reckon","Take","Put","If","Either","Try","Throw","Wait","Reader","Log","Run","Doer","Hand","Hall"]
noncomputable def zT:List Str:=["all","any","bool","int","isinstance","len","list","min","range","reversed","sorted","sum"]
def nT:List (Str×List Nat):=[("stack",[11]),("last_seen",[11]),("held",[12]),("width",[12,14]),("log",[12]),("rows",[12]),("at",[10,12]),("seen_stamps",[12]),("sides",[12]),("deeds",[14]),("nth",[14]),("sleeps",[14]),("before",[14]),("run",[14]),("numbers",[15]),("marks",[15]),("crew",[15]),("entries",[15]),("words",[10]),("slot",[1,2,3,4,5,7,8]),("number",[1]),("place",[3,4]),("parts",[5,6,7]),("others",[5,6,7]),("name",[7,8]),("word",[2]),("one",[2]),("other",[2])]
theorem ml1 {Y:Type}{P:List Y->Prop}(h:∀ a,P [a]):∀ us:List Y,us.length=1->P us
 | [_],_=>h _
theorem ml2 {Y:Type}{P:List Y->Prop}(h:∀ a b,P [a,b]):∀ us:List Y,us.length=2->P us
 | [_,_],_=>h _ _
theorem ml3 {Y:Type}{P:List Y->Prop}(h:∀ a b c,P [a,b,c]):∀ us:List Y,us.length=3->P us
 | [_,_,_],_=>h _ _ _
theorem ml4 {Y:Type}{P:List Y->Prop}(h:∀ a b c d,P [a,b,c,d]):∀ us:List Y,us.length=4->P us
 | [_,_,_,_],_=>h _ _ _ _
theorem ml5 {Y:Type}{P:List Y->Prop}(h:∀ a b c d e,P [a,b,c,d,e]):∀ us:List Y,us.length=5->P us
 | [_,_,_,_,_],_=>h _ _ _ _ _
set_option genInjectivity false in
set_option genSizeOf false in
structure Ads where
 A:Nat->Addr
 fl:Nat->Addr×FuncData
 k_FIGURES:Tok
 k_LETTERS:Tok
 k_MOST_AROUND:Tok
 k_MOST_BOXES:Tok
 k_MOST_DEEDS:Tok
 k_MOST_HANDS:Tok
 k_MOST_ROWS:Tok
 k_SLOTS:Tok
 k_WIDE:Tok
 k_WORDS:Addr
noncomputable abbrev Ads.a (t:Ads) (n:Nat):Addr:=(t.fl n).1
noncomputable abbrev Ads.d (t:Ads) (n:Nat):FuncData:=(t.fl n).2
noncomputable abbrev ypI (K:Frag) (t:Ads):Ck:=⟨K,t.A⟩
structure Txt (K:Frag) (mg:Str->Option Value) (t:Ads):Prop where
 f:∀ n,Fun K (fR n).1 (fR n).2.1 (fR n).2.2.1 (t.a n) (t.d n)
 b:∀ n,Binds K (t.d n) (fP n) []
 G:∀ n,mg (gT.getD n ("reckon",9)).1=some (.ref (t.a (gT.getD n ("reckon",9)).2))
 C:∀ n,mg (cT.getD n "Part")=some (.ref (t.A n))
 J:∀ n,Mk K (t.A (kT.getD n (1,45)).1) (t.a (kT.getD n (1,45)).2)
 M:∀ n,Meth K (t.A (mT.getD n (mRw 1 "long" 53)).1) (mT.getD n (mRw 1 "long" 53)).2.1 (t.a (mT.getD n (mRw 1 "long" 53)).2.2)
 mk_Part:makesIn K (t.A 0)=true
 io_Part:findIn K (.ref (t.A 0)) "__init__" = some (some (.builtin "object.__init__"))
 kp_Part:keepIn K (.ref (t.A 0))=true
 mk_Wait:makesIn K (t.A 9)=true
 io_Wait:findIn K (.ref (t.A 9)) "__init__" = some (some (.builtin "object.__init__"))
 kp_Wait:keepIn K (.ref (t.A 9))=true
 cf_Doer:yvK K (t.A 13) "__init__" (t.a 18)
 cl:∀ k,Cls K (t.A k)
 N:∀ n,∀ k∈(nT.getD n ("stack",[11])).2,Cls K (t.A k)/\NoAttr K (t.A k) (nT.getD n ("stack",[11])).1
 isa:∀ r∈yer,∀ (H:Hp) (a dx:Addr) (fs:List (Str×V)),H a=some (.ins (t.A r.1) dx fs)->IsI K H (.ref a) (.ref (t.A r.2.1)) r.2.2
 Z:∀ n,mg (zT.getD n "all")=none
 m_FIGURES:mg "FIGURES" = some (.str "0123456789" t.k_FIGURES)
 m_LETTERS:mg "LETTERS" = some (.str "abcdefghijklmnopqrstuvwxyz" t.k_LETTERS)
 m_MOST_AROUND:mg "MOST_AROUND" = some (.int 8 t.k_MOST_AROUND)
 m_MOST_BOXES:mg "MOST_BOXES" = some (.int 16 t.k_MOST_BOXES)
 m_MOST_DEEDS:mg "MOST_DEEDS" = some (.int 6 t.k_MOST_DEEDS)
 m_MOST_HANDS:mg "MOST_HANDS" = some (.int 8 t.k_MOST_HANDS)
 m_MOST_ROWS:mg "MOST_ROWS" = some (.int 80 t.k_MOST_ROWS)
 m_SLOTS:mg "SLOTS" = some (.str "abcdefgh" t.k_SLOTS)
 m_WIDE:mg "WIDE" = some (.int 18446744073709551616 t.k_WIDE)
 m_WORDS:mg "WORDS" = some (.ref t.k_WORDS)
 kt_WORDS:KTp K t.k_WORDS ((["plus","minus","times","less","same"]:List Str).map V.str)
theorem Txt.F (T:Txt K mg t) (n:Nat) (r:FR) (h:fR n=r:=by rfl):Fun K r.1 r.2.1 r.2.2.1 (t.a n) (t.d n):=h ▸ T.f n
theorem Txt.k (T:Txt K mg t) (n:Nat):keepIn K (.ref (t.a n))=true:=(T.f n).kp
section
variable {P:Program}{w:World}{K:Frag}{mg:Str->Option Value}{base:Heap}{t:Ads}
theorem ydM {Q:VK}(h:spE ck n (fun _ _=>none) vs H Q E):False:=by obtain ⟨_,_,_,_,_,_,_,_,q,_⟩:=h;cases q
theorem ydf:FnOk P w K mg base CX0 k f fd ps (spE ck n fun _ _=>none):=⟨fun vs H Q E h=>(ydM h).elim,fun A outer s H args us vs Q E _ _ _ _ h=>(ydM h).elim⟩
local macro_rules | `(‹($n,$i,$r,$k,$p)›)=>`(FnOk $(Lean.mkIdent `P) $(Lean.mkIdent `w) $(Lean.mkIdent `K) $(Lean.mkIdent `mg) $(Lean.mkIdent `base) CX0 $n ($(Lean.mkIdent `t).a $i) ($(Lean.mkIdent `t).d $i) (FR.ps $r) (spE (ypI $(Lean.mkIdent `K) $(Lean.mkIdent `t)) $k $p))
structure yJa (P:Program) (w:World) (K:Frag) (mg:Str->Option Value) (base:Heap) (t:Ads) (n:Nat):Prop where
 ygo:‹(n+1,59,r59,1,(yU n))›
 ymK:‹(n+1,60,r60,1,(yiv n))›
 ygL:‹(n+1,61,r61,1,(yeJ n))›
 yjO:‹(n+1,62,r62,1,(yhf n))›
 m_long:ynr P w K mg base (n+1) t.A "long" (fun k=>spE (ypI K t) 1 (yiu n k))
structure yJb (P:Program) (w:World) (K:Frag) (mg:Str->Option Value) (base:Heap) (t:Ads) (n:Nat):Prop where
 yiF:‹(n+47,66,r66,2,(ycq n))›
 yop:‹(n+47,67,r67,2,(ydJ n))›
 ymL:‹(n+47,68,r68,2,(ydZ n))›
structure yJc (P:Program) (w:World) (K:Frag) (mg:Str->Option Value) (base:Heap) (t:Ads) (n:Nat):Prop where
 ydN:‹(n+6,80,r80,2,(ybD n))›
 ygp:‹(n+6,81,r81,2,(yr n))›
 ygq:‹(n+6,82,r82,2,(yF n))›
 yhh:‹(n+6,83,r83,2,(ybU n))›
 yfv:‹(n+6,84,r84,2,(ybn n))›
 ygM:‹(n+6,85,r85,2,(ybL n))›
variable (T:Txt K mg t)
include T
theorem yiG:FnOk P w K mg base CX0 (0+1) (t.a 45) (t.d 45) (FR.ps r45) (spI (ypI K t) 2 1 yfU):=zin (T.F 45 r45) (sc 45) rfl (by decide) fun _ _ _ _ _ _ hr=>(ybl (ybv (T.N 19) z_v) (ydw (ybv (T.N 20) z_v)))
theorem ygN:FnOk P w K mg base CX0 (0+1) (t.a 46) (t.d 46) (FR.ps r46) (spI (ypI K t) 4 2 yeu):=zin (T.F 46 r46) (sc 46) rfl (by decide) fun _ _ _ _ _ _ hr=>(ybl (ybv (T.N 25) z_v) (ybl (ybv (T.N 19) z_v) (ybl (ybv (T.N 26) z_v) (ydw (ybv (T.N 27) z_v)))))
theorem yhA:FnOk P w K mg base CX0 (0+1) (t.a 47) (t.d 47) (FR.ps r47) (spI (ypI K t) 2 3 yfk):=zin (T.F 47 r47) (sc 47) rfl (by decide) fun _ _ _ _ _ _ hr=>(ybl (ybv (T.N 19) z_v) (ydw (ybv (T.N 21) z_v)))
theorem yiH:FnOk P w K mg base CX0 (0+1) (t.a 48) (t.d 48) (FR.ps r48) (spI (ypI K t) 2 4 yfV):=zin (T.F 48 r48) (sc 48) rfl (by decide) fun _ _ _ _ _ _ hr=>(ybl (ybv (T.N 21) z_v) (ydw (ybv (T.N 19) z_v)))
theorem yjg:FnOk P w K mg base CX0 (0+1) (t.a 49) (t.d 49) (FR.ps r49) (spI (ypI K t) 3 5 ygD):=zin (T.F 49 r49) (sc 49) rfl (by decide) fun _ _ _ _ _ _ hr=>(ybl (ybv (T.N 19) z_v) (ybl (ybv (T.N 22) (ycl (ycJ yH ybq (T.Z 6) (ya z_v yd)))) (ydw (ybv (T.N 23) (ycl (ycJ yH ybq (T.Z 6) (ya z_v yd)))))))
theorem ygO:FnOk P w K mg base CX0 (0+1) (t.a 50) (t.d 50) (FR.ps r50) (spI (ypI K t) 2 6 yev):=zin (T.F 50 r50) (sc 50) rfl (by decide) fun _ _ _ _ _ _ hr=>(ybl (ybv (T.N 22) (ycl (ycJ yH ybq (T.Z 6) (ya z_v yd)))) (ydw (ybv (T.N 23) (ycl (ycJ yH ybq (T.Z 6) (ya z_v yd))))))
theorem yiI:FnOk P w K mg base CX0 (0+1) (t.a 51) (t.d 51) (FR.ps r51) (spI (ypI K t) 4 7 yfW):=zin (T.F 51 r51) (sc 51) rfl (by decide) fun _ _ _ _ _ _ hr=>(ybl (ybv (T.N 22) (ycl (ycJ yH ybq (T.Z 6) (ya z_v yd)))) (ybl (ybv (T.N 24) z_v) (ybl (ybv (T.N 19) z_v) (ydw (ybv (T.N 23) (ycl (ycJ yH ybq (T.Z 6) (ya z_v yd))))))))
theorem yhi:FnOk P w K mg base CX0 (0+1) (t.a 52) (t.d 52) (FR.ps r52) (spI (ypI K t) 2 8 yeR):=zin (T.F 52 r52) (sc 52) rfl (by decide) fun _ _ _ _ _ _ hr=>(ybl (ybv (T.N 24) z_v) (ydw (ybv (T.N 19) z_v)))
theorem yoq:‹(0+1,53,r53,1,yjE)›:=zfn (T.F 53 r53) (sc 53) fun _ _ _ _ _ _ hr=>(yf (yi yl))
theorem yjh:‹(0+1,54,r54,1,ygE)›:=zfn (T.F 54 r54) (sc 54) fun _ _ _ _ _ _ hr=>(yf (yi yl))
theorem ymM:‹(0+1,55,r55,1,yis)›:=zfn (T.F 55 r55) (sc 55) fun _ _ _ _ _ _ hr=>(yf (yi yl))
theorem yor:‹(0+1,56,r56,1,yjF)›:=zfn (T.F 56 r56) (sc 56) fun _ _ _ _ _ _ hr=>(yf (yi yl))
theorem ylc:‹(0+1,57,r57,1,yhn)›:=zfn (T.F 57 r57) (sc 57) fun _ _ _ _ _ _ hr=>(yf (yi yl))
theorem ymN:‹(0+1,58,r58,1,yit)›:=zfn (T.F 58 r58) (sc 58) fun _ _ _ _ _ _ hr=>(yf (yi yl))
theorem yle:∀ n,yJa P w K mg base t n
 | 0=>⟨ydf,ydf,ydf,ydf,fun c=>⟨T.cl c,.inl fun _ _ _ _ h=>ydM h⟩⟩
 | n+1=>by
  have I:=yle n;have ydg:=I.ygo;have yEG:=I.ymK;have ywH:=I.ygL;have yBs:=I.yjO;have G_long:=I.m_long;exact ⟨zfn (T.F 59 r59) (sc 59) fun _ _ _ _ _ _ hr=>(yf (yi (ydV (yux rfl) yFD (T.Z 11) (ya (ycl (yfe [] (yda z_v) (fun _ _ _ _ _ _=>(yst z_v G_long)))) yd)))),
   zfn (T.F 60 r60) (sc 60) fun _ _ _ _ _ _ hr=>(yf (yi (ybP ycg ydA (ybP ycg ydA yl (yI ydg (T.G 10) (T.k 59) (T.b 59) (ya (yB (T.N 22) z_v) yd))) (yI ydg (T.G 10) (T.k 59) (T.b 59) (ya (yB (T.N 23) z_v) yd))))),
   zfn (T.F 61 r61) (sc 61) fun _ _ _ _ _ _ hr=>(yf (yi (ybP ycg ydA (ybP ycg ydA yl (yI ydg (T.G 10) (T.k 59) (T.b 59) (ya (yB (T.N 22) z_v) yd))) (yI ydg (T.G 10) (T.k 59) (T.b 59) (ya (yB (T.N 23) z_v) yd))))),
   zfn (T.F 62 r62) (sc 62) fun _ _ _ _ _ _ hr=>(yf (yi (ybP ycg ydA (ybP ycg ydA yl (yI ydg (T.G 10) (T.k 59) (T.b 59) (ya (yB (T.N 22) z_v) yd))) (yI ydg (T.G 10) (T.k 59) (T.b 59) (ya (yB (T.N 23) z_v) yd))))),
   fun c=>⟨T.cl c,match c with|0=>.inl fun _ _ _ _ h=>ydM h|1=>.inr ⟨_,_,_,(T.M 0),(yoq T).mono (by omega),(T.b 53)⟩|2=>.inr ⟨_,_,_,(T.M 1),(yjh T).mono (by omega),(T.b 54)⟩|3=>.inr ⟨_,_,_,(T.M 2),(ymM T).mono (by omega),(T.b 55)⟩|4=>.inr ⟨_,_,_,(T.M 3),(yor T).mono (by omega),(T.b 56)⟩|5=>.inr ⟨_,_,_,(T.M 4),I.ymK.mono (by omega),(T.b 60)⟩|6=>.inr ⟨_,_,_,(T.M 5),I.ygL.mono (by omega),(T.b 61)⟩|7=>.inr ⟨_,_,_,(T.M 6),I.yjO.mono (by omega),(T.b 62)⟩|8=>.inr ⟨_,_,_,(T.M 7),(ylc T).mono (by omega),(T.b 57)⟩|9=>.inr ⟨_,_,_,(T.M 8),(ymN T).mono (by omega),(T.b 58)⟩|10=>.inl fun _ _ _ _ h=>ydM h|11=>.inl fun _ _ _ _ h=>ydM h|12=>.inl fun _ _ _ _ h=>ydM h|13=>.inl fun _ _ _ _ h=>ydM h|14=>.inl fun _ _ _ _ h=>ydM h|15=>.inl fun _ _ _ _ h=>ydM h|c+16=>.inl fun _ _ _ _ h=>ydM h⟩⟩
theorem ylf:‹(0+1,63,r63,1,yho)›:=zfn (T.F 63 r63) (sc 63) fun _ _ _ _ _ _ hr=>(yc (yR (ybQ (ydV yW (yfI (K:=ckX _ _) T.isa) (T.Z 4) (ya z_v (ya (yeQ (T.C 1)) yd)))) (yf (yi (ycl (ycB (ya (ycb (ya yx (ya (yB (T.N 19) z_v) (ya (yB (T.N 20) z_v) yd)))) yd))))) yp) (yc (yR (ybQ (ydV yW (yfI (K:=ckX _ _) T.isa) (T.Z 4) (ya z_v (ya (yeQ (T.C 2)) yd)))) (yf (yi (ycl (ycB (ya (ycb (ya (yB (T.N 25) z_v) (ya (yB (T.N 19) z_v) (ya (yB (T.N 26) z_v) (ya (yB (T.N 27) z_v) yd))))) yd))))) yp) (yc (yR (ybQ (ydV yW (yfI (K:=ckX _ _) T.isa) (T.Z 4) (ya z_v (ya (yeQ (T.C 3)) yd)))) (yf (yi (ycl (ycB (ya (ycb (ya yx (ya (yB (T.N 19) z_v) (ya (yB (T.N 21) z_v) yd)))) yd))))) yp) (yc (yR (ybQ (ydV yW (yfI (K:=ckX _ _) T.isa) (T.Z 4) (ya z_v (ya (yeQ (T.C 4)) yd)))) (yf (yi (ycl (ycB (ya (ycb (ya yx (ya (yB (T.N 21) z_v) (ya (yB (T.N 19) z_v) yd)))) yd))))) yp) (yc (yR (ybQ (ydV yW (yfI (K:=ckX _ _) T.isa) (T.Z 4) (ya z_v (ya (yeQ (T.C 8)) yd)))) (yf (yi (ycl (ycB (ya (ycb (ya yx (ya (yB (T.N 24) z_v) (ya (yB (T.N 19) z_v) yd)))) yd))))) yp) (yc (yR (ybQ (ydV yW (yfI (K:=ckX _ _) T.isa) (T.Z 4) (ya z_v (ya (yeQ (T.C 9)) yd)))) (yf (yi (ycl (ycB (ya (ycb (ya yx yd)) yd))))) yp) (yf (yi (ycl (ycB yd))))))))))
theorem ymO:‹(0+1,64,r64,2,yeK)›:=zfn (T.F 64 r64) (sc 64) fun _ _ _ _ _ _ hr=>(yc (yR (ybQ (ydV yW (yfI (K:=ckX _ _) T.isa) (T.Z 4) (ya z_v (ya (yeQ (T.C 5)) yd)))) (yf (yi (ycb (ya yx (ya (yB (T.N 19) z_v) (ya z_v yd)))))) yp) (yc (yR (ybQ (ydV yW (yfI (K:=ckX _ _) T.isa) (T.Z 4) (ya z_v (ya (yeQ (T.C 6)) yd)))) (yf (yi (ycb (ya yx (ya z_v yd))))) yp) (yf (yi (ycb (ya yx (ya (yB (T.N 24) z_v) (ya (yB (T.N 19) z_v) (ya z_v yd)))))))))
theorem yiJ:‹(0+1,65,r65,2,ydj)›:=zfn (T.F 65 r65) (sc 65) fun _ _ _ _ _ _ hr=>(yc (yR (ybQ (ydV yW (yfI (K:=ckX _ _) T.isa) (T.Z 4) (ya z_v (ya (yeQ (T.C 5)) yd)))) (yf (yi (ycl (ycB (ya (ycb (ya yx (ya z_v yd))) yd))))) yp) (yf (yi (ycl (ycB (ya (ycb (ya yx yd)) (ya (ycb (ya yx (ya z_v yd))) yd)))))))
theorem ytQ:∀ n,yJb P w K mg base t n
 | 0=>⟨ydf,ydf,ydf⟩
 | n+1=>by
  have I:=ytQ n;have yiK:=I.yiF;have yos:=I.yop;have ymP:=I.ymL;exact ⟨zfn (T.F 66 r66) (sc 66) fun _ _ _ _ _ _ hr=>have nd:=(sc 66 (r:=r66)).nd;(yc (yff (ycB yd)) (yc (yfS (yda z_v) ycQ (yf (yDm (yI yos (T.G 15) (T.k 67) (T.b 67) (ya z_v (ya (ybP ycg ydA z_v (yDn (T.Z 5))) yd)))))) (yfg (yf (yi z_v))))),
   zfn (T.F 67 r67) (sc 67) fun _ _ _ _ _ _ hr=>(yc (yR (yqe (yhx (ybQ (ydV yW (yfI (K:=ckX _ _) T.isa) (T.Z 4) (ya z_v (ya (yeQ (T.C 5)) yd)))) (yhx (ybQ (ydV yW (yfI (K:=ckX _ _) T.isa) (T.Z 4) (ya z_v (ya (yeQ (T.C 6)) yd)))) (yfQ (ybQ (ydV yW (yfI (K:=ckX _ _) T.isa) (T.Z 4) (ya z_v (ya (yeQ (T.C 7)) yd)))))))) (yf (yi (yI ymP (T.G 16) (T.k 68) (T.b 68) (ya z_v (ya z_v yd))))) yp) (yf (yi (yI (ylf T) (T.G 11) (T.k 63) (T.b 63) (ya z_v yd))))),
   zfn (T.F 68 r68) (sc 68) fun _ _ _ _ _ _ hr=>have nd:=(sc 68 (r:=r68)).nd;(yc (yu (ybP ycg ydA z_v (yst z_v (yle T 45).m_long))) (yc (yu (ybP yhR ynF z_v (yI (yle T 45).ygo (T.G 10) (T.k 59) (T.b 59) (ya (yB (T.N 23) z_v) yd)))) (yc (yu (yI yiK (T.G 14) (T.k 66) (T.b 66) (ya (yB (T.N 22) z_v) (ya (ybP ycg ydA z_v yl) yd)))) (yc (yu (yI yiK (T.G 14) (T.k 66) (T.b 66) (ya (yB (T.N 23) z_v) (ya z_v yd)))) (yf (yi (ycl (yqb yoH yuY (ycl (yqb yoH yuY (ycl (yqb yoH yuY (ycl (ycB (ya (yI (ymO T) (T.G 12) (T.k 64) (T.b 64) (ya z_v (ya z_v yd))) yd))) z_v)) (yI (yiJ T) (T.G 13) (T.k 65) (T.b 65) (ya z_v (ya z_v yd))))) z_v))))))))⟩
theorem yqr:‹(92+1,69,r69,1,yew)›:=zfn (T.F 69 r69) (sc 69) fun _ _ _ _ _ _ hr=>(yf (yi (ycl (yqb yoH yuY (yI (ytQ T 45).yiF (T.G 14) (T.k 66) (T.b 66) (ya z_v (ya yl yd))) (ycl (ycB (ya (ycb (ya yx yd)) yd)))))))
theorem ygP:‹(0+1,12,r12,2,ydn)›:=zfn (T.F 12 r12) (sc 12) fun _ _ _ _ _ _ hr=>(yf (yi (ydV (yka rfl) yzg (T.Z 0) (ya (ycl (yfe ["signs"] (yDi z_v) (fun _ _ _ _ _ _=>(yfK ylI yCr z_v z_v)))) yd))))
theorem ymQ:‹(1+1,13,r13,1,yeI)›:=zfn (T.F 13 r13) (sc 13) fun _ _ _ _ _ _ hr=>have nd:=(sc 13 (r:=r13)).nd;(yc (yR (yqe (yhx (ydU (yhL yiT yiT ytV ytV yl (ydV ydS yoO (T.Z 5) (ya z_v yd)) yl)) (yfQ (ydU (ybQ (yI (ygP T) (T.G 3) (T.k 12) (T.b 12) (ya z_v (ya (ymr T.m_FIGURES) yd)))))))) (yf (yi yiZ)) yp) (yc (yR (yqe (yss (yA ybb ycP (ybN ylC yrF z_v yl) yx) (ynS (yA ynf yzd z_v yx)))) (yf (yi yiZ)) yp) (yc (yu (yGw ylJ yCv (T.Z 3) (ya z_v yd))) (yf (yi (ysr (yA ylu yxe z_v (yfP T.m_WIDE)) z_v yiZ))))))
theorem yqs:‹(0+1,14,r14,1,yio)›:=zfn (T.F 14 r14) (sc 14) fun _ _ _ _ _ _ hr=>(yf (yi (yfK yrc yGi z_v (yDs (ss:=["plus","minus","times","less","same"]) T.m_WORDS T.kt_WORDS))))
theorem yqt:‹(0+1,15,r15,1,yip)›:=zfn (T.F 15 r15) (sc 15) fun _ _ _ _ _ _ hr=>(yf (yi (yqd (yfK ybb ycP (ydV ydS yoO (T.Z 5) (ya z_v yd)) yl) (yqc (yfK ylI yCr z_v (ymr T.m_SLOTS))))))
theorem yqu:‹(1+1,17,r17,1,yiq)›:=zfn (T.F 17 r17) (sc 17) fun _ _ _ _ _ _ hr=>(yf (yi (yqd (ysq yiT yiT ytV ytV yl (ydV ydS yoO (T.Z 5) (ya z_v yd)) yl) (yqc (yI (ygP T) (T.G 3) (T.k 12) (T.b 12) (ya z_v (ya (ymr T.m_LETTERS) yd)))))))
theorem yiL:‹(0+1,10,r10,1,yet)›:=zfn (T.F 10 r10) (sc 10) fun _ _ _ _ _ _ hr=>(yf (yi (yqd (ydV yW (yfI (K:=ckX _ _) T.isa) (T.Z 4) (ya z_v (ya (yvC (T.Z 3)) yd))) (yqc (yGv (ydV yW (yfI (K:=ckX _ _) T.isa) (T.Z 4) (ya z_v (ya (yvC (T.Z 2)) yd))))))))
theorem ymR:‹(1+1,11,r11,1,ydc)›:=zfn (T.F 11 r11) (sc 11) fun _ _ _ _ _ _ hr=>(yf (yi (yqd (yI (yiL T) (T.G 1) (T.k 10) (T.b 10) (ya z_v yd)) (yqc (ysq yiT ylu ytV yxe yl z_v (yfP T.m_WIDE))))))
theorem ygQ:FnOk P w K mg base CX0 (0+1) (t.a 70) (t.d 70) (FR.ps r70) (spI (ypI K t) 1 10 ydd):=zin (T.F 70 r70) (sc 70) rfl (by decide) fun _ _ _ _ _ _ hr=>(ybl (ybv (T.N 18) (ycl (ycJ yH ybq (T.Z 6) (ya z_v yd)))) (ydw (ybv (T.N 6) yl)))
theorem yot:‹(0+1,71,r71,1,yfC)›:=zfn (T.F 71 r71) (sc 71) fun _ _ _ _ _ _ hr=>(yc (yR (yA ybb ycP z_v yx) (yf (yi (ycl (ycB yd)))) yp) (yf (yi (yzS PySem.F.plainAttrs_str PySem.F.slot_str_split PySem.F.type_str_split yvL m_split z_v (ya yx yd)))))
theorem ycv:‹(0+1,72,r72,1,ybw)›:=zfn (T.F 72 r72) (sc 72) fun _ _ _ _ _ _ hr=>(yc (yR (yA ylu yxe (yB (T.N 6) z_v) (ydV yN ydl (T.Z 5) (ya (yB (T.N 18) z_v) yd))) (yf (yi (ybN ybu ydB (yB (T.N 18) z_v) (yB (T.N 6) z_v)))) yp) (yf (yi yiZ)))
theorem ycw:‹(1+1,73,r73,1,ybx)›:=zfn (T.F 73 r73) (sc 73) fun _ _ _ _ _ _ hr=>have nd:=(sc 73 (r:=r73)).nd;(yc (yu (yq z_v (T.M 54) (ycv T) (T.b 72))) (yc (yR (yA yoB yuX z_v yiZ) (yf ych) yp) (yc (ybB (T.N 6) z_v (ybP ycg ydA (yB (T.N 6) z_v) yl)) (yf (yi z_v)))))
theorem ybj:‹(2+1,74,r74,2,yQ)›:=zfn (T.F 74 r74) (sc 74) fun _ _ _ _ _ _ hr=>have nd:=(sc 74 (r:=r74)).nd;(yc (yu (yq z_v (T.M 55) (ycw T) (T.b 73))) (yf (yR (yA ynf yzd z_v z_v) (yf ych) yp)))
theorem yG:‹(2+1,75,r75,1,yy)›:=zfn (T.F 75 r75) (sc 75) fun _ _ _ _ _ _ hr=>have nd:=(sc 75 (r:=r75)).nd;(yc (yu (yq z_v (T.M 55) (ycw T) (T.b 73))) (yc (yR (ydU (ybQ (yI (yqt T) (T.G 6) (T.k 15) (T.b 15) (ya z_v yd)))) (yf ych) yp) (yf (yi z_v))))
theorem ydz:‹(2+1,76,r76,1,ybC)›:=zfn (T.F 76 r76) (sc 76) fun _ _ _ _ _ _ hr=>have nd:=(sc 76 (r:=r76)).nd;(yc (yu (yq z_v (T.M 55) (ycw T) (T.b 73))) (yc (yR (ydU (ybQ (yI (yqu T) (T.G 8) (T.k 17) (T.b 17) (ya z_v yd)))) (yf ych) yp) (yf (yi z_v))))
theorem yeW:‹(2+1,77,r77,1,ybJ)›:=zfn (T.F 77 r77) (sc 77) fun _ _ _ _ _ _ hr=>have nd:=(sc 77 (r:=r77)).nd;(yc (yu (yq z_v (T.M 55) (ycw T) (T.b 73))) (yc (yu (yI (ymQ T) (T.G 4) (T.k 13) (T.b 13) (ya z_v yd))) (yc (yR (yA yoB yuX z_v yiZ) (yf ych) yp) (yf (yi z_v)))))
theorem yeX:‹(3+1,78,r78,2,ybK)›:=zfn (T.F 78 r78) (sc 78) fun _ _ _ _ _ _ hr=>have nd:=(sc 78 (r:=r78)).nd;(yc (yu (yq z_v (T.M 57) (yG T) (T.b 75))) (yc (yu (yq z_v (T.M 57) (yG T) (T.b 75))) (yc (yu (yq z_v (T.M 57) (yG T) (T.b 75))) (yf (yi (ycl (yfR (T.J 1) (ygN T) (T.C 2) (T.b 46) (ya z_v (ya z_v (ya z_v (ya z_v yd)))))))))))
theorem yfw:‹(4+1,79,r79,2,yz)›:=zfn (T.F 79 r79) (sc 79) fun _ _ _ _ _ _ hr=>have nd:=(sc 79 (r:=r79)).nd;(yc (yR (yA ybb ycP z_v yx) (yc (yu (yq z_v (T.M 57) (yG T) (T.b 75))) (yf (yi (ycl (yfR (T.J 0) (yiG T) (T.C 1) (T.b 45) (ya z_v (ya (yq z_v (T.M 59) (yeW T) (T.b 77)) yd))))))) yp) (yc (yR (yA ybb ycP z_v yx) (yc (yu (yq z_v (T.M 57) (yG T) (T.b 75))) (yf (yi (ycl (yfR (T.J 2) (yhA T) (T.C 3) (T.b 47) (ya z_v (ya (yq z_v (T.M 57) (yG T) (T.b 75)) yd))))))) yp) (yc (yR (yA ybb ycP z_v yx) (yc (yu (yq z_v (T.M 57) (yG T) (T.b 75))) (yf (yi (ycl (yfR (T.J 3) (yiH T) (T.C 4) (T.b 48) (ya z_v (ya (yq z_v (T.M 57) (yG T) (T.b 75)) yd))))))) yp) (yc (yR (yA ybb ycP z_v yx) (yc (yu (yq z_v (T.M 58) (ydz T) (T.b 76))) (yf (yi (ycl (yfR (T.J 7) (yhi T) (T.C 8) (T.b 52) (ya z_v (ya (yq z_v (T.M 57) (yG T) (T.b 75)) yd))))))) yp) (yc (yR (yA ybb ycP z_v yx) (yf (yi (ycl (yzR T.mk_Wait T.io_Wait T.kp_Wait (T.C 9))))) yp) (yc (yR (ybQ (yI (yqs T) (T.G 5) (T.k 14) (T.b 14) (ya z_v yd))) (yf (yi (yn z_v (T.M 67) (yeX T) (T.b 78) (ya z_v yd)))) yp) (yf ych)))))))
theorem ytR:∀ n,yJc P w K mg base t n
 | 0=>⟨ydf,ydf,ydf,ydf,ydf,ydf⟩
 | n+1=>by
  have I:=ytR n;have ygr:=I.ydN;have ybk:=I.ygp;have ydO:=I.ygq;have yhj:=I.yhh;have yfx:=I.yfv;have ygR:=I.ygM;exact ⟨zfn (T.F 80 r80) (sc 80) fun _ _ _ _ _ _ hr=>have nd:=(sc 80 (r:=r80)).nd;(yc (yR (yqe (yhx (yA yoB yuX (yq z_v (T.M 54) (ycv T) (T.b 72)) yiZ) (yfQ (yA ybb ycP (yq z_v (T.M 54) (ycv T) (T.b 72)) yx)))) (yf (yi (ycl (ycB yd)))) yp) (yc (yff (ycB (ya (yn z_v (T.M 62) ydO (T.b 82) (ya z_v yd)) yd))) (yc (ygz (yA ybb ycP (yq z_v (T.M 54) (ycv T) (T.b 72)) yx) (yc (yP (yn z_v (T.M 56) (ybj T) (T.b 74) (ya yx yd))) (yf (yik (yn z_v (T.M 62) ydO (T.b 82) (ya z_v yd)))))) (yfg (yf (yi z_v)))))),
   zfn (T.F 81 r81) (sc 81) fun _ _ _ _ _ _ hr=>have nd:=(sc 81 (r:=r81)).nd;(yc (yP (yn z_v (T.M 56) (ybj T) (T.b 74) (ya yx yd))) (yc (yu (yn z_v (T.M 60) ygr (T.b 80) (ya z_v yd))) (yc (yP (yn z_v (T.M 56) (ybj T) (T.b 74) (ya yx yd))) (yf (yi z_v))))),
   zfn (T.F 82 r82) (sc 82) fun _ _ _ _ _ _ hr=>have nd:=(sc 82 (r:=r82)).nd;(yc (yR (yA yqR yCp z_v (yfP T.m_MOST_AROUND)) (yf ych) yp) (yc (yu (yq z_v (T.M 55) (ycw T) (T.b 73))) (yc (yR (yA ybb ycP z_v yx) (yf (yi (yn z_v (T.M 63) yhj (T.b 83) (ya (ybP ycg ydA z_v yl) yd)))) yp) (yc (yR (yA ybb ycP z_v yx) (yf (yi (yn z_v (T.M 64) yfx (T.b 84) (ya (ybP ycg ydA z_v yl) yd)))) yp) (yc (yR (yA ybb ycP z_v yx) (yf (yi (yn z_v (T.M 65) ygR (T.b 85) (ya (ybP ycg ydA z_v yl) yd)))) yp) (yf (yi (yn z_v (T.M 66) (yfw T) (T.b 79) (ya z_v yd))))))))),
   zfn (T.F 83 r83) (sc 83) fun _ _ _ _ _ _ hr=>have nd:=(sc 83 (r:=r83)).nd;(yc (yu (yq z_v (T.M 57) (yG T) (T.b 75))) (yc (yu (yn z_v (T.M 61) ybk (T.b 81) (ya z_v yd))) (yc (yP (yn z_v (T.M 56) (ybj T) (T.b 74) (ya yx yd))) (yc (yu (yn z_v (T.M 61) ybk (T.b 81) (ya z_v yd))) (yf (yi (ycl (yfR (T.J 4) (yjg T) (T.C 5) (T.b 49) (ya z_v (ya z_v (ya z_v yd))))))))))),
   zfn (T.F 84 r84) (sc 84) fun _ _ _ _ _ _ hr=>have nd:=(sc 84 (r:=r84)).nd;(yc (yu (yn z_v (T.M 61) ybk (T.b 81) (ya z_v yd))) (yc (yP (yn z_v (T.M 56) (ybj T) (T.b 74) (ya yx yd))) (yc (yu (yn z_v (T.M 61) ybk (T.b 81) (ya z_v yd))) (yf (yi (ycl (yfR (T.J 5) (ygO T) (T.C 6) (T.b 50) (ya z_v (ya z_v yd))))))))),
   zfn (T.F 85 r85) (sc 85) fun _ _ _ _ _ _ hr=>have nd:=(sc 85 (r:=r85)).nd;(yc (yu (yn z_v (T.M 61) ybk (T.b 81) (ya z_v yd))) (yc (yP (yn z_v (T.M 56) (ybj T) (T.b 74) (ya yx yd))) (yc (yu (yq z_v (T.M 58) (ydz T) (T.b 76))) (yc (yu (yq z_v (T.M 57) (yG T) (T.b 75))) (yc (yu (yn z_v (T.M 61) ybk (T.b 81) (ya z_v yd))) (yf (yi (ycl (yfR (T.J 6) (yiI T) (T.C 7) (T.b 51) (ya z_v (ya z_v (ya z_v (ya z_v yd)))))))))))))⟩
theorem yBj:‹(51+1,86,r86,1,ymv)›:=zfn (T.F 86 r86) (sc 86) fun _ _ _ _ _ _ hr=>have nd:=(sc 86 (r:=r86)).nd;(yc (yu (ygj (yfR (T.J 8) (ygQ T) (T.C 10) (T.b 70) (ya (yI (yot T) (T.G 18) (T.k 71) (T.b 71) (ya z_v yd)) yd)))) (yc (yu (yn z_v (T.M 60) (ytR T 45).ydN (T.b 80) (ya yl yd))) (yc (yR (yA yyi yCq (yq z_v (T.M 54) (ycv T) (T.b 72)) yiZ) (yf ych) yp) (yc (yR (yA yqR yCp (ybP ycg ydA (yI (yle T 45).ygo (T.G 10) (T.k 59) (T.b 59) (ya z_v yd)) yl) (yfP T.m_MOST_ROWS)) (yf ych) yp) (yf (yi z_v))))))
theorem yiM:FnOk P w K mg base CX0 (0+1) (t.a 0) (t.d 0) (FR.ps r0) (spI (ypI K t) 0 11 yfT):=zin (T.F 0 r0) (sc 0) rfl (by decide) fun _ _ _ _ _ _ hr=>(ybl (ybv (T.N 0) (ygj (ycB (ya (ygj ypk) yd)))) (ydw (ybv (T.N 1) (ygj ypk))))
theorem ymS:‹(0+1,1,r1,3,yeF)›:=zfn (T.F 1 r1) (sc 1) fun _ _ _ _ _ _ hr=>have nd:=(sc 1 (r:=r1)).nd;(yc (yu (ybN ybu ydB (yB (T.N 0) z_v) (yGu yqN yzc yl))) (yf (ynT z_v z_v z_v)))
theorem yjP:‹(0+1,2,r2,2,yes)›:=zfn (T.F 2 r2) (sc 2) fun _ _ _ _ _ _ hr=>have nd:=(sc 2 (r:=r2)).nd;(yc (yzZ (T.Z 9) (yB (T.N 0) z_v) ycQ (yf (yR (yDl z_v z_v) (yf (yi (yxu z_v z_v))) yp))) (yf (yi yiZ)))
theorem ymT:‹(0+1,3,r3,1,yeG)›:=zfn (T.F 3 r3) (sc 3) fun _ _ _ _ _ _ hr=>(yf (yP (yzS plainAttrs_list PySem.F.slot_list_append PySem.F.type_list_append yfb yrV (yB (T.N 0) z_v) (ya (ygj ypk) yd))))
theorem ylg:‹(0+1,4,r4,1,ydW)›:=zfn (T.F 4 r4) (sc 4) fun _ _ _ _ _ _ hr=>have nd:=(sc 4 (r:=r4)).nd;(yc (yu (yvD plainAttrs_list slot_list_pop type_list_pop yoG yoU (yB (T.N 0) z_v))) (yc (yu (ybN ybu ydB (yB (T.N 0) z_v) (yGu yqN yzc yl))) (yf (yP (yzS PySem.F.plainAttrs_dict PySem.F.slot_dict_update PySem.F.type_dict_update yDr yGs z_v (ya z_v yd))))))
theorem you:‹(0+1,5,r5,1,yfB)›:=zfn (T.F 5 r5) (sc 5) fun _ _ _ _ _ _ hr=>(yf (yP (yvD plainAttrs_list slot_list_pop type_list_pop yoG yoU (yB (T.N 0) z_v))))
theorem yqv:‹(0+1,6,r6,3,ygC)›:=zfn (T.F 6 r6) (sc 6) fun _ _ _ _ _ _ hr=>(yf (ynT (yB (T.N 1) z_v) z_v z_v))
theorem yjQ:‹(0+1,7,r7,1,yfi)›:=zfn (T.F 7 r7) (sc 7) fun _ _ _ _ _ _ hr=>(yf (yi (ycl (PXS.z_sortI (yB (T.N 1) z_v) (T.Z 10)))))
theorem ymU:‹(0+1,8,r8,1,yeH)›:=zfn (T.F 8 r8) (sc 8) fun _ _ _ _ _ _ hr=>have nd:=(sc 8 (r:=r8)).nd;(yc (yu (ybN ybu ydB (yB (T.N 0) z_v) yl)) (yf (yi (ycl (PXS.z_sortI z_v (T.Z 10))))))
theorem ygS:‹(0+1,16,r16,1,ydX)›:=zfn (T.F 16 r16) (sc 16) fun _ _ _ _ _ _ hr=>(yf (yi (yzS PySem.F.plainAttrs_str PySem.F.slot_str_find PySem.F.type_str_find yAc yuZ (ymr T.m_SLOTS) (ya z_v yd))))
theorem ybE:‹(1+1,19,r19,2,yba)›:=zfn (T.F 19 r19) (sc 19) fun _ _ _ _ _ _ hr=>(yf (yi (ybN ybu ydB (yB (T.N 2) z_v) (yI (ygS T) (T.G 7) (T.k 16) (T.b 16) (ya z_v yd)))))
theorem yds:‹(1+1,20,r20,3,ybY)›:=zfn (T.F 20 r20) (sc 20) fun _ _ _ _ _ _ hr=>(yf (ynU z_v (yB (T.N 2) z_v) (yI (ygS T) (T.G 7) (T.k 16) (T.b 16) (ya z_v yd))))
theorem ycG:‹(2+1,21,r21,2,ybI)›:=zfn (T.F 21 r21) (sc 21) fun _ _ _ _ _ _ hr=>(yf (yi (ybP yca ydv (yn z_v (T.M 17) (ybE T) (T.b 19) (ya z_v yd)) (yB (T.N 3) z_v))))
theorem yhB:FnOk P w K mg base CX0 (2+1) (t.a 18) (t.d 18) (FR.ps r18) (spJ (ypI K t) 2 12 yfj):=yIv (T.F 18 r18) (sc 18) rfl (by decide) fun _ _ _ _ _ _ hr=>(ybl (ybv (T.N 2) (ygj (ycJ yH ybq (T.Z 6) (ya z_v yd)))) (ybl (ybv (T.N 3) z_v) (ydw (ybv (T.N 4) (ygj (yAa (T.J 9) (yiM T) (T.C 11) (T.b 0)))))))
theorem ytS:‹(0+1,9,r9,3,yhM)›:=zfn (T.F 9 r9) (sc 9) fun _ _ _ _ _ _ hr=>(yc (yR (yA ybb ycP z_v yx) (yf (yi (ybP yca ydv (ybP ycg ydA z_v z_v) (yfP T.m_WIDE)))) yp) (yc (yR (yA ybb ycP z_v yx) (yf (yi (ybP yca ydv (ybP yhR ynF z_v z_v) (yfP T.m_WIDE)))) yp) (yc (yR (yA ybb ycP z_v yx) (yf (yi (ybP yca ydv (ybP yqL yza z_v z_v) (yfP T.m_WIDE)))) yp) (yc (yR (yA ybb ycP z_v yx) (yf (yi (ysr (yA ylu yxe z_v z_v) yl yl))) yp) (yf (yi (ysr (yA ybb ycP z_v z_v) yl yl)))))))
theorem yhk:‹(2+1,22,r22,5,ycc)›:=zfn (T.F 22 r22) (sc 22) fun _ _ _ _ _ _ hr=>(yf (yP (yn z_v (T.M 18) (yds T) (T.b 20) (ya z_v (ya (yI (ytS T) (T.G 0) (T.k 9) (T.b 9) (ya z_v (ya (yn z_v (T.M 17) (ybE T) (T.b 19) (ya z_v yd)) (ya (yn z_v (T.M 17) (ybE T) (T.b 19) (ya z_v yd)) yd)))) yd)))))
theorem yji:‹(3+1,23,r23,3,ycR)›:=zfn (T.F 23 r23) (sc 23) fun _ _ _ _ _ _ hr=>(yf (yP (yn (yB (T.N 4) z_v) (T.M 9) (ymS T) (T.b 1) (ya (yn z_v (T.M 19) (ycG T) (T.b 21) (ya z_v yd)) (ya (yn z_v (T.M 17) (ybE T) (T.b 19) (ya z_v yd)) yd)))))
theorem yiN:‹(3+1,24,r24,2,ydh)›:=zfn (T.F 24 r24) (sc 24) fun _ _ _ _ _ _ hr=>(yf (yi (yfK yoB yuX (yn (yB (T.N 4) z_v) (T.M 10) (yjP T) (T.b 2) (ya (yn z_v (T.M 19) (ycG T) (T.b 21) (ya z_v yd)) yd)) yiZ)))
theorem yhC:‹(3+1,25,r25,3,ycn)›:=zfn (T.F 25 r25) (sc 25) fun _ _ _ _ _ _ hr=>(yf (yP (yn z_v (T.M 18) (yds T) (T.b 20) (ya z_v (ya (yn (yB (T.N 4) z_v) (T.M 10) (yjP T) (T.b 2) (ya (yn z_v (T.M 19) (ycG T) (T.b 21) (ya z_v yd)) yd)) yd)))))
theorem yhl:‹(3+1,26,r26,4,ycH)›:=zfn (T.F 26 r26) (sc 26) fun _ _ _ _ _ _ hr=>have nd:=(sc 26 (r:=r26)).nd;(yc (yu (yn z_v (T.M 19) (ycG T) (T.b 21) (ya z_v yd))) (yc (yP (yn (yB (T.N 4) z_v) (T.M 14) (yqv T) (T.b 6) (ya z_v (ya (ybN ybu ydB z_v z_v) yd)))) (yf (yP (yn z_v (T.M 18) (yds T) (T.b 20) (ya z_v (ya (ybN ybu ydB z_v z_v) yd)))))))
theorem ywI:‹(0+1,27,r27,2,yir)›:=zfn (T.F 27 r27) (sc 27) fun _ _ _ _ _ _ hr=>(yc (yR (yA ybb ycP (ybN yM ybh z_v yl) yx) (yf (yi (yfK ybb ycP (ybN yM ybh z_v yl) yx))) yp) (yf (yi (yqd (yfK ybb ycP (ybN yM ybh z_v yl) yx) (yqc (yfK ybb ycP (ybN yM ybh z_v yl) (ybN yM ybh z_v yl)))))))
theorem yiO:FnOk P w K mg base CX0 (4+1) (t.a 28) (t.d 28) (FR.ps r28) (spI (ypI K t) 3 12 yep):=zin (T.F 28 r28) (sc 28) rfl (by decide) fun _ _ _ _ _ _ hr=>(ybl (yAe T.cf_Doer (T.C 13) (yhB T) (T.b 18) (ya z_v (ya z_v yd))) (ybl (ybv (T.N 5) z_v) (ybl (ybv (T.N 6) yl) (ybl (ybv (T.N 7) (ygj ypk)) (ydw (ybv (T.N 8) (ygj (ycB yd))))))))
theorem yfG:‹(0+1,29,r29,1,ydI)›:=zfn (T.F 29 r29) (sc 29) fun _ _ _ _ _ _ hr=>(yf (yi (ybN ybu ydB (yB (T.N 5) z_v) (yB (T.N 6) z_v))))
theorem yfy:‹(0+1,30,r30,2,ycE)›:=zfn (T.F 30 r30) (sc 30) fun _ _ _ _ _ _ hr=>(yf (yi (ydV (yps rfl) yDf (T.Z 1) (ya (ycl (yAg ["stamps","self"] (yB (T.N 7) z_v) (fun _ _ _ _ _ _=>(yfK ynf yzd (ybN ybu ydB z_v z_v) (yxu (yB (T.N 7) z_v) z_v))))) yd))))
theorem yej:‹(1+1,31,r31,2,ybz)›:=zfn (T.F 31 r31) (sc 31) fun _ _ _ _ _ _ hr=>have nd:=(sc 31 (r:=r31)).nd;(yc (yu (ydV yN ydl (T.Z 5) (ya (yB (T.N 8) z_v) yd))) (yc (ygz (yqe (yss (yA yqR yCp z_v yl) (ynS (ydU (ybQ (yI (ywI T) (T.G 9) (T.k 27) (T.b 27) (ya (ybN yM ybh (ybN ybu ydB (yB (T.N 8) z_v) (ybP yhR ynF z_v yl)) yl) (ya z_v yd)))))))) (yf (yu (ybP yhR ynF z_v yl)))) (yf (yi z_v))))
theorem yfz:‹(4+1,32,r32,1,ybt)›:=zfn (T.F 32 r32) (sc 32) fun _ _ _ _ _ _ hr=>have nd:=(sc 32 (r:=r32)).nd;(yc (yu (yq z_v (T.M 25) (yfG T) (T.b 29))) (yc (yR (yA ybb ycP (ybN yM ybh z_v yl) yx) (yf (yi (yn z_v (T.M 22) (yiN T) (T.b 24) (ya (ybN yM ybh z_v yl) yd)))) yp) (yc (yR (yqe (yhx (yA ybb ycP (ybN yM ybh z_v yl) yx) (yfQ (yA ybb ycP (ybN yM ybh z_v yl) yx)))) (yf (yi (yfK ybb ycP (yn z_v (T.M 27) (yej T) (T.b 31) (ya z_v yd)) yl))) yp) (yf (yi (yfK ybb ycP (ybN yM ybh z_v yl) yx))))))
theorem yiP:‹(4+1,33,r33,3,ydi)›:=zfn (T.F 33 r33) (sc 33) fun _ _ _ _ _ _ hr=>have nd:=(sc 33 (r:=r33)).nd;(yc (yu (yq z_v (T.M 25) (yfG T) (T.b 29))) (yc (yu (yn z_v (T.M 19) (ycG T) (T.b 21) (ya (ybN yM ybh z_v yl) yd))) (yc (ynT (yB (T.N 7) z_v) z_v (ybN ybu ydB z_v z_v)) (yc (yP (yn z_v (T.M 24) (yhl T) (T.b 26) (ya (ybN yM ybh z_v yl) (ya (ybN yM ybh z_v yl) (ya z_v yd))))) (yc (ybB (T.N 6) z_v (ybP ycg ydA (yB (T.N 6) z_v) yl)) (yf (yi z_v)))))))
theorem yiQ:‹(4+1,34,r34,2,yE)›:=zfn (T.F 34 r34) (sc 34) fun _ _ _ _ _ _ hr=>(yf (yR (yA ybb ycP (ybN yM ybh z_v yl) yx) (yf (yP (yn z_v (T.M 18) (yds T) (T.b 20) (ya (ybN yM ybh z_v yl) (ya (ybN yM ybh z_v yl) yd))))) (yf (yR (yA ybb ycP (ybN yM ybh z_v yl) yx) (yf (yP (yn z_v (T.M 23) (yhC T) (T.b 25) (ya (ybN yM ybh z_v yl) (ya (ybN yM ybh z_v yl) yd))))) (yf (yR (yA ybb ycP (ybN yM ybh z_v yl) yx) (yf (yP (yn z_v (T.M 20) (yji T) (T.b 23) (ya (ybN yM ybh z_v yl) (ya (ybN yM ybh z_v yl) yd))))) (yf (yP (yn z_v (T.M 21) (yhk T) (T.b 22) (ya (ybN yM ybh z_v yl) (ya (ybN yM ybh z_v yl) (ya (ybN yM ybh z_v yl) (ya (ybN yM ybh z_v yl) yd)))))))))))))
theorem yov:‹(2+1,35,r35,2,ybR)›:=zfn (T.F 35 r35) (sc 35) fun _ _ _ _ _ _ hr=>(yf (yR (yA ybb ycP (ybN yM ybh z_v yl) yx) (yf (ybB (T.N 6) z_v (ybN yM ybh z_v yl))) (yf (yR (yA ybb ycP (yn z_v (T.M 17) (ybE T) (T.b 19) (ya (ybN yM ybh z_v yl) yd)) yl) (yf (ybB (T.N 6) z_v (ybN yM ybh z_v yl))) yp))))
theorem yhu:‹(2+1,36,r36,2,yco)›:=zfn (T.F 36 r36) (sc 36) fun _ _ _ _ _ _ hr=>have nd:=(sc 36 (r:=r36)).nd;(yc (yu (yn z_v (T.M 27) (yej T) (T.b 31) (ya z_v yd))) (yc (yu (ybN ybu ydB (yB (T.N 8) z_v) (ybP yhR ynF z_v yl))) (yc (ygz (yA yFn yIo (ydV yN ydl (T.Z 5) (ya (yB (T.N 8) z_v) yd)) z_v) (yc (yP (yvD plainAttrs_list slot_list_pop type_list_pop yoG yoU (yB (T.N 8) z_v))) (yf (yP (yq (yB (T.N 4) z_v) (T.M 13) (you T) (T.b 5)))))) (yc (yu (ybN yM ybh z_v yl)) (yc (ybB (T.N 2) z_v (ygj (ycJ yH ybq (T.Z 6) (ya (ybN yM ybh z_v yl) yd)))) (yc (ybB (T.N 6) z_v (ybN yM ybh z_v (yGu yqN yzc yl))) (yf (yi z_v))))))))
theorem ymV:‹(3+1,37,r37,2,ycI)›:=zfn (T.F 37 r37) (sc 37) fun _ _ _ _ _ _ hr=>have nd:=(sc 37 (r:=r37)).nd;(yc (yu (yn z_v (T.M 17) (ybE T) (T.b 19) (ya (ybN yM ybh z_v yl) yd))) (yc (yu (yn z_v (T.M 34) (yhu T) (T.b 36) (ya z_v yd))) (yf (yP (yn z_v (T.M 18) (yds T) (T.b 20) (ya (ybN yM ybh z_v yl) (ya z_v yd)))))))
theorem ytT:‹(5+1,38,r38,1,yci)›:=zfn (T.F 38 r38) (sc 38) fun _ _ _ _ _ _ hr=>have nd:=(sc 38 (r:=r38)).nd;(yc (yu (yq z_v (T.M 25) (yfG T) (T.b 29))) (yc (ybB (T.N 6) z_v (ybP ycg ydA (yB (T.N 6) z_v) yl)) (yf (yR (yA ybb ycP (ybN yM ybh z_v yl) yx) (yf (yP (yn z_v (T.M 34) (yhu T) (T.b 36) (ya z_v yd)))) (yf (yR (yA ybb ycP (ybN yM ybh z_v yl) yx) (yf (yP (yn z_v (T.M 33) (ymV T) (T.b 37) (ya z_v yd)))) (yf (yR (yqe (yhx (yA ybb ycP (ybN yM ybh z_v yl) yx) (yfQ (yA ybb ycP (ybN yM ybh z_v yl) yx)))) (yf (yP (yn z_v (T.M 32) (yov T) (T.b 35) (ya z_v yd)))) (yf (yR (yqe (yhx (yA ybb ycP (ybN yM ybh z_v yl) yx) (yfQ (yA ybb ycP (ybN yM ybh z_v yl) yx)))) (yc (yP (yzS plainAttrs_list PySem.F.slot_list_append PySem.F.type_list_append yfb yrV (yB (T.N 8) z_v) (ya (ycb (ya z_v (ya (ycl (ycJ yH ybq (T.Z 6) (ya (yB (T.N 2) z_v) yd))) yd))) yd))) (yf (yP (yq (yB (T.N 4) z_v) (T.M 11) (ymT T) (T.b 3))))) (yf (yR (yA ybb ycP (ybN yM ybh z_v yl) yx) (yc (yP (yvD plainAttrs_list slot_list_pop type_list_pop yoG yoU (yB (T.N 8) z_v))) (yf (yP (yq (yB (T.N 4) z_v) (T.M 12) (ylg T) (T.b 4))))) (yf (yP (yn z_v (T.M 31) (yiQ T) (T.b 34) (ya z_v yd))))))))))))))))
theorem yeN:‹(0+1,39,r39,1,ycp)›:=zfn (T.F 39 r39) (sc 39) fun _ _ _ _ _ _ hr=>(yc (yR (yA ybb ycP (yB (T.N 10) z_v) (ydV yN ydl (T.Z 5) (ya (yB (T.N 9) z_v) yd))) (yf (yi yx)) yp) (yf (yi (ysr (ybQ (yB (T.N 11) z_v)) yx yx))))
theorem ydP:‹(6+1,40,r40,1,ycd)›:=zfn (T.F 40 r40) (sc 40) fun _ _ _ _ _ _ hr=>have nd:=(sc 40 (r:=r40)).nd;(yc (yu (ysr (yA ylu yxe (yB (T.N 10) z_v) (ydV yN ydl (T.Z 5) (ya (yB (T.N 9) z_v) yd))) (ybN ybu ydB (yB (T.N 9) z_v) (yB (T.N 10) z_v)) (ycl (ycB yd)))) (yf (yi (ygj (yfR (T.J 10) (yiO T) (T.C 12) (T.b 28) (ya z_v (ya (yB (T.N 12) z_v) (ya (yB (T.N 3) z_v) yd))))))))
theorem yek:‹(7+1,41,r41,1,ybS)›:=zfn (T.F 41 r41) (sc 41) fun _ _ _ _ _ _ hr=>(yc (ybB (T.N 11) z_v yxt) (yf (ybB (T.N 13) z_v (yq z_v (T.M 36) (ydP T) (T.b 40)))))
theorem ygs:‹(0+1,42,r42,1,ycj)›:=zfn (T.F 42 r42) (sc 42) fun _ _ _ _ _ _ hr=>(yf (ybB (T.N 11) z_v yxt))
theorem ylh:‹(7+1,43,r43,2,ydY)›:=zfn (T.F 43 r43) (sc 43) fun _ _ _ _ _ _ hr=>(yc (ybB (T.N 10) z_v (ybP ycg ydA (yB (T.N 10) z_v) yl)) (yc (ybB (T.N 12) z_v (ycl (ycJ yH ybq (T.Z 6) (ya z_v yd)))) (yf (ybB (T.N 13) z_v (yq z_v (T.M 36) (ydP T) (T.b 40))))))
theorem yhD:‹(7+1,44,r44,3,ybT)›:=zfn (T.F 44 r44) (sc 44) fun _ _ _ _ _ _ hr=>(yc (ybB (T.N 9) z_v (ycl (ycJ yH ybq (T.Z 6) (ya z_v yd)))) (yc (ybB (T.N 3) z_v z_v) (yc (ybB (T.N 10) z_v yl) (yc (ybB (T.N 11) z_v yxt) (yc (ybB (T.N 12) z_v (ycl (yqb ywV yCu (ycl (ycB (ya yl yd))) (ydV ydS yoO (T.Z 5) (ya (ymr T.m_SLOTS) yd))))) (yf (ybB (T.N 13) z_v (yq z_v (T.M 36) (ydP T) (T.b 40)))))))))
theorem yjj:‹(2+1,87,r87,1,ydD)›:=zfn (T.F 87 r87) (sc 87) fun _ _ _ _ _ _ hr=>(yc (yR (ydU (yhL yiT yiT ytV ytV yl (ydV yN ydl (T.Z 5) (ya z_v yd)) (yfP T.m_MOST_BOXES))) (yf ych) yp) (yf (yR (ydU (ybQ (ydV (yka rfl) yzg (T.Z 0) (ya (ycl (yfe [] (yda z_v) (fun _ _ _ _ _ _=>(yI (ymR T) (T.G 2) (T.k 11) (T.b 11) (ya z_v yd))))) yd)))) (yf ych) yp)))
theorem yhE:‹(93+1,88,r88,1,ycr)›:=zfn (T.F 88 r88) (sc 88) fun _ _ _ _ _ _ hr=>(yf (yi (ycl (yfe [] (yda z_v) (fun _ _ _ _ _ _=>(yI (yqr T) (T.G 17) (T.k 69) (T.b 69) (ya (yI (yBj T) (T.G 19) (T.k 86) (T.b 86) (ya z_v yd)) yd)))))))
theorem yhF:‹(94+1,89,r89,1,ycs)›:=zfn (T.F 89 r89) (sc 89) fun _ _ _ _ _ _ hr=>(yc (yR (ydU (yhL yiT yiT ytV ytV yl (ydV yN ydl (T.Z 5) (ya z_v yd)) (yfP T.m_MOST_HANDS))) (yf ych) yp) (yc (yR (ybQ (ydV (yps rfl) yDf (T.Z 1) (ya (ycl (yfe [] (yda z_v) (fun _ _ _ _ _ _=>(yfK yqR yCp (ydV yN ydl (T.Z 5) (ya z_v yd)) (yfP T.m_MOST_DEEDS))))) yd))) (yf ych) yp) (yf (yi (ycl (yfe [] (yda z_v) (fun _ _ _ _ _ _=>(yI (yhE T) (T.G 21) (T.k 88) (T.b 88) (ya z_v yd)))))))))
theorem yeS:‹(95+1,90,r90,3,yct)›:=zfn (T.F 90 r90) (sc 90) fun _ _ _ _ _ _ hr=>(yc (yP (yI (yjj T) (T.G 20) (T.k 87) (T.b 87) (ya z_v yd))) (yc (ybB (T.N 14) z_v (ygj (ycJ yH ybq (T.Z 6) (ya z_v yd)))) (yc (ybB (T.N 15) z_v (ygj (yqb ywV yCu (ycl (ycB (ya yl yd))) (ydV yN ydl (T.Z 5) (ya z_v yd))))) (yc (ybB (T.N 16) z_v (ygj (yfe ["boxes"] (yda (yI (yhF T) (T.G 22) (T.k 89) (T.b 89) (ya z_v yd))) (fun _ _ _ _ _ _=>(ynX (T.J 12) (yhD T) (T.C 14) (T.b 44) (ya z_v (ya (ydV yN ydl (T.Z 5) (ya z_v yd)) yd))))))) (yf (ybB (T.N 17) z_v (ygj (ycB yd))))))))
theorem yli:‹(0+1,91,r91,1,ydo)›:=zfn (T.F 91 r91) (sc 91) fun _ _ _ _ _ _ hr=>(yf (yi (ycl (ycJ yH ybq (T.Z 6) (ya (yB (T.N 14) z_v) yd)))))
theorem yjk:‹(0+1,92,r92,1,ycS)›:=zfn (T.F 92 r92) (sc 92) fun _ _ _ _ _ _ hr=>(yf (yi (ycl (ycJ yH ybq (T.Z 6) (ya (yB (T.N 15) z_v) yd)))))
theorem ycV:‹(0+1,93,r93,1,ybd)›:=zfn (T.F 93 r93) (sc 93) fun _ _ _ _ _ _ hr=>(yf (yi (ydV yN ydl (T.Z 5) (ya (yB (T.N 16) z_v) yd))))
theorem ycx:‹(1+1,94,r94,2,ybm)›:=zfn (T.F 94 r94) (sc 94) fun _ _ _ _ _ _ hr=>(yc (yR (yqe (yhx (ydU (ybQ (yI (yiL T) (T.G 1) (T.k 10) (T.b 10) (ya z_v yd)))) (yfQ (ydU (yhL yiT ylu ytV yxe yl z_v (ydV yN ydl (T.Z 5) (ya (yB (T.N 16) z_v) yd))))))) (yf ych) yp) (yf (yi (ybN ybu ydB (yB (T.N 16) z_v) z_v))))
theorem ycW:‹(2+1,95,r95,2,ybe)›:=zfn (T.F 95 r95) (sc 95) fun _ _ _ _ _ _ hr=>(yf (yi (yq (yn z_v (T.M 43) (ycx T) (T.b 94) (ya z_v yd)) (T.M 35) (yeN T) (T.b 39))))
theorem ylj:‹(2+1,96,r96,2,yea)›:=zfn (T.F 96 r96) (sc 96) fun _ _ _ _ _ _ hr=>(yf (yi (yB (T.N 10) (yn z_v (T.M 43) (ycx T) (T.b 94) (ya z_v yd)))))
theorem ylk:‹(2+1,97,r97,2,yeb)›:=zfn (T.F 97 r97) (sc 97) fun _ _ _ _ _ _ hr=>(yf (yi (ycl (ycJ yH ybq (T.Z 6) (ya (yB (T.N 2) (yB (T.N 13) (yn z_v (T.M 43) (ycx T) (T.b 94) (ya z_v yd)))) yd)))))
theorem yow:‹(2+1,98,r98,2,yfD)›:=zfn (T.F 98 r98) (sc 98) fun _ _ _ _ _ _ hr=>(yf (yi (yq (yB (T.N 4) (yB (T.N 13) (yn z_v (T.M 43) (ycx T) (T.b 94) (ya z_v yd)))) (T.M 15) (yjQ T) (T.b 7))))
theorem yiR:‹(0+1,99,r99,1,yce)›:=zfn (T.F 99 r99) (sc 99) fun _ _ _ _ _ _ hr=>(yf (yi (ycl (yAf [] (yB (T.N 17) z_v) (fun _ _ _ _ _ _=>(ycb (ya (ybN yM ybh z_v yl) (ya (ybN yM ybh z_v yl) (ya (ybN yM ybh z_v yl) (ya (ycl (ycJ yH ybq (T.Z 6) (ya (ybN yM ybh z_v yl) yd))) (ya (ycl (ycJ yH ybq (T.Z 6) (ya (ybN yM ybh z_v yl) yd))) (ya (ycl (ycJ yH ybq (T.Z 6) (ya (ybN yM ybh z_v yl) yd))) yd))))))))))))
theorem ygT:‹(8+1,100,r100,1,ybA)›:=zfn (T.F 100 r100) (sc 100) fun _ _ _ _ _ _ hr=>have nd:=(sc 100 (r:=r100)).nd;(yf (yzY (yB (T.N 16) z_v) ycQ (yf (yR (yqe (yss (yA ybb ycP (yq z_v (T.M 35) (yeN T) (T.b 39)) yx) (ynS (ybQ (yn (yB (T.N 13) z_v) (T.M 26) (yfy T) (T.b 30) (ya (yB (T.N 15) z_v) yd)))))) (yf (yP (yq z_v (T.M 37) (yek T) (T.b 41)))) yp))))
theorem yeT:‹(8+1,101,r101,5,ycu)›:=zfn (T.F 101 r101) (sc 101) fun _ _ _ _ _ _ hr=>have nd:=(sc 101 (r:=r101)).nd;(yc (yu (ybN ybu ydB (yB (T.N 16) z_v) z_v)) (yc (yP (yzS plainAttrs_list PySem.F.slot_list_append PySem.F.type_list_append yfb yrV (yB (T.N 17) z_v) (ya (ycb (ya z_v (ya (yB (T.N 10) z_v) (ya z_v (ya (yq (yB (T.N 4) (yB (T.N 13) z_v)) (T.M 15) (yjQ T) (T.b 7)) (ya z_v (ya (ycl (ycJ yH ybq (T.Z 6) (ya z_v yd))) yd))))))) yd))) (yf (yP (yn z_v (T.M 39) (ylh T) (T.b 43) (ya z_v yd))))))
theorem yhG:‹(9+1,102,r102,2,ycT)›:=zfn (T.F 102 r102) (sc 102) fun _ _ _ _ _ _ hr=>have nd:=(sc 102 (r:=r102)).nd;(yc (yu (yB (T.N 13) (ybN ybu ydB (yB (T.N 16) z_v) z_v))) (yc (yu (yq (yB (T.N 4) z_v) (T.M 16) (ymU T) (T.b 8))) (yc (yfS (yda z_v) ycQ (yc (yu (ybN yM ybh z_v yl)) (yc (ynU (ybN yM ybh z_v yl) (yB (T.N 14) z_v) z_v) (yf (ynU (ybP ycg ydA (ybN ybu ydB (yB (T.N 15) z_v) z_v) yl) (yB (T.N 15) z_v) z_v))))) (yc (yP (yn z_v (T.M 50) (yeT T) (T.b 101) (ya z_v (ya (ycb (ya yx yd)) (ya z_v (ya (yB (T.N 2) z_v) yd)))))) (yf (yP (yq z_v (T.M 49) (ygT T) (T.b 100))))))))
theorem yey:‹(10+1,103,r103,3,yT)›:=zfn (T.F 103 r103) (sc 103) fun _ _ _ _ _ _ hr=>have nd:=(sc 103 (r:=r103)).nd;(yc (yu (ybN ybu ydB (yB (T.N 16) z_v) z_v)) (yc (yu (yq (yB (T.N 13) z_v) (T.M 25) (yfG T) (T.b 29))) (yc (yR (yA ybb ycP (ybN yM ybh z_v yl) yx) (yc (yu (yn (yB (T.N 13) z_v) (T.M 29) (yiP T) (T.b 33) (ya (yB (T.N 14) z_v) (ya (yB (T.N 15) z_v) yd)))) (yf (yi (ycb (ya yx (ya z_v (ya z_v (ya (ybN ybu ydB (yB (T.N 14) z_v) z_v) yd)))))))) yp) (yc (yR (yA ybb ycP (ybN yM ybh z_v yl) yx) (yc (yP (yq z_v (T.M 38) (ygs T) (T.b 42))) (yf (yi (ycb (ya yx (ya z_v yd)))))) yp) (yc (yR (yA ybb ycP (ybN yM ybh z_v yl) yx) (yc (yP (yn z_v (T.M 50) (yeT T) (T.b 101) (ya z_v (ya (ycb (ya yx (ya (ybN yM ybh z_v yl) (ya (yn (yB (T.N 13) z_v) (T.M 17) (ybE T) (T.b 19) (ya (ybN yM ybh z_v yl) yd)) yd)))) (ya (ycl (ycB yd)) (ya (yB (T.N 12) z_v) yd)))))) (yf (yi (ycb (ya yx (ya z_v yd)))))) yp) (yc (yP (yn z_v (T.M 51) (yhG T) (T.b 102) (ya z_v yd))) (yf (yi (ycb (ya yx (ya z_v yd)))))))))))
theorem yel:‹(11+1,104,r104,2,yC)›:=zfn (T.F 104 r104) (sc 104) fun _ _ _ _ _ _ hr=>have nd:=(sc 104 (r:=r104)).nd;(yc (yu (yn z_v (T.M 43) (ycx T) (T.b 94) (ya z_v yd))) (yc (yR (yA ynf yzd (yq z_v (T.M 35) (yeN T) (T.b 39)) yx) (yf (yi (ycb (ya yx yd)))) yp) (yc (yu (yB (T.N 6) (yB (T.N 13) z_v))) (yc (yR (ydU (ybQ (yq (yB (T.N 13) z_v) (T.M 28) (yfz T) (T.b 32)))) (yc (yP (yq (yB (T.N 13) z_v) (T.M 30) (ytT T) (T.b 38))) (yf (yi (ycb (ya yx (ya z_v yd)))))) yp) (yc (yR (ybQ (yn (yB (T.N 13) z_v) (T.M 26) (yfy T) (T.b 30) (ya (yB (T.N 15) z_v) yd))) (yc (yP (yq z_v (T.M 37) (yek T) (T.b 41))) (yf (yi (ycb (ya yx (ya z_v yd)))))) yp) (yf (yi (yn z_v (T.M 52) (yey T) (T.b 103) (ya z_v (ya z_v yd))))))))))
theorem yhm:‹(3+1,105,r105,1,ydp)›:=zfn (T.F 105 r105) (sc 105) fun _ _ _ _ _ _ hr=>(yf (yi (ydV (yka rfl) yzg (T.Z 0) (ya (ycl (yfe ["hall"] (yeC (T.Z 8) (ya (yq z_v (T.M 42) (ycV T) (T.b 93)) yd)) (fun _ _ _ _ _ _=>(yfK ynf yzd (yn z_v (T.M 44) (ycW T) (T.b 95) (ya z_v yd)) yx)))) yd))))
theorem ymW:‹(12+1,106,r106,1,ygF)›:=zfn (T.F 106 r106) (sc 106) fun _ _ _ _ _ _ hr=>have nd:=(sc 106 (r:=r106)).nd;(yc (yff (ycB yd)) (yc (ygz (ydU (ybQ (yI (yhm T) (T.G 23) (T.k 105) (T.b 105) (ya z_v yd)))) (yf (yfS (yeC (T.Z 8) (ya (yq z_v (T.M 42) (ycV T) (T.b 93)) yd)) ycQ (yf (yR (yA ybb ycP (yn z_v (T.M 44) (ycW T) (T.b 95) (ya z_v yd)) yx) (yf (yik (ycb (ya z_v (ya (yn z_v (T.M 53) (yel T) (T.b 104) (ya z_v yd)) yd))))) yp))))) (yfg (yf (yi z_v)))))
theorem ycX:‹(0+1,107,r107,2,yX)›:=zfn (T.F 107 r107) (sc 107) fun _ _ _ _ _ _ hr=>(yc (yR (yA ylu yxe z_v (ydV yN ydl (T.Z 5) (ya z_v yd))) (yf (yi (ybN ybu ydB z_v z_v))) yp) (yf (yi yl)))
theorem yfX:‹(0+1,108,r108,1,ycz)›:=zfn (T.F 108 r108) (sc 108) fun _ _ _ _ _ _ hr=>(yc (yR (yA ybb ycP (ybP yca ydv z_v yl) yl) (yf (yi (ybP yca ydv (ybP ycA yfH z_v yl) yl))) yp) (yc (yR (yA ybb ycP (ybP yca ydv z_v yl) yl) (yf (yi (ybP yhR ynF (ybP yhR ynF (ybP yqM yzb yl yl) yl) (ybP yca ydv (ybP ycA yfH z_v yl) yl)))) yp) (yf (yi (ybP yca ydv (ybP ycA yfH z_v yl) (ybP yqM yzb yl yl))))))
theorem yll:‹(0+1,109,r109,5,yec)›:=zfn (T.F 109 r109) (sc 109) fun _ _ _ _ _ _ hr=>have nd:=(sc 109 (r:=r109)).nd;(yc (yu (ybN ylC yrF yx (ybP yca ydv (ybP ycA yfH z_v yl) yl))) (yc (yu (ybN ybu ydB (ycl (ycB (ya yx (ya yx yd)))) (ybP yca ydv (ybP ycA yfH z_v yl) yl))) (yc (yu (ybP yca ydv (ybP ycA yfH z_v yl) yl)) (yc (yu (ysH (yw yx (yw (ygV z_v) (yw yx yfh))))) (yc (yR (yA ybb ycP z_v yl) (yf (yi (ycb (ya (ybP yeq ymd z_v yx) (ya yl yd))))) yp) (yc (yR (yA ybb ycP z_v yl) (yc (yu (ybP yeq ymd (ybP yeq ymd yx z_v) yx)) (yf (yi (ycb (ya (ybP yeq ymd z_v (ysH (yw yx (yw (ygV z_v) (yw yx (yw (ygV z_v) (yw yx yfh))))))) (ya yl yd)))))) yp) (yc (yR (yA ybb ycP z_v yl) (yc (yu (ysH (yw yx (yw (ygV z_v) (yw yx (yw (ygV z_v) (yw yx yfh))))))) (yf (yi (ycb (ya (ybP yeq ymd z_v (ysH (yw yx (yw (ygV z_v) (yw yx (yw (ygV z_v) (yw yx (yw (ygV z_v) (yw yx (yw (ygV z_v) (yw yx yfh))))))))))) (ya yl yd)))))) yp) (yc (yR (yA ybb ycP z_v yl) (yf (yi (ycb (ya (ysH (yw yx (yw (ygV z_v) (yw yx (yw (ygV z_v) (yw yx (yw (ygV z_v) (yw yx (yw (ygV z_v) (yw yx yfh)))))))))) (ya yl yd))))) yp) (yf (yi (ycb (ya (ysH (yw yx (yw (ygV z_v) (yw yx (yw (ygV z_v) (yw yx (yw (ygV z_v) (yw yx yfh)))))))) (ya yl yd)))))))))))))
theorem ylm:‹(1+1,110,r110,1,yed)›:=zfn (T.F 110 r110) (sc 110) fun _ _ _ _ _ _ hr=>have nd:=(sc 110 (r:=r110)).nd;(yc (yu (ybP yca ydv (ybP yqL yza z_v yl) yl)) (yc (yu (ybP yca ydv z_v yl)) (yc (yu (ybN ylC yrF yx (ybP yca ydv (ybP ycA yfH z_v yl) yl))) (yc (yu (ybN ylC yrF yx (ybP yca ydv (ybP ycA yfH z_v yl) yl))) (yc (yu (ybN ylC yrF yx (ybP yca ydv (ybP ycA yfH z_v yl) yl))) (yc (yu (ybP yca ydv (ybP ycA yfH z_v yl) yl)) (yc (yu (yI (yfX T) (T.G 26) (T.k 108) (T.b 108) (ya (ybP ycA yfH z_v yl) yd))) (yc (yu (ybN ybu ydB (ycl (ycB (ya yx (ya yx (ya yx (ya yx (ya yx yd))))))) (ybP yca ydv (ybP ycA yfH z_v yl) yl))) (yc (yR (yA ybb ycP z_v yl) (yf (yi (ycb (ya (ysH (yw yx (yw (ygV z_v) (yw yx (yw (ygV z_v) yfh))))) (ya yl yd))))) yp) (yc (yR (yA ybb ycP z_v yl) (yf (yi (ycb (ya (ysH (yw (ygV z_v) (yw yx (yw (ygV z_v) (yw yx (yw (ygV z_v) (yw yx (yw (ygV z_v) yfh)))))))) (ya yl yd))))) yp) (yc (yR (yA ybb ycP z_v yl) (yf (yi (ycb (ya (ysH (yw yx (yw (ygV z_v) (yw yx (yw (ygV z_v) (yw yx yfh)))))) (ya yl yd))))) yp) (yc (yR (yA ybb ycP z_v yl) (yf (yi (ycb (ya (ysH (yw yx (yw (ygV z_v) (yw yx (yw (ygV z_v) yfh))))) (ya yl yd))))) yp) (yc (yR (yA ylu yxe z_v yl) (yf (yi (ycb (ya (ysH (yw yx (yw (ygV z_v) (yw yx (yw (ygV z_v) (yw yx yfh)))))) (ya yl yd))))) yp) (yf (yi (yI (yll T) (T.G 27) (T.k 109) (T.b 109) (ya z_v (ya z_v (ya z_v (ya z_v (ya z_v yd)))))))))))))))))))))
theorem ymX:‹(2+1,111,r111,1,ybi)›:=zfn (T.F 111 r111) (sc 111) fun _ _ _ _ _ _ hr=>have nd:=(sc 111 (r:=r111)).nd;(yc (yff (ycB yd)) (yc (yu yl) (yc (yfS (yda z_v) ycQ (yc (yDk (yI (ylm T) (T.G 28) (T.k 110) (T.b 110) (ya z_v yd)) (yDj (ypj ycQ (ypj ycQ yzT)))) (yc (yik z_v) (yf (yu (ybP ycg ydA z_v z_v)))))) (yfg (yf (yi (ycb (ya (yzS PySem.F.plainAttrs_str PySem.F.slot_str_join PySem.F.type_str_join yyx yCw yx (ya z_v yd)) (ya z_v yd)))))))))
theorem yln:‹(1+1,112,r112,1,yee)›:=zfn (T.F 112 r112) (sc 112) fun _ _ _ _ _ _ hr=>have nd:=(sc 112 (r:=r112)).nd;(yc (yu (ybP ycA yfH (yI (ycX T) (T.G 25) (T.k 107) (T.b 107) (ya z_v (ya yl yd))) yl)) (yc (yu (yI (ycX T) (T.G 25) (T.k 107) (T.b 107) (ya z_v (ya yl yd)))) (yc (yu (yI (ycX T) (T.G 25) (T.k 107) (T.b 107) (ya z_v (ya yl yd)))) (yc (yu (ybN ybu ydB (ycl (ycB (ya yl (ya yl (ya yl (ya yl (ya yl (ya yl (ya yl (ya yl yd)))))))))) (ybP yca ydv z_v yl))) (yf (yi (ycl (yfe ["_law_second","_law_third"] (yeC (T.Z 8) (ya z_v yd)) (fun _ _ _ _ _ _=>(ybP yqL yza (yI (yfX T) (T.G 26) (T.k 108) (T.b 108) (ya (ybP ycA yfH z_v (ybP ycg ydA z_v yl)) yd)) (ybP yca ydv (ybP ycA yfH z_v (ybP ycg ydA z_v yl)) yl)))))))))))
theorem ylo:‹(3+1,113,r113,1,yef)›:=zfn (T.F 113 r113) (sc 113) fun _ _ _ _ _ _ hr=>have nd:=(sc 113 (r:=r113)).nd;(yc (yu (ybP ycg ydA yl (ybP yca ydv (yI (ycX T) (T.G 25) (T.k 107) (T.b 107) (ya z_v (ya yl yd))) yl))) (yc (yu (ycl (yzQ ynj yzf z_v (yhe yl) (yhe yl)))) (yc (yff (ycB yd)) (yc (yfS (yeC (T.Z 8) (ya z_v yd)) ycQ (yc (yu (ycl (ysE ["_law_cells","_law_hand","_law_many"] (yeC (T.Z 8) (ya (ydV yN ydl (T.Z 5) (ya z_v yd)) yd)) (fun _ _ _ _ _ _=>(ybN ybu ydB z_v z_v)) (fun _ _ _ _ _ _=>(yA ybb ycP (ybP yca ydv z_v z_v) z_v))))) (yf (yik (ycl (yfe ["_law_mine"] (yzU (T.Z 8) (ya yl (ya (ydV (yqU rfl) yCU (T.Z 7) (ya (ydV yN ydl (T.Z 5) (ya z_v yd)) (ya yl yd))) (ya yl yd)))) (fun _ _ _ _ _ _=>(yI (ymX T) (T.G 29) (T.k 111) (T.b 111) (ya (ycl (yzQ ynj yzf z_v (yhe z_v) (yhe (ybP ycg ydA z_v yl)))) yd))))))))) (yfg (yf (yi z_v)))))))
theorem ylp:‹(0+1,114,r114,1,yeg)›:=zfn (T.F 114 r114) (sc 114) fun _ _ _ _ _ _ hr=>(yf (yi (ycl (yfe [] (yda z_v) (fun _ _ _ _ _ _=>(ycl (yvO [] (yda z_v) (fun _ _ _ _ _ _=>z_v))))))))
theorem ylq:‹(0+1,115,r115,2,ycK)›:=zfn (T.F 115 r115) (sc 115) fun _ _ _ _ _ _ hr=>have nd:=(sc 115 (r:=r115)).nd;(yc (yff (ycB yd)) (yc (yfS (yda (ycl (yzQ ynj yzf z_v (yhe yl) (yhe yl)))) ycQ (yc (yu (ybP yca ydv z_v (ybP yqM yzb yl yl))) (yf (yfS (yeC (T.Z 8) (ya yl yd)) ycQ (yc (yik (ybP yca ydv z_v z_v)) (yf (yu (ybP ycA yfH z_v z_v)))))))) (yfg (yf (yi z_v)))))
theorem yeO:‹(3+1,116,r116,1,ybX)›:=zfn (T.F 116 r116) (sc 116) fun _ _ _ _ _ _ hr=>(yf (yi (ydV yN ydl (T.Z 5) (ya (ycl (ysE ["_law_hall"] (yeC (T.Z 8) (ya (yq z_v (T.M 42) (ycV T) (T.b 93)) yd)) (fun _ _ _ _ _ _=>z_v) (fun _ _ _ _ _ _=>(yA ybb ycP (yn z_v (T.M 44) (ycW T) (T.b 95) (ya z_v yd)) yx)))) yd))))
theorem ydk:‹(3+1,117,r117,1,ybZ)›:=zfn (T.F 117 r117) (sc 117) fun _ _ _ _ _ _ hr=>have nd:=(sc 117 (r:=r117)).nd;(yc (yff (ycB (ya (yq z_v (T.M 40) (yli T) (T.b 91)) (ya (yq z_v (T.M 41) (yjk T) (T.b 92)) (ya (yq z_v (T.M 48) (yiR T) (T.b 99)) yd))))) (yc (yfS (yeC (T.Z 8) (ya (yq z_v (T.M 42) (ycV T) (T.b 93)) yd)) ycQ (yf (yik (ycl (ycB (ya (yn z_v (T.M 44) (ycW T) (T.b 95) (ya z_v yd)) (ya (yn z_v (T.M 45) (ylj T) (T.b 96) (ya z_v yd)) (ya (yn z_v (T.M 46) (ylk T) (T.b 97) (ya z_v yd)) (ya (yn z_v (T.M 47) (yow T) (T.b 98) (ya z_v yd)) yd))))))))) (yfg (yf (yi z_v)))))
theorem yjl:‹(12+1,118,r118,1,ydE)›:=zfn (T.F 118 r118) (sc 118) fun _ _ _ _ _ _ hr=>have nd:=(sc 118 (r:=r118)).nd;(yc (yff (ycB yd)) (yc (ygz (yA yqR yCp (yI (yeO T) (T.G 34) (T.k 116) (T.b 116) (ya z_v yd)) yl) (yf (yfS (yeC (T.Z 8) (ya (yq z_v (T.M 42) (ycV T) (T.b 93)) yd)) ycQ (yf (yR (yA ybb ycP (yn z_v (T.M 44) (ycW T) (T.b 95) (ya z_v yd)) yx) (yf (yik (ycb (ya z_v (ya (yn z_v (T.M 53) (yel T) (T.b 104) (ya z_v yd)) yd))))) yp))))) (yfg (yf (yi z_v)))))
theorem yEH:‹(97+1,119,r119,1,yvQ)›:=zfn (T.F 119 r119) (sc 119) fun _ _ _ _ _ _ hr=>have nd:=(sc 119 (r:=r119)).nd;(yc (yu (yI (ylp T) (T.G 32) (T.k 114) (T.b 114) (ya (yI (ylo T) (T.G 31) (T.k 113) (T.b 113) (ya z_v yd)) yd))) (yc (yu (yI (yln T) (T.G 30) (T.k 112) (T.b 112) (ya z_v yd))) (yc (yu (ynX (T.J 13) (yeS T) (T.C 15) (T.b 90) (ya z_v (ya z_v yd)))) (yc (yu (ynX (T.J 13) (yeS T) (T.C 15) (T.b 90) (ya z_v (ya z_v yd)))) (yc (yfS (yda (yI (ylq T) (T.G 33) (T.k 115) (T.b 115) (ya z_v (ya (ydV yN ydl (T.Z 5) (ya z_v yd)) yd)))) ycQ (yc (yu (yI (yhm T) (T.G 23) (T.k 105) (T.b 105) (ya z_v yd))) (yc (yR (yqe (yhx (ydU (ybQ (ydV yW (yfI (K:=ckX _ _) T.isa) (T.Z 4) (ya z_v (ya (yvC (T.Z 2)) yd))))) (yfQ (yA ynf yzd z_v (yfK ybb ycP (yI (yeO T) (T.G 34) (T.k 116) (T.b 116) (ya z_v yd)) yl))))) (yf (yi yxt)) yp) (yf (yR (yA (ysw (yms hr)) yzE (yn z_v (T.M 53) (yel T) (T.b 104) (ya z_v yd)) (yn z_v (T.M 53) (yel T) (T.b 104) (ya z_v yd))) (yf (yi yxt)) yp))))) (yc (yu (yI (ymW T) (T.G 24) (T.k 106) (T.b 106) (ya z_v yd))) (yc (yR (yqe (yhx (ydU (ybQ (ydV yW (yfI (K:=ckX _ _) T.isa) (T.Z 4) (ya z_v (ya (yvC (T.Z 6)) yd))))) (yhx (yA (ysw (yms hr)) yzE z_v (yI (yjl T) (T.G 36) (T.k 118) (T.b 118) (ya z_v yd))) (yfQ (yA yAk yDA (yI (yhm T) (T.G 23) (T.k 105) (T.b 105) (ya z_v yd)) yxt))))) (yf (yi yxt)) yp) (yc (yR (yqe (yhx (yA (ysw (yms hr)) yzE (yI (ydk T) (T.G 35) (T.k 117) (T.b 117) (ya z_v yd)) (yI (ydk T) (T.G 35) (T.k 117) (T.b 117) (ya z_v yd))) (yfQ (yA ynf yzd (yI (yeO T) (T.G 34) (T.k 116) (T.b 116) (ya z_v yd)) yl)))) (yf (yi yxt)) yp) (yf (yi (yqd (yfK (yxv (yms hr)) yCY (yI (ymW T) (T.G 24) (T.k 106) (T.b 106) (ya z_v yd)) (ycl (ycB yd))) (yqc (yfK (yxv (yms hr)) yCY (yI (ydk T) (T.G 35) (T.k 117) (T.b 117) (ya z_v yd)) (yI (ydk T) (T.G 35) (T.k 117) (T.b 117) (ya z_v yd)))))))))))))))
def ywJ (K:Frag):Sp:=fun vs H Q _=>∃ (a:Addr) (ns:List Int),vs=[.ref a]/\SqL K H a (ns.map V.int)/\ns.length<=63/\∀ H',Q (.bl true) H'
theorem yEI:∀ vs H Q E,ywJ K vs H Q E->spE ⟨K,A⟩ 1 yvQ vs H Q E:=by rintro _ H Q E ⟨a,ns,rfl,hS,hl,q⟩;obtain ⟨h',e⟩:=yEF (h:=[]) ns hl;exact ⟨⟨H,H,[],[]⟩,[.scr ns],.bl true,h',rfl,⟨Same.refl _,rfl,List.nodup_nil,fun n d a e=>by simp at e⟩,⟨.ref a,[],rfl,⟨a,rfl,hS⟩,rfl⟩,rfl,e,fun v W' _ _ rv=>by rw [show v=_ from rv];exact q _⟩
end
structure FB (K:Frag) (r:FR) (p:Addr×FuncData):Prop where
 F:Fun K r.1 r.2.1 r.2.2.1 p.1 p.2
 b:Binds K p.2 r.ps []
theorem FB.of {n:List Str}(F:Fun K x q s f d) (b:Binds K d (n.take k) []):FB K (fRw x q s k n) (f,d):=⟨F,b⟩
noncomputable def All2 {Y O:Type}(R:Y->O->Prop):List Y->List O->Prop
 | r::rs,p::ps=>R r p/\All2 R rs ps
 | [],[]=>True
 | _,_=>False
theorem All2.get {Y O:Type}{R:Y->O->Prop}{d:Y}{e:O}(h:R d e):∀ {rs:List Y}{ps:List O},All2 R rs ps->∀ n:Nat,R (rs.getD n d) (ps.getD n e)
 | [],[],_,_=>h
 | _::_,_::_,a,0=>a.1
 | _::_,_::_,a,n+1=>All2.get h a.2 n
noncomputable abbrev Ns1 (K:Frag) (x:Str) (f:Addr):Prop:=nsIn K mainGlobals x=some (some (.ref f))
structure TyR (K:Frag) (C:Addr):Prop where
 ha:findIn K (.ref C) "__class__" = some (some (.builtin "object.__class__"))
 hm:mroIn K C (.type "object")=some true
 ty:typeIn K (.ref C)=some (.type "type")
structure NS2 (K:Frag) (c d:Addr):Prop where
 sb:subIn K (.ref c) (.ref d)=some false
 ne:(c == d)=false
def NSx (K:Frag) (pre:List Addr):List Addr->Prop
 | []=>True
 | c::cs=>AllP (NS2 K c) pre/\AllP (NS2 K c) cs/\NSx K (c::pre) cs
theorem NSx.get:∀ {cs pre:List Nat},NSx K (pre.map A) (cs.map A)->∀ i∈cs,∀ j,j∈pre\/j∈cs->i≠j->NS2 K (A i) (A j)
 | c::cs,pre,a,i,hi,j,hj,ne=>by
  rcases mem_cons.mp hi with rfl|hi
  .rcases hj with hj|hj
   .exact a.1.mem _ (List.mem_map_of_mem hj)
   .rcases mem_cons.mp hj with rfl|hj
    .exact absurd rfl ne
    .exact a.2.1.mem _ (List.mem_map_of_mem hj)
  .refine NSx.get (pre:=c::pre) a.2.2 i hi j ?_ ne;rcases hj with hj|hj
   .exact .inl (mem_cons_of_mem _ hj)
   .rcases mem_cons.mp hj with rfl|hj
    .exact .inl mem_cons_self
    .exact .inr hj
theorem yBk (CL:∀ k,Cls K (A k)) (hn:PySem.W.specialIn K (.builtin "object.__class__") "__get__" = some (some (.builtin "getset_descriptor.__get__"))) (htk:PySem.W.takesIn K (.builtin "object.__class__")=some true) (cs:List Nat) (ty:AllP (TyR K) (cs.map A)) (sb:NSx K [] (cs.map A)) :
  ∀ r∈tbO cs,∀ (H:Hp) (a dx:Addr) (fs:List (Str×V)),H a=some (.ins (A r.1) dx fs)->IsI K H (.ref a) (.ref (A r.2.1)) r.2.2:=by
 intro r hr H a dx fs e;unfold tbO at hr;obtain ⟨i,hi,hr⟩:=List.mem_flatMap.mp hr;obtain ⟨j,hj,rfl⟩:=List.mem_map.mp hr;have t:=ty.mem _ (List.mem_map_of_mem hi);have t':=ty.mem _ (List.mem_map_of_mem hj);refine ⟨_,_,.ins e (CL i) t.ha hn htk t.hm,rfl,?_⟩
 by_cases q:i=j
 .subst q;show _=some (i == i);rw [beq_self_eq_true];exact yuz
 .have n:=NSx.get (pre:=[]) sb i hi j (.inr hj) q;show _=some (i == j);rw [beq_eq_false_iff_ne.mpr q];exact yuB n.ne t'.hm t'.ty n.sb
theorem zip_get:∀ {cs:List Str}{as:List Addr},AllP (fun p:Str×Addr=>Ns1 K p.1 p.2) ((c0::cs).zip (C0::as))->cs.length=as.length->∀ n:Nat,Ns1 K ((c0::cs).getD n c0) ((C0::as).getD n C0):=fun {cs as} h hl n=>by
 have h0:=h.1;have:∀ (cs:List Str) (as:List Addr),AllP (fun p:Str×Addr=>Ns1 K p.1 p.2) (cs.zip as)->cs.length=as.length->∀ n:Nat,Ns1 K (cs.getD n c0) (as.getD n C0):=by
  intro cs
  induction cs with
  | nil=>intro as _ e n;cases as with|nil=>exact h0|cons _ _=>cases e
  | cons c cs ih=>intro as h e n;cases as with|nil=>cases e|cons a as=>cases n with|zero=>exact h.1|succ n=>exact ih as h.2 (by simpa using e) n
 exact this _ _ h (by simpa using hl) n
theorem all_mk {l:PySem.W.OpenLaw}{K:Frag}(X:K.In h) (G:h.Ns mainGlobals mg) (hfa:mg "law" = some (.ref fa))
  
  (hC:Ns1 K "Part" C0/\Ns1 K "Let" C1/\Ns1 K "Reckon" C2/\Ns1 K "Take" C3/\Ns1 K "Put" C4/\Ns1 K "If" C5/\Ns1 K "Either" C6/\Ns1 K "Try" C7/\Ns1 K "Throw" C8/\Ns1 K "Wait" C9/\Ns1 K "Reader" C10/\Ns1 K "Log" C11/\Ns1 K "Run" C12/\Ns1 K "Doer" C13/\Ns1 K "Hand" C14/\Ns1 K "Hall" C15/\True)
  (cl:AllP (Cls K) [C0,C1,C2,C3,C4,C5,C6,C7,C8,C9,C10,C11,C12,C13,C14,C15])
  (hK:Mk K C1 f45/\Mk K C2 f46/\Mk K C3 f47/\Mk K C4 f48/\Mk K C5 f49/\Mk K C6 f50/\Mk K C7 f51/\Mk K C8 f52/\Mk K C10 f70/\Mk K C11 f0/\Mk K C12 f28/\Mk K C13 f18/\Mk K C14 f44/\Mk K C15 f90/\True)
  (mk0:makesIn K C0=true)
  (io0:findIn K (.ref C0) "__init__" = some (some (.builtin "object.__init__")))
  (kp0:keepIn K (.ref C0)=true)
  (mk9:makesIn K C9=true)
  (io9:findIn K (.ref C9) "__init__" = some (some (.builtin "object.__init__")))
  (kp9:keepIn K (.ref C9)=true)
  (hM:Meth K C1 "long" f53/\Meth K C2 "long" f54/\Meth K C3 "long" f55/\Meth K C4 "long" f56/\Meth K C5 "long" f60/\Meth K C6 "long" f61/\Meth K C7 "long" f62/\Meth K C8 "long" f57/\Meth K C9 "long" f58/\Meth K C11 "write" f1/\Meth K C11 "own" f2/\Meth K C11 "begin" f3/\Meth K C11 "settle" f4/\Meth K C11 "drop" f5/\Meth K C11 "see" f6/\Meth K C11 "saw" f7/\Meth K C11 "wrote" f8/\Meth K C12 "held_in" f19/\Meth K C12 "hold" f20/\Meth K C12 "box_at" f21/\Meth K C12 "do_put" f23/\Meth K C12 "do_reckon" f22/\Meth K C12 "sees_at" f24/\Meth K C12 "take_own" f25/\Meth K C12 "take_seen" f26/\Meth K C12 "row" f29/\Meth K C12 "is_stale" f30/\Meth K C12 "taker_layer" f31/\Meth K C12 "is_looked_over" f32/\Meth K C12 "see_next" f33/\Meth K C12 "go" f38/\Meth K C12 "go_plain" f34/\Meth K C12 "lead" f35/\Meth K C12 "throw" f37/\Meth K C12 "leave" f36/\Meth K C14 "state" f39/\Meth K C14 "new_run" f40/\Meth K C14 "begin_anew" f41/\Meth K C14 "fall_asleep" f42/\Meth K C14 "go_on" f43/\Meth K C15 "boxes" f91/\Meth K C15 "stamps" f92/\Meth K C15 "hands" f93/\Meth K C15 "hand_at" f94/\Meth K C15 "state" f95/\Meth K C15 "which" f96/\Meth K C15 "slots" f97/\Meth K C15 "saw" f98/\Meth K C15 "journal" f99/\Meth K C15 "wake_stale" f100/\Meth K C15 "end_deed" f101/\Meth K C15 "lay_down" f102/\Meth K C15 "looked_over_told" f103/\Meth K C15 "turn" f104/\Meth K C10 "ahead" f72/\Meth K C10 "taken" f73/\Meth K C10 "pass_over" f74/\Meth K C10 "slot_taken" f75/\Meth K C10 "name_taken" f76/\Meth K C10 "number_taken" f77/\Meth K C10 "list_taken" f80/\Meth K C10 "side_taken" f81/\Meth K C10 "part_taken" f82/\Meth K C10 "if_taken" f83/\Meth K C10 "either_taken" f84/\Meth K C10 "try_taken" f85/\Meth K C10 "plain_taken" f79/\Meth K C10 "reckon_taken" f78/\True)
  (cf13:yvK K C13 "__init__" f18)
  (hG:Ns1 K "reckon" f9/\Ns1 K "is_whole" f10/\Ns1 K "is_number" f11/\Ns1 K "is_made_of" f12/\Ns1 K "number_of" f13/\Ns1 K "is_word" f14/\Ns1 K "is_slot" f15/\Ns1 K "slot_index" f16/\Ns1 K "is_name" f17/\Ns1 K "takes" f27/\Ns1 K "list_long" f59/\Ns1 K "plain_rows" f63/\Ns1 K "first_row" f64/\Ns1 K "rows_between" f65/\Ns1 K "list_rows" f66/\Ns1 K "part_rows" f67/\Ns1 K "sided_rows" f68/\Ns1 K "rows_of" f69/\Ns1 K "words_of" f71/\Ns1 K "read" f86/\Ns1 K "check_boxes" f87/\Ns1 K "rows_of_deeds" f88/\Ns1 K "rows_of_hands" f89/\Ns1 K "is_calm" f105/\Ns1 K "calmed" f106/\Ns1 K "_law_cell_at" f107/\Ns1 K "_law_number" f108/\Ns1 K "_law_sides" f109/\Ns1 K "_law_piece" f110/\Ns1 K "_law_deed" f111/\Ns1 K "_law_boxes" f112/\Ns1 K "_law_hands" f113/\Ns1 K "_law_texts" f114/\Ns1 K "_law_turns" f115/\Ns1 K "_law_awake" f116/\Ns1 K "_law_looked" f117/\Ns1 K "_law_rounds" f118/\Ns1 K "law" f119/\True)
  (hF:All2 (FB K) fT [(f0,d0),(f1,d1),(f2,d2),(f3,d3),(f4,d4),(f5,d5),(f6,d6),(f7,d7),(f8,d8),(f9,d9),(f10,d10),(f11,d11),(f12,d12),(f13,d13),(f14,d14),(f15,d15),(f16,d16),(f17,d17),(f18,d18),(f19,d19),(f20,d20),(f21,d21),(f22,d22),(f23,d23),(f24,d24),(f25,d25),(f26,d26),(f27,d27),(f28,d28),(f29,d29),(f30,d30),(f31,d31),(f32,d32),(f33,d33),(f34,d34),(f35,d35),(f36,d36),(f37,d37),(f38,d38),(f39,d39),(f40,d40),(f41,d41),(f42,d42),(f43,d43),(f44,d44),(f45,d45),(f46,d46),(f47,d47),(f48,d48),(f49,d49),(f50,d50),(f51,d51),(f52,d52),(f53,d53),(f54,d54),(f55,d55),(f56,d56),(f57,d57),(f58,d58),(f59,d59),(f60,d60),(f61,d61),(f62,d62),(f63,d63),(f64,d64),(f65,d65),(f66,d66),(f67,d67),(f68,d68),(f69,d69),(f70,d70),(f71,d71),(f72,d72),(f73,d73),(f74,d74),(f75,d75),(f76,d76),(f77,d77),(f78,d78),(f79,d79),(f80,d80),(f81,d81),(f82,d82),(f83,d83),(f84,d84),(f85,d85),(f86,d86),(f87,d87),(f88,d88),(f89,d89),(f90,d90),(f91,d91),(f92,d92),(f93,d93),(f94,d94),(f95,d95),(f96,d96),(f97,d97),(f98,d98),(f99,d99),(f100,d100),(f101,d101),(f102,d102),(f103,d103),(f104,d104),(f105,d105),(f106,d106),(f107,d107),(f108,d108),(f109,d109),(f110,d110),(f111,d111),(f112,d112),(f113,d113),(f114,d114),(f115,d115),(f116,d116),(f117,d117),(f118,d118),(f119,d119)])
  (hN:(NoAttr K C11 "stack"/\True)/\(NoAttr K C11 "last_seen"/\True)/\(NoAttr K C12 "held"/\True)/\(NoAttr K C12 "width"/\NoAttr K C14 "width"/\True)/\(NoAttr K C12 "log"/\True)/\(NoAttr K C12 "rows"/\True)/\(NoAttr K C10 "at"/\NoAttr K C12 "at"/\True)/\(NoAttr K C12 "seen_stamps"/\True)/\(NoAttr K C12 "sides"/\True)/\(NoAttr K C14 "deeds"/\True)/\(NoAttr K C14 "nth"/\True)/\(NoAttr K C14 "sleeps"/\True)/\(NoAttr K C14 "before"/\True)/\(NoAttr K C14 "run"/\True)/\(NoAttr K C15 "numbers"/\True)/\(NoAttr K C15 "marks"/\True)/\(NoAttr K C15 "crew"/\True)/\(NoAttr K C15 "entries"/\True)/\(NoAttr K C10 "words"/\True)/\(NoAttr K C1 "slot"/\NoAttr K C2 "slot"/\NoAttr K C3 "slot"/\NoAttr K C4 "slot"/\NoAttr K C5 "slot"/\NoAttr K C7 "slot"/\NoAttr K C8 "slot"/\True)/\(NoAttr K C1 "number"/\True)/\(NoAttr K C3 "place"/\NoAttr K C4 "place"/\True)/\(NoAttr K C5 "parts"/\NoAttr K C6 "parts"/\NoAttr K C7 "parts"/\True)/\(NoAttr K C5 "others"/\NoAttr K C6 "others"/\NoAttr K C7 "others"/\True)/\(NoAttr K C7 "name"/\NoAttr K C8 "name"/\True)/\(NoAttr K C2 "word"/\True)/\(NoAttr K C2 "one"/\True)/\(NoAttr K C2 "other"/\True)/\True)
  (ty:AllP (TyR K) [C1,C2,C3,C4,C5,C6,C7,C8,C9])
  (sb:NSx K [] [C1,C2,C3,C4,C5,C6,C7,C8,C9])
  (hn:PySem.W.specialIn K (.builtin "object.__class__") "__get__" = some (some (.builtin "getset_descriptor.__get__")))
  (htk:PySem.W.takesIn K (.builtin "object.__class__")=some true)
  (hZ:AllP (fun b=>nsIn K mainGlobals b=some none) zT)
  (q1:nsIn K mainGlobals "FIGURES" = some (some (.str "0123456789" u1)))
  (q2:nsIn K mainGlobals "LETTERS" = some (some (.str "abcdefghijklmnopqrstuvwxyz" u2)))
  (q3:nsIn K mainGlobals "MOST_AROUND" = some (some (.int 8 u3)))
  (q4:nsIn K mainGlobals "MOST_BOXES" = some (some (.int 16 u4)))
  (q5:nsIn K mainGlobals "MOST_DEEDS" = some (some (.int 6 u5)))
  (q6:nsIn K mainGlobals "MOST_HANDS" = some (some (.int 8 u6)))
  (q7:nsIn K mainGlobals "MOST_ROWS" = some (some (.int 80 u7)))
  (q8:nsIn K mainGlobals "SLOTS" = some (some (.str "abcdefgh" u8)))
  (q9:nsIn K mainGlobals "WIDE" = some (some (.int 18446744073709551616 u9)))
  (q10:nsIn K mainGlobals "WORDS" = some (some (.ref u10)))
  (qk10:K.lookup u10=some ⟨.type "tuple",qd10,.seq #[.str "plus" qt10_0,.str "minus" qt10_1,.str "times" qt10_2,.str "less" qt10_3,.str "same" qt10_4] qn10,qs10⟩) :
  ∃ fd:FuncData,(∀ (s:Shared) (v:Value),BindsTo s fd ⟨[v],[]⟩ [("_law_script",v)])/\∀ base:Heap,K.In base->base.Ns mainGlobals mg->FnOk l.prog w K mg base CX0 98 fa fd ["_law_script"] (ywJ K):=by
 let t:Ads:=⟨fun k=>[C0,C1,C2,C3,C4,C5,C6,C7,C8,C9,C10,C11,C12,C13,C14,C15].getD k C0,fun n=>[(f0,d0),(f1,d1),(f2,d2),(f3,d3),(f4,d4),(f5,d5),(f6,d6),(f7,d7),(f8,d8),(f9,d9),(f10,d10),(f11,d11),(f12,d12),(f13,d13),(f14,d14),(f15,d15),(f16,d16),(f17,d17),(f18,d18),(f19,d19),(f20,d20),(f21,d21),(f22,d22),(f23,d23),(f24,d24),(f25,d25),(f26,d26),(f27,d27),(f28,d28),(f29,d29),(f30,d30),(f31,d31),(f32,d32),(f33,d33),(f34,d34),(f35,d35),(f36,d36),(f37,d37),(f38,d38),(f39,d39),(f40,d40),(f41,d41),(f42,d42),(f43,d43),(f44,d44),(f45,d45),(f46,d46),(f47,d47),(f48,d48),(f49,d49),(f50,d50),(f51,d51),(f52,d52),(f53,d53),(f54,d54),(f55,d55),(f56,d56),(f57,d57),(f58,d58),(f59,d59),(f60,d60),(f61,d61),(f62,d62),(f63,d63),(f64,d64),(f65,d65),(f66,d66),(f67,d67),(f68,d68),(f69,d69),(f70,d70),(f71,d71),(f72,d72),(f73,d73),(f74,d74),(f75,d75),(f76,d76),(f77,d77),(f78,d78),(f79,d79),(f80,d80),(f81,d81),(f82,d82),(f83,d83),(f84,d84),(f85,d85),(f86,d86),(f87,d87),(f88,d88),(f89,d89),(f90,d90),(f91,d91),(f92,d92),(f93,d93),(f94,d94),(f95,d95),(f96,d96),(f97,d97),(f98,d98),(f99,d99),(f100,d100),(f101,d101),(f102,d102),(f103,d103),(f104,d104),(f105,d105),(f106,d106),(f107,d107),(f108,d108),(f109,d109),(f110,d110),(f111,d111),(f112,d112),(f113,d113),(f114,d114),(f115,d115),(f116,d116),(f117,d117),(f118,d118),(f119,d119)].getD n (f0,d0),u1,u2,u3,u4,u5,u6,u7,u8,u9,u10⟩
 have CL:∀ k,Cls K (t.A k):=fun k=>AllP.get cl.1 cl k
 have FF:∀ n,FB K (fR n) (t.fl n):=fun n=>All2.get hF.1 hF n
 have hC:AllP (fun p:Str×Addr=>Ns1 K p.1 p.2) (cT.zip [C0,C1,C2,C3,C4,C5,C6,C7,C8,C9,C10,C11,C12,C13,C14,C15]):=hC;have hG:AllP (fun r:Str×Nat=>Ns1 K r.1 (t.a r.2)) gT:=hG;have hK:AllP (fun r:Nat×Nat=>Mk K (t.A r.1) (t.a r.2)) kT:=hK;have hM:AllP (fun r:Nat×Str×Nat=>Meth K (t.A r.1) r.2.1 (t.a r.2.2)) mT:=hM;have hN:AllP (fun r:Str×List Nat=>AllP (fun k=>NoAttr K (t.A k) r.1) r.2) nT:=hN;have T:Txt K mg t:=⟨fun n=>(FF n).F,fun n=>(FF n).b,fun n=>mg_of X G (AllP.get (p:=fun r:Str×Nat=>Ns1 K r.1 (t.a r.2)) hG.1 hG n),fun n=>mg_of X G (zip_get hC rfl n),fun n=>AllP.get (p:=fun r:Nat×Nat=>Mk K (t.A r.1) (t.a r.2)) hK.1 hK n,fun n=>AllP.get (p:=fun r:Nat×Str×Nat=>Meth K (t.A r.1) r.2.1 (t.a r.2.2)) hM.1 hM n,mk0,io0,kp0,mk9,io9,kp9,cf13,CL,fun n k hk=>⟨CL k,(AllP.get (p:=fun r:Str×List Nat=>AllP (fun k=>NoAttr K (t.A k) r.1) r.2) hN.1 hN n).mem k hk⟩,yBk CL hn htk [1,2,3,4,5,6,7,8,9] ty sb,fun n=>PySem.W.mg_none_of X G (AllP.get (p:=fun b=>nsIn K mainGlobals b=some none) hZ.1 hZ n),mg_of X G q1,mg_of X G q2,mg_of X G q3,mg_of X G q4,mg_of X G q5,mg_of X G q6,mg_of X G q7,mg_of X G q8,mg_of X G q9,mg_of X G q10,⟨_,_,_,qk10,rfl,rfl,(by show 5<=sizeLine;decide),.cons ⟨_,rfl⟩ (.cons ⟨_,rfl⟩ (.cons ⟨_,rfl⟩ (.cons ⟨_,rfl⟩ (.cons ⟨_,rfl⟩ (.nil)))))⟩⟩
 have e:=hfa.symm.trans (T.G 37);have e:fa=f119:=by injection e with e;injection e
 subst e;refine ⟨d119,?_,fun base _ _=>(yEH T).imp (yEI T)⟩;obtain ⟨_,_,_,_,_,_,_,_,_,e,_⟩:=(FF 119).F.ex;have e:d119=_:=e;subst e;exact fun s v=>.of_eq rfl
theorem walk {l:PySem.W.OpenLaw}{q:Program}{loose:List Str}{XP:(Str->Option Value)->Heap->Prop}{YP:World->Heap->Prop}{d:DefRec}{K:Params->Frag}(hn:l.most=some 63) (hdf:d.params.defaults=[])
  (hY:∀ (w:World) (h:Heap),YP w h->(K w.params).In h)
  (F:∀ (w:World) (mg:Str->Option Value) (fa:Addr) (h:Heap),(K w.params).In h->h.Ns mainGlobals mg->mg d.name=some (.ref fa) ->
   ∃ fd:FuncData,(∀ (s:Shared) (u:Value),BindsTo s fd ⟨[u],[]⟩ [("_law_script",u)])/\∀ base:Heap,(K w.params).In base->base.Ns mainGlobals mg->FnOk l.prog w (K w.params) mg base CX0 98 fa fd ["_law_script"] (ywJ (K w.params))) :
  PySem.W.WalkO q loose XP YP l.row.toRowW d [] (fun f vs=>PySem.call f vs) :=
 L2.walk_of (n:=63) (k:=98) (x:="_law_script") (CX:=fun _=>CX0) (sp:=fun w=>ywJ (K w.params)) hn (by decide) hdf ⟨rfl,by decide,by decide⟩ hY F (fun _ _ a ns hl _ hS=>⟨a,ns,rfl,hS,hl,fun _=>rfl⟩) fun _ _ _ _ _ z=>z
end My
local macro_rules | `(tactic| walk_at "ka")=>`(tactic| first|exact True.intro|k_is|decide|((first|refine And.intro ?_ ?_|refine' L2.Cls.mk ?_ ?_ ?_ ?_|refine' My.TyR.mk ?_ ?_ ?_|refine' My.NS2.mk ?_ ?_)<;>walk_at "ka"))
local macro_rules | `(tactic| walk_at "kr")=>`(tactic| first|exact True.intro|(refine And.intro ?_ ?_<;>walk_at "kr")|walk_at "kx")
local macro_rules | `(tactic| walk_at "kx")=>`(tactic| first|(refine' L2.Meth.mk ?a ?b ?c;(case a=>k_is);(case b=>k_is);(case c=>k_is))|(refine' L2.Mk.mk ?a ?b ?c ?d;(case a=>k_is);(case b=>k_is);(case c=>k_is);(case d=>k_is))|(unfold L2.NoAttr;k_is)|(unfold My.Ns1;k_is)|k_is|(dsimp only;k_is))
local macro_rules | `(tactic| walk_at "kf")=>`(tactic| first|exact True.intro|(refine' And.intro (My.FB.of (L2.fun_mk ?a ?b ?c) ?d) ?e;(case a=>k_is);(case b=>k_is);(case c=>k_is);(case d=>first|exact L2.Binds.all (My.ml1 fun _=>rfl)|exact L2.Binds.all (My.ml2 fun _ _=>rfl)|exact L2.Binds.all (My.ml3 fun _ _ _=>rfl)|exact L2.Binds.all (My.ml4 fun _ _ _ _=>rfl)|exact L2.Binds.all (My.ml5 fun _ _ _ _ _=>rfl));(case e=>walk_at "kf")))
local macro_rules | `(tactic| walk_at "k4")=>`(tactic| (refine' ⟨?a,?b,?c,?d⟩;(case a=>k_is);(case b=>k_is);(case c=>k_is);(case d=>k_is)))
open PySem PySem.W PyProof.Rows
set_option maxRecDepth 100000 in
set_option maxHeartbeats 0 in
theorem PySem.Challenge.cw_retryhall_k42_calmed_rounds_holds : PySem.Challenge.rw_retryhall_k42_calmed_rounds.Holds := by
 refine hD_ ?_
 k_fill
 refine My.walk (l:=PySem.Challenge.rw_retryhall_k42_calmed_rounds) rfl rfl (fun w h Y=>PySem.W.kIn_of Y) ?F
 case F =>
  intro w mg fa h KX G hmg
  refine' My.all_mk KX G hmg ?hC ?cl ?hK ?mk0 ?io0 ?kp0 ?mk9 ?io9 ?kp9 ?hM ?cf13 ?hG ?hF ?hN ?ty ?sb ?hn ?htk ?hZ ?q1 ?q2 ?q3 ?q4 ?q5 ?q6 ?q7 ?q8 ?q9 ?q10 ?qk10
  (case hC=>walk_at "kr")
  (case cl=>walk_at "ka")
  (case hK=>walk_at "kr")
  (case mk0|io0|kp0|mk9|io9|kp9=>k_is)
  (case hM=>walk_at "kr")
  (case cf13=>walk_at "k4")
  (case hG=>walk_at "kr")
  (case hF=>walk_at "kf")
  (case hN=>walk_at "kr")
  (case ty|sb=>walk_at "ka")
  (case hn|htk=>k_is)
  (case hZ=>walk_at "kr")
  (case q1|q2|q3|q4|q5|q6|q7|q8|q9|q10|qk10=>k_is)
