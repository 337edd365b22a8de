import PyProof.Rows.All
import Wide.All
import OpenK.KLine
import KE.KIntText
import KE.KIsAll
import KE.KItemsList
import KE.KRevIter
import KE.KSortTup
import KE.LcSums
import KE.KPairComp
import Wide.FinOn
import Lean
import PyProof.EqAt
import PyProof.EqKinds
import PyProof.TupleCall
import KE.KUnpack
import PyProof.SliceList
import PySem.Challenge.RW_retryhall_k29_two_halls
set_option Elab.async false
set_option linter.all false
set_option maxRecDepth 100000
set_option maxHeartbeats 4000000
set_option compiler.extract_closed false
namespace PySem.W.Fast
local macro_rules|`(command|universe $xs*)=>do return Lean.mkNullNode (<-(xs.flatMap fun x=>#[`hD_++x.getId,`PySem.Challenge++x.getId]).append ((Array.range 1434).map fun i=>`hD_++.mkSimple ("o_"++toString i)) |>.mapM fun n=>`(command|theorem $(Lean.mkIdent (.mkSimple ("tw"++toString n.hash))) : True:=True.intro))
universe heap_39 heap_46 heap_1434 tree_47 tree_70 tree_85 tree_100 tree_115 tree_130 tree_216 tree_280 tree_359 tree_368 tree_458 tree_516 tree_551 tree_587 tree_623 tree_659 tree_695 tree_731 tree_767 tree_803 tree_839 tree_889 tree_933 tree_1054 tree_1139 tree_1159 tree_1276 tree_1359 tree_1433 view_39 sts_49 sts_71 sts_86 sts_101 sts_116 sts_131 sts_217 sts_281 sts_360 sts_369 sts_459 sts_517 sts_552 sts_588 sts_624 sts_660 sts_696 sts_732 sts_768 sts_804 sts_840 sts_890 sts_934 sts_1143 sts_1160 sts_1363 env_41 pw_retryhall_k29_two_halls rw_retryhall_k29_two_halls
end PySem.W.Fast
set_option maxHeartbeats 0 in
open_top hD_ for PySem.Challenge.rw_retryhall_k29_two_halls
local macro_rules|`(tactic|omega)=>`(tactic|first|lia|omega (config:={}))
noncomputable section
open PySem.W (fnOf findIn keepIn subIn codeIn nsIn isFn mg_of plainGet hasDictIn makesIn instObj typeIn emptyDict mroIn kia_one Frag)
local macro_rules | `(tactic| rfl')=>`(tactic| decide +kernel)
open List (mem_cons_self mem_cons_of_mem mem_append_left getElem?_set_self getElem?_set_ne mem_append_right length_cons map_cons length_map append_nil of_mem_zip replicate length length_take getElem?_append_right getElem?_replicate getElem?_append_left getElem?_map mem_of_getElem? length_append map_nil length_drop size_toArray length_set any_cons getElem_of_mem map_append lookup_cons prefix_refl getElem?_eq_none length_zip find?_cons zip_cons_cons getD map_map toArray getElem_mem mem_cons not_mem_nil getD_eq_getElem?_getD map_set append_assoc)
open Nat (lt_of_lt_of_le lt_irrefl ne_of_lt le_of_lt le_of_eq zero_le sub_self)
open Option (map_some isSome_map bind_some)
open Bool (and_eq_true)
open PySem.F (plainAttrs_list slot_list_pop type_list_pop)
noncomputable section
namespace L2
open PySem PySem.Spec PyProof.Rows
abbrev Key:=Sum Int Str
noncomputable def ymV:Key->Value->Bool
 | .inl k,v=>Value.isInt k v
 | .inr x,v=>Value.isStrOf x v
noncomputable def yGY (w:World):Key->Int
 | .inl k=>hashInt k
 | .inr x=>hashStr w x
theorem ybz:∀ {k:Key}{v:Value},ymV k v=true->(∃ i t,k=Sum.inl i/\v=Value.int i t)\/∃ x t,k=Sum.inr x/\v=Value.str x t
 | .inl i,v,h=>by obtain ⟨t,e⟩:=Value.isInt_shape h;exact .inl ⟨i,t,rfl,e⟩
 | .inr x,v,h=>by obtain ⟨t,e⟩:=Value.isStrOf_shape h;exact .inr ⟨x,t,rfl,e⟩
theorem yqy i t:ymV (.inl i) (.int i t)=true:=by simp [ymV,Value.isInt]
theorem yqz x t:ymV (.inr x) (.str x t)=true:=by simp [ymV,Value.isStrOf]
theorem yAF a b:decide ((Sum.inl a:Key)=Sum.inl b)=(a == b):=by grind
theorem yAG a b:decide ((Sum.inr a:Key)=Sum.inr b)=decide (a=b):=by simp_all
theorem yAH a b:decide ((Sum.inl a:Key)=Sum.inr b)=false:=decide_eq_false fun q=>nomatch q
theorem yAI a b:decide ((Sum.inr a:Key)=Sum.inl b)=false:=decide_eq_false fun q=>nomatch q
def ydc (prog:Program) (w:World):PySem.KeyKind prog w Key where
 is:=ymV
 hash:=yGY w
 inj:=fun v a b ha hb=>by
  rcases ybz ha with ⟨i,t,rfl,rfl⟩|⟨x,t,rfl,rfl⟩
  .rcases ybz hb with ⟨j,u,rfl,e⟩|⟨y,u,rfl,e⟩
   .injection e with e1 _;rw [e1]
   .exact nomatch e
  .rcases ybz hb with ⟨j,u,rfl,e⟩|⟨y,u,rfl,e⟩
   .exact nomatch e
   .injection e with e1 _;rw [e1]
 byValue:=fun k v h=>by rcases ybz h with ⟨i,t,rfl,rfl⟩|⟨x,t,rfl,rfl⟩<;>rfl
 pyHash:=fun hv h=>by
  rcases ybz hv with ⟨i,t,rfl,rfl⟩|⟨x,t,rfl,rfl⟩
  .exact wpAny_pyHash_int h
  .exact wpAny_pyHash_str h
 eqBool:=fun hu hv h=>by
  rcases ybz hu with ⟨i,t,rfl,rfl⟩|⟨x,t,rfl,rfl⟩
  .rcases ybz hv with ⟨j,u,rfl,rfl⟩|⟨y,u,rfl,rfl⟩
   .rw [yAF] at h;exact wpAny_eqBool_int h
   .rw [yAH] at h;exact SeqAt.EqAt.int_str i t y u _ _ _ _ h
  .rcases ybz hv with ⟨j,u,rfl,rfl⟩|⟨y,u,rfl,rfl⟩
   .rw [yAI] at h;exact SeqAt.EqAt.str_int x t j u _ _ _ _ h
   .rw [yAG] at h;exact wpAny_eqBool_str h
 «strs»:=fun k x t v h=>by
  rcases ybz h with ⟨i,u,rfl,e⟩|⟨y,u,rfl,e⟩
  .exact nomatch e
  .injection e with e1 _
   subst e1;cases v<;>rfl
theorem ymW prog w i t:(ydc prog w).is (.inl i) (.int i t)=true:=yqy i t
theorem ymX prog w x t:(ydc prog w).is (.inr x) (.str x t)=true:=yqz x t
inductive V where
 | non|bl (b:Bool)|int (i:Int)|str (x:Str)|byt (b:Array UInt8)|flt (b:UInt64)|ref (a:Addr)|ty (n:String)
 deriving DecidableEq
noncomputable def RelV:V->Value->Prop
 | .non,u=>u=Value.none
 | .bl b,u=>u=Value.bool b
 | .int i,u=>∃ t,u=Value.int i t
 | .str x,u=>∃ t,u=Value.str x t
 | .byt b,u=>∃ t,u=Value.bytes b t
 | .flt b,u=>∃ t,u=Value.float b t
 | .ref a,u=>u=Value.ref a
 | .ty n,u=>u=Value.type n
abbrev Vals:List V->List Value->Prop:=Paired RelV
theorem Vals.length (r:Vals xs us):xs.length=us.length:=Paired.length r
theorem Vals.get:∀ {xs:List V}{us:List Value}{i:Nat}{x:V},Vals xs us->xs[i]?=some x->∃ u,us[i]?=some u/\RelV x u
 | _,_,_,_,.nil,e=>by simp at e
 | _,_,0,_,.cons r _,e=>by simp at e;subst e;exact ⟨_,rfl,r⟩
 | _,_,i+1,x,.cons _ t,e=>by obtain ⟨u,h1,h2⟩:=Vals.get (i:=i) (x:=x) t (by simpa using e);exact ⟨u,by simpa using h1,h2⟩
theorem Vals.set (r:RelV x u):∀ {xs:List V}{us:List Value}(i:Nat),Vals xs us->Vals (xs.set i x) (us.set i u)
 | _,_,_,.nil=>.nil
 | _,_,0,.cons _ t=>.cons r t
 | _,_,i+1,.cons q t=>.cons q (Vals.set r i t)
theorem Vals.append:∀ {xs ys:List V}{us ws:List Value},Vals xs us->Vals ys ws->Vals (xs++ys) (us++ws)
 | _,_,_,_,.nil,s=>s
 | _,_,_,_,.cons r t,s=>.cons r (Vals.append t s)
theorem Vals.take:∀ {xs:List V}{us:List Value} n,Vals xs us->Vals (xs.take n) (us.take n)
 | _,_,0,_=>.nil
 | _,_,_+1,.nil=>.nil
 | _,_,n+1,.cons r t=>.cons r (Vals.take n t)
theorem Vals.drop:∀ {xs:List V}{us:List Value}(n:Nat),Vals xs us->Vals (xs.drop n) (us.drop n)
 | _,_,0,r=>r
 | _,_,_+1,.nil=>.nil
 | _,_,n+1,.cons _ t=>Vals.drop n t
def RelO:Option V->Option Value->Prop
 | some v,some u=>RelV v u
 | none,none=>True
 | _,_=>False
def KV {O:Type}:List (O×V)->List (O×Value)->Prop:=Paired fun (p:O×V) (q:O×Value)=>p.1=q.1/\RelV p.2 q.2
noncomputable def kV:Key->V
 | .inl i=>.int i
 | .inr x=>.str x
inductive HO where
 | lst (xs:List V)
 | tup (xs:List V)
 | dK (kvs:List (Key×V))|dT (kvs:List (List Key×V))
 | set (S:Int->Bool) (n:Nat)
 | ins (C dx:Addr) (fs:List (Str×V))
 | own (x:Addr)
 | xd (fs:List (Str×V))
 | met (f x:Addr)
 | rng (lo hi:Int)
 | frz (o:Obj) (u:HO)
 | tbl (ps:Array Value)
 | ext (R:Heap->Prop)
abbrev Hp:=Addr->Option HO
noncomputable def upd (H:Hp) (a:Addr) (o:HO):Hp:=fun b=>if b=a then some o else H b
theorem yP:upd H a o a=some o:=by unfold upd;rw [if_pos rfl]
theorem yR (h:b≠a):upd H a o b=H b:=by unfold upd;rw [if_neg h]
theorem yEf {H:Hp}{a b:Addr}{o u:HO}(h:H a=some o) (h':H b=some u) (d:o≠u):a≠b:=by intro e;subst e;rw [h] at h';exact d (Option.some.inj h')
theorem ybJ {H:Hp}{a b:Addr}{o:HO}(h:H a=some o) (h':H b=none):a≠b:=by grind
section
variable (P:Program) (w:World)
def ObjOk (H:Hp) (h:Heap) (a:Addr):HO->Prop
 | .lst xs=>xs.length<=sizeLine/\∃ (its:List Value) (n:Nat),Vals xs its/\h.get? a=some { cls:=.type "list",data:=.seq its.toArray n }
 | .tup xs=>xs.length<=sizeLine/\∃ its:List Value,Vals xs its/\IsTup h a its.toArray
 | .dK kvs=>kvs.length<=sizeLine/\(a == sysModules)=false/\∃ vs,KV kvs vs/\h.DictOf (ydc P w) a vs
 | .dT kvs=>kvs.length<=sizeLine/\(a == sysModules)=false/\∃ xs:List (List Key×Addr×Value),
   Paired (fun (p:List Key×V) (q:List Key×Addr×Value)=>p.1=q.1/\H q.2.1=some (.tup (p.1.map kV))/\RelV p.2 q.2.2) kvs xs /\
   ∃ o es ep,h.get? a=some o/\o.ExactDict/\o.data=.dict es ep/\es.toList=xs.map (entryOfKey (tupleKind (ydc P w)))/\(xs.map (·.1)).Nodup
 | .set S n=>h.SetOf (intKind P w) a S n
 | .ins C dx fs=>H dx=some (.own a)/\fs.length<=1000/\dx≠a/\h.get? a=some (instObj C dx) /\
   ∃ mA,h.Ns1 dx mA/\(∀ f,RelO (fs.lookup f) (mA f))/\PySem.Within mA (fs.map (·.1))
 | .own _=>∃ o,h.get? a=some o
 | .xd fs=>∃ mA,h.Ns1 a mA/\∀ f,RelO (fs.lookup f) (mA f)
 | .rng lo hi=>∃ t u v,h.get? a=some { cls:=.type "range",data:=.fields #[.int lo t,.int hi u,.int 1 v] }
 | .frz o u=>h.get? a=some o/\ObjOk H h a u
 | .tbl ps=>h.get? a=some { cls:=.none,data:=.fields ps }
 | .met f x=>h.get? a=some (PySem.W.methodObj (.ref f) (.ref x))
 | .ext R=>R h/\(∃ o,h.get? a=some o)/\∀ h1 h2:Heap,R h1->(∀ o,h1.get? a=some o->h2.get? a=some o)->R h2
def HOk (H:Hp) (h:Heap):Prop:=∀ a o,H a=some o->ObjOk P w H h a o
end
section
variable {P:Program}{w:World}{H H':Hp}{h h':Heap}{a:Addr}{o:HO}
theorem ObjOk.lt (x:ObjOk P w H h a o):a<h.objs.size:=by
 cases o with
 | lst xs=>obtain ⟨_,_,_,_,e⟩:=x;exact Heap.lt_size e
 | tup xs=>obtain ⟨_,_,_,p⟩:=x;exact p.lt
 | dK kvs=>obtain ⟨_,_,_,_,o,_,_,e,_⟩:=x;exact Heap.lt_size e
 | dT kvs=>obtain ⟨_,_,_,_,o,_,_,e,_⟩:=x;exact Heap.lt_size e
 | set S n=>obtain ⟨o,_,_,_,e,_⟩:=x;exact Heap.lt_size e
 | ins C dx fs=>obtain ⟨_,_,_,e,_⟩:=x;exact Heap.lt_size e
 | own y=>obtain ⟨_,e⟩:=x;exact Heap.lt_size e
 | xd fs=>obtain ⟨_,⟨_,_,_,e,_⟩,_⟩:=x;exact Heap.lt_size e
 | rng lo hi=>obtain ⟨_,_,_,e⟩:=x;exact Heap.lt_size e
 | frz ob u=>obtain ⟨e,_⟩:=x;exact Heap.lt_size e
 | tbl ps=>exact Heap.lt_size (x)
 | met f y=>exact Heap.lt_size (x)
 | ext R=>obtain ⟨_,⟨_,e⟩,_⟩:=x;exact Heap.lt_size e
theorem Paired.mapP {Y d:Type}{F G:Y->d->Prop}:∀ {l₁:List Y}{l₂:List d},Paired F l₁ l₂->(∀ a b,F a b->G a b)->Paired G l₁ l₂
 | _,_,.nil,_=>.nil
 | _,_,.cons r t,f=>.cons (f _ _ r) (Paired.mapP t f)
theorem ObjOk.stay (x:ObjOk P w H h a o) (k:∀ b u,b=a\/H b=some (.own a)->h.get? b=some u->h'.get? b=some u)
  (l:∀ b,H b=some (.own a)->H' b=some (.own a)) (m:∀ b xs,H b=some (.tup xs)->H' b=some (.tup xs)):ObjOk P w H' h' a o:=by
 induction o with
 | lst xs=>obtain ⟨z,its,n,r,e⟩:=x;exact ⟨z,its,n,r,k _ _ (.inl rfl) e⟩
 | tup xs=>obtain ⟨z,its,r,ob,e,c⟩:=x;exact ⟨z,its,r,ob,k _ _ (.inl rfl) e,c⟩
 | dK kvs=>obtain ⟨z,y,vs,r,ob,es,ep,e,c⟩:=x;exact ⟨z,y,vs,r,ob,es,ep,k _ _ (.inl rfl) e,c⟩
 | dT kvs =>
  obtain ⟨z,y,xs,r,ob,es,ep,e,c⟩:=x;exact ⟨z,y,xs,Paired.mapP r fun p q z=>⟨z.1,m _ _ z.2.1,z.2.2⟩,ob,es,ep,k _ _ (.inl rfl) e,c⟩
 | set S n=>obtain ⟨ob,es,ep,t,e,c⟩:=x;exact ⟨ob,es,ep,t,k _ _ (.inl rfl) e,c⟩
 | ins C dx fs =>
  obtain ⟨d,z,j,e,i,⟨od,es,ep,s,c⟩,r⟩:=x;exact ⟨l _ d,z,j,k _ _ (.inl rfl) e,i,⟨od,es,ep,k _ _ (.inr d) s,c⟩,r⟩
 | own y=>obtain ⟨ob,e⟩:=x;exact ⟨ob,k _ _ (.inl rfl) e⟩
 | xd fs=>obtain ⟨i,⟨od,es,ep,e,c⟩,r⟩:=x;exact ⟨i,⟨od,es,ep,k _ _ (.inl rfl) e,c⟩,r⟩
 | rng lo hi=>obtain ⟨t,u,v,e⟩:=x;exact ⟨t,u,v,k _ _ (.inl rfl) e⟩
 | frz ob u ih=>obtain ⟨e,q⟩:=x;exact ⟨k _ _ (.inl rfl) e,ih q⟩
 | tbl ps =>
  have e:=x;exact k a _ (.inl rfl) e
 | met f y =>
  have e:=x;exact k a _ (.inl rfl) e
 | ext R=>obtain ⟨p,⟨o,e⟩,st⟩:=x;exact ⟨st _ _ p fun o q=>k _ _ (.inl rfl) q,⟨o,k _ _ (.inl rfl) e⟩,st⟩
theorem HOk.lt (x:HOk P w H h) (e:H a=some o):a<h.objs.size:=(x a o e).lt
theorem HOk.fresh (x:HOk P w H h) (e:h.objs.size<=a):H a=none:=by
 cases q:H a with
 | none=>rfl
 | some u=>exact absurd (lt_of_lt_of_le (x.lt q) e) (lt_irrefl _)
theorem HOk.kept (x:HOk P w H h) (k:∀ b u,h.get? b=some u->h'.get? b=some u):HOk P w H h':=fun a o e =>
 (x a o e).stay (fun b u _ q=>k b u q) (fun _ q=>q) fun _ _ q=>q
theorem HOk.laid (x:HOk P w H h) (k:∀ b u,h.get? b=some u->h'.get? b=some u) (hp:h.objs.size<=a) (f:ObjOk P w (upd H a o) h' a o):HOk P w (upd H a o) h':=fun b u e=>by
 have g:=x.fresh hp
 by_cases i:b=a
 .subst i;rw [yP] at e;cases e;exact f
 .rw [yR i] at e;exact (x b u e).stay (fun c v _ q=>k c v q) (fun c q=>by rw [yR (ybJ q g)];exact q) fun c xs q=>by rw [yR (ybJ q g)];exact q
end
noncomputable def Rd (H:Hp) (a:Addr) (u:HO):Prop:=H a=some u\/∃ o,H a=some (.frz o u)
theorem Rd.ok (r:Rd H a u) (x:HOk P w H h):ObjOk P w H h a u:=by
 rcases r with r|⟨o,r⟩
 .exact x a u r
 .obtain ⟨_,q⟩:=x a _ r;exact q
noncomputable def Mut:Option HO->Prop
 | some (.lst _)=>True
 | some (.dK _)=>True
 | some (.dT _)=>True
 | some (.set _ _)=>True
 | some (.ins _ _ _)=>True
 | some (.ext _)=>True
 | _=>False
section
variable {P:Program}{w:World}{H:Hp}{h h':Heap}{x e:Addr}{o':HO}
theorem HOk.write (p:HOk P w H h) (g:Mut (H x)) (t:e=x\/H e=some (.own x)) (k:∀ b u,b≠e->h.get? b=some u->h'.get? b=some u) (l:∃ u,h'.get? e=some u)
  (i:ObjOk P w (upd H x o') h' x o'):HOk P w (upd H x o') h':=fun b u q=>by
 have f:∀ c y,H c=some (.own y)->c≠x:=fun c y r z=>by subst z;rw [r] at g;exact g
 have d:∀ c xs,H c=some (.tup xs)->c≠x:=fun c xs r z=>by subst z;rw [r] at g;exact g
 by_cases m:b=x
 .subst m;rw [yP] at q;cases q;exact i
 .rw [yR m] at q
  by_cases j:b=e
  .have n:H b=some (.own x):=by grind
   rw [q] at n;cases n;obtain ⟨v,o⟩:=l;exact ⟨v,by rw [j];exact o⟩
  .refine (p b u q).stay (fun c v s r=>k c v ?_ r) (fun c r=>by rw [yR (f c b r)];exact r) fun c xs r=>by rw [yR (d c xs r)];exact r
   grind
end
structure Un (fs ex:List Addr) (H H':Hp) (h h':Heap):Prop where
 keep:∀ b o,h.get? b=some o->H b=none->b∉fs->b∉ex->h'.get? b=some o
 slot:∀ b o,h.get? b=some o->H b=none->b∈fs->b∉ex->∃ sl,h'.get? b=some { o with slots:=sl }
 free:∀ b o,h.get? b=some o->H b=none->b∉ex->H' b=none
 there:∀ b o,h.get? b=some o->b∉ex->∃ o',h'.get? b=some o'
 tups:∀ b xs,H b=some (.tup xs)->H' b=some (.tup xs)
 frzs:∀ b o u,H b=some (.frz o u)->H' b=some (.frz o u)
 tbls:∀ b ps,H b=some (.tbl ps)->∃ more,H' b=some (.tbl (ps++more))
section
variable {fs fs' ex ex':List Addr}{H H1 H2:Hp}{h h1 h2 h':Heap}{a x e:Addr}{o:HO}
theorem Un.any (u:Un fs ex H H1 h h1) {ob:Obj}(q:h.get? b=some ob) (n:H b=none) (hx:b∉ex):∃ sl,h1.get? b=some { ob with slots:=sl }:=by
 by_cases hb:b∈fs
 .exact u.slot b ob q n hb hx
 .exact ⟨ob.slots,u.keep b ob q n hb hx⟩
theorem Un.kept (k:∀ b u,h.get? b=some u->h'.get? b=some u):Un fs ex H H h h' :=
 ⟨fun b c q _ _ _=>k b c q,fun b c q _ _ _=>⟨c.slots,k b c q⟩,fun _ _ _ n _=>n,fun b c q _=>⟨c,k b c q⟩,fun _ _ q=>q,fun _ _ _ q=>q,fun _ ps q=>⟨#[],by rw [q];simp⟩⟩
theorem Un.refl:Un fs ex H H h h:=Un.kept fun _ _ q=>q
theorem Un.laid (k:∀ b u,h.get? b=some u->h'.get? b=some u) (hp:h.objs.size<=a) (d:H a=none):Un fs ex H (upd H a o) h h' where
 keep:=fun b u q _ _ _=>k b u q
 slot:=fun b u q _ _ _=>⟨u.slots,k b u q⟩
 free:=fun b u q n _=>by rw [yR (ne_of_lt (lt_of_lt_of_le (Heap.lt_size q) hp))];exact n
 there:=fun b u q _=>⟨u,k b u q⟩
 tups:=fun b xs q=>by rw [yR (ybJ q d)];exact q
 frzs:=fun b u xs q=>by rw [yR (ybJ q d)];exact q
 tbls:=fun b ps q=>⟨#[],by rw [yR (ybJ q d),q];simp⟩
theorem Un.write (f:Mut (H x)) (l:e=x\/H e=some (.own x)) (k:∀ b u,b≠e->h.get? b=some u->h'.get? b=some u) (i:∃ u,h'.get? e=some u):Un fs ex H (upd H x o) h h':=by
 have j:∀ b,H b=none->b≠x:=fun b n z=>by subst z;rw [n] at f;exact f
 have g:∀ b,H b=none->b≠e:=fun b n z=>by grind
 have d:∀ b u,H b=some u->¬ Mut (some u)->b≠x:=fun b u q nm z=>by simp_all
 refine ⟨fun b u q n _ _=>k b u (g b n) q,fun b u q n _ _=>⟨u.slots,k b u (g b n) q⟩,fun b u q n _=>by rw [yR (j b n)];exact n,fun b u q _=>?_,
  fun b xs q=>by rw [yR (d b _ q fun z=>z)];exact q,fun b u xs q=>by rw [yR (d b _ q fun z=>z)];exact q,fun b ps q=>⟨#[],by rw [yR (d b _ q fun z=>z),q];simp⟩⟩
 grind
end
noncomputable def trk (h:Heap) (H:Hp):List Addr:=(List.range h.objs.size).filter fun a=>(H a).isSome
def ytM (h:Heap) (H:Hp):Heap:=PySem.W.hideAll h (trk h H)
theorem yqA h H:(ytM h H).objs.size=h.objs.size:=PySem.W.hideAll_size _ _
theorem ytN {h:Heap}(e:h.get? b=some o) (n:H b=none):(ytM h H).get? b=some o :=
 PySem.W.hideAll_get _ e fun c=>by have q:=(List.mem_filter.mp c).2;grind
theorem yxG (e:(ytM h H).get? b=some o):h.get? b=some o/\H b=none:=by
 have c:=PySem.W.of_hideAll _ e;refine ⟨c,?_⟩;cases q:H b with
 | none=>rfl
 | some x =>
  have d:b∈trk h H:=List.mem_filter.mpr ⟨List.mem_range.mpr (Heap.lt_size c),by simp [q]⟩;have z:(ytM h H).get? b=none:=PySem.W.hideAll_none _ d;rw [z] at e;cases e
noncomputable def yxH (g h:Heap) (L:Addr):List (Addr×Obj):=(List.range h.objs.size).filterMap fun a=>if a=L\/(g.get? a).isSome=true then none else (h.get? a).map fun o=>(a,o)
def rest (g h:Heap) (L d:Addr):List (Addr×Obj):=(yxH g h L).filter fun p=>decide (p.1≠d)
structure Mod (K:Frag) (mg:Str->Option Value) (base:Heap):Prop where
 kin:K.In base
 glob:base.Ns mainGlobals mg
 blt:∃ mb,base.Ns builtinsNs mb/\∀ x:Str,x≠"__name__"->mb x=bootBuiltins x
 nolimit:base.NoLimit
structure Cx where
 prog:Program
 w:World
 K:Frag
 mg:Str->Option Value
 base:Heap
 A:Around
 N:List Str
 s₀:Shared
 H₀:Hp
 env:Env
 outer:List Env
 stack:List Env
 ex:List Addr
 fn:Str->Bool
 calm:Bool
 pn:List (Addr×Obj)
 xe:Value->Shared->Prop
noncomputable def frs (l:List Env):List Addr:=l.filterMap (·.frame)
abbrev Cx.fs (X:Cx):List Addr:=frs X.outer
noncomputable def Vis (sc:Scope) (x:Str):Prop:=sc.names.lookup x=some .local \/ sc.names.lookup x=some .cell\/sc.names.lookup x=some .free
noncomputable def Loc (sc:Scope) (x:Str):Prop:=sc.names.lookup x=some .local \/ sc.names.lookup x=some .cell
noncomputable def Look (env:Env) (h:Heap) (m:Str->Option Value) (x:Str) (u:Value):Prop :=
 (env.kindOf x=some .local/\m x=some u)\/((env.kindOf x=some .cell\/env.kindOf x=some .free)/\∃ c,env.cells.lookup x=some c/\h.IsCell c (some u))
structure Cx.Ok (X:Cx):Prop where
 mod:Mod X.K X.mg X.base
 kind:X.env.scope.kind=.function
 glob:X.env.globals=mainGlobals
 blt:X.env.builtins=builtinsNs
 above:X.s₀.heap.objs.size<=X.env.locals
 inj:∀ x y c,X.env.cells.lookup x=some c->X.env.cells.lookup y=some c->x=y
 has:∀ x,(X.env.kindOf x=some .cell\/X.env.kindOf x=some .free)->∃ c,X.env.cells.lookup x=some c
 cab:∀ x c,X.fn x=true->X.env.cells.lookup x=some c->X.s₀.heap.objs.size<=c
 hd:X.calm=true->X.A.handled=none
 frames:X.A.frames=some X.stack
 stk:X.stack=X.outer\/(X.stack=X.env::X.outer/\X.env.frame=some X.env.locals)
 exf:∀ b∈X.ex,b≠X.env.locals/\∀ x c,X.env.cells.lookup x=some c->c≠b
 bs:∀ b o,X.base.get? b=some o->X.s₀.heap.get? b=some o/\X.H₀ b=none
 bsz:X.base.objs.size<=X.s₀.heap.objs.size
 noex:∀ b o,X.base.get? b=some o->b∉X.ex
 exfs:∀ b∈X.ex,b∉X.fs
 funs:X.s₀.heap.FunFrames X.base X.outer
 frf:∀ b∈X.fs,X.H₀ b=none
structure Inv (X:Cx) (pins:List (Addr×Obj)) (Z:List (Option V)) (H:Hp) (s:Shared):Prop where
 ok:X.Ok
 os:s.os=X.s₀.os
 bare:AllBare s.gens
 base:Un X.fs X.ex X.H₀ H X.s₀.heap s.heap
 loc:∃ m,s.heap.Ns X.env.locals m/\∀ (i:Nat) (x:Str) (v:V),X.N[i]?=some x->Z[i]?=some (some v)->Vis X.env.scope x->∃ u,RelV v u/\Look X.env s.heap m x u
 cell:∀ x c,X.env.cells.lookup x=some c->∃ v,s.heap.IsCell c v
 free:H X.env.locals=none
 freeC:∀ x c,X.env.cells.lookup x=some c->H c=none
 pin:∀ p∈X.pn++pins,s.heap.get? p.1=some p.2/\H p.1=none/\p.1≠X.env.locals/\p.1∉X.fs/\∀ v,p.2.data≠.cell v
 hok:HOk X.prog X.w H s.heap
 len:Z.length=X.N.length
section
variable {X:Cx}{pins:List (Addr×Obj)}{K:List (Option V)}{H H':Hp}{s:Shared}{h':Heap}
theorem Cx.Ok.nofr (c:X.Ok) (e:X.base.get? b=some o):b∉X.fs:=fun a=>by have:=(c.funs.mem a).1;simp_all
theorem Inv.bs (I:Inv X pins K H s):∀ b o,X.base.get? b=some o->s.heap.get? b=some o/\H b=none:=fun b o e =>
 ⟨I.base.keep b o (I.ok.bs b o e).1 (I.ok.bs b o e).2 (I.ok.nofr e) (I.ok.noex b o e),I.base.free b o (I.ok.bs b o e).1 (I.ok.bs b o e).2 (I.ok.noex b o e)⟩
theorem Inv.bk (I:Inv X pins K H s):∀ b o,X.base.get? b=some o->s.heap.get? b=some o:=fun b o e=>(I.bs b o e).1
theorem Inv.mod (I:Inv X pins K H s):Mod X.K X.mg X.base:=I.ok.mod
theorem Inv.kIn (I:Inv X pins K H s):X.K.In s.heap:=I.ok.mod.kin.keeps I.bk
theorem Inv.lt (I:Inv X pins K H s):X.env.locals<s.heap.objs.size:=let ⟨_,a,_⟩:=I.loc;a.lt
theorem Inv.sz (I:Inv X pins K H s):X.s₀.heap.objs.size<=s.heap.objs.size:=Nat.le_trans I.ok.above (le_of_lt I.lt)
theorem Inv.nofs (I:Inv X pins K H s) {a:Addr}(h:s.heap.objs.size<=a):a∉X.fs:=fun b=>by obtain ⟨_,o,c,_⟩:=I.ok.funs.mem b;exact absurd (lt_of_lt_of_le (Heap.lt_size c) (Nat.le_trans I.sz h)) (lt_irrefl _)
theorem Inv.cne (I:Inv X pins K H s):∀ x c,X.env.cells.lookup x=some c->c≠X.env.locals:=fun x c e z=>by obtain ⟨v,o,d,g⟩:=I.cell x c e;obtain ⟨m,⟨f,es,ep,a,b,_⟩,_⟩:=I.loc;grind
theorem Inv.funs (I:Inv X pins K H s):s.heap.FunFrames X.base X.outer:=by
 have a:∀ l,(∀ b∈frs l,b∈X.fs)->X.s₀.heap.FunFrames X.base l->s.heap.FunFrames X.base l:=by
  intro l
  induction l with
  | nil=>intro _ _;trivial
  | cons env r ih =>
   intro hs hl;obtain ⟨i,⟨L,o,f,j,h,g⟩,k⟩:=hl;have c:=hs L (by unfold frs;grind);obtain ⟨sl,e⟩:=I.base.slot L o h (I.ok.frf L c) c fun z=>I.ok.exfs L z c
   exact ⟨i,⟨L,_,f,j,e,g⟩,ih (fun b d=>hs b (by unfold frs;rw [List.filterMap_cons,f];exact mem_cons_of_mem _ d)) k⟩
 exact a X.outer (fun _ d=>d) I.ok.funs
theorem Inv.stack (I:Inv X pins K H s):s.heap.FunFrames X.base X.stack:=by
 rcases I.ok.stk with e|⟨e,b⟩
 .rw [e];exact I.funs
 .rw [e];obtain ⟨m,a,_⟩:=I.loc;exact .cons (by rw [I.ok.kind];decide) b a (Heap.get?_none_of_le (Nat.le_trans I.ok.bsz I.ok.above)) I.funs
theorem Inv.stkSub (I:Inv X pins K H s):∀ b∈frs X.stack,b∈X.env.locals::X.fs:=fun b a=>by
 rcases I.ok.stk with e|⟨e,c⟩
 .simp_all
 .rw [e] at a;unfold frs at a;rw [List.filterMap_cons,c] at a;exact a
theorem Inv.stkFree (I:Inv X pins K H s):∀ b∈frs X.stack,H b=none:=fun b a=>by
 rcases mem_cons.mp (I.stkSub b a) with e|a
 .rw [e];exact I.free
 .obtain ⟨_,o,c,_⟩:=I.ok.funs.mem a;exact I.base.free b o c (I.ok.frf b a) fun z=>I.ok.exfs b z a
theorem Inv.step {g':Array GenState}{t':Nat}{d':Drawn}{ch:List Addr}(I:Inv X pins K H s)
  (j:∀ b∈ch,(b∈X.ex\/X.s₀.heap.objs.size<=b)/\b≠X.env.locals/\(∀ x c,X.env.cells.lookup x=some c->c≠b)/\∀ p∈X.pn++pins,p.1≠b)
  (t:∀ b o,b≠X.env.locals->b∉X.fs->b∉ch->s.heap.get? b=some o->H b=none->h'.get? b=some o)
  (y:∀ b o,b≠X.env.locals->b∈X.fs->b∉ch->s.heap.get? b=some o->H b=none->∃ sl,h'.get? b=some { o with slots:=sl }) (f:∀ b o,b∉ch->s.heap.get? b=some o->H b=none->H' b=none)
  (B:∀ b o,b∉ch->s.heap.get? b=some o->∃ J,h'.get? b=some J)
  (D:∀ b xs,H b=some (.tup xs)->H' b=some (.tup xs)) (E:∀ b o u,H b=some (.frz o u)->H' b=some (.frz o u)) (Q:∀ b ps,H b=some (.tbl ps)->∃ L,H' b=some (.tbl (ps++L)))
  (ns:∀ m,s.heap.Ns X.env.locals m->h'.Ns X.env.locals m) (M:HOk X.prog X.w H' h') (S:AllBare g') :
  Inv X pins K H' { s with heap:=h',gens:=g',drawn:=d',toks:=t' }:=by
 have G:∀ b o,X.s₀.heap.get? b=some o->b≠X.env.locals:=fun b o e=>ne_of_lt (lt_of_lt_of_le (Heap.lt_size e) I.ok.above)
 have h:∀ b o,X.s₀.heap.get? b=some o->b∉X.ex->b∉ch:=fun b o e a A=>by
  rcases (j b A).1 with z|z
  .exact a z
  .exact absurd (lt_of_lt_of_le (Heap.lt_size e) z) (lt_irrefl _)
 have g:∀ x c,X.env.cells.lookup x=some c->∀ v,s.heap.IsCell c v->h'.IsCell c v:=fun x c e v ⟨o,C,P⟩=>by
  have F:c∉ch:=fun z=>(j c z).2.2.1 x c e rfl
  by_cases R:c∈X.fs
  .obtain ⟨sl,q⟩:=y c o (I.cne x c e) R F C (I.freeC x c e);exact ⟨_,q,P⟩
  .exact ⟨o,t c o (I.cne x c e) R F C (I.freeC x c e),P⟩
 refine ⟨I.ok,I.os,S,⟨fun b o e n A a=>?_,fun b o e n A a=>?_,fun b o e n a=>?_,fun b o e a=>?_,fun b xs e=>D b xs (I.base.tups b xs e),fun b o xs e=>E b o xs (I.base.frzs b o xs e),fun b ps e=>?_⟩,?_,fun x c e=>?_,?_,fun x c e=>?_,fun p hp=>?_,M,I.len⟩
 .exact t b o (G b o e) A (h b o e a) (I.base.keep b o e n A a) (I.base.free b o e n a)
 .obtain ⟨sl,w⟩:=I.base.slot b o e n A a;obtain ⟨O,N⟩:=y b _ (G b o e) A (h b o e a) w (I.base.free b o e n a);exact ⟨O,N⟩
 .obtain ⟨J,w⟩:=I.base.there b o e a;exact f b J (h b o e a) w (I.base.free b o e n a)
 .obtain ⟨J,w⟩:=I.base.there b o e a;exact B b J (h b o e a) w
 .obtain ⟨Y,w⟩:=I.base.tbls b ps e;grind
 .obtain ⟨m,U,hl⟩:=I.loc;refine ⟨m,ns m U,fun i x v w N T=>?_⟩;obtain ⟨u,r,l⟩:=hl i x v w N T;refine ⟨u,r,?_⟩;rcases l with l|⟨k,c,e,z⟩
  .exact .inl l
  .exact .inr ⟨k,c,e,g x c e _ z⟩
 .obtain ⟨v,z⟩:=I.cell x c e;exact ⟨v,g x c e v z⟩
 .obtain ⟨m,⟨o,_,_,C,_⟩,_⟩:=I.loc;exact f _ o (fun z=>(j _ z).2.1 rfl) C I.free
 .obtain ⟨v,o,C,P⟩:=I.cell x c e;exact f c o (fun z=>(j c z).2.2.1 x c e rfl) C (I.freeC x c e)
 .obtain ⟨e,n,W,Z,d⟩:=I.pin p hp;grind
theorem Inv.un (I:Inv X pins K H s) (u:Un X.fs [] H H' s.heap h') (f:HOk X.prog X.w H' h'):Inv X pins K H' { s with heap:=h',toks:=t' }:=by obtain ⟨m,⟨o,es,ep,h,r⟩,_⟩:=id I.loc;obtain ⟨sl,k⟩:=u.any h I.free (by simp);exact I.step (ch:=[]) (fun _ z=>nomatch z) (fun b o _ g _ e n=>u.keep b o e n g (by simp)) (fun b o _ g _ e n=>u.slot b o e n g (by simp)) (fun b o _ e n=>u.free b o e n (by simp)) (fun b o _ e=>u.there b o e (by simp)) u.tups u.frzs u.tbls (fun m' j=>by obtain ⟨l,c,d,a,i⟩:=j;rw [h] at a;cases a;exact ⟨_,c,d,k,i⟩) f I.bare
theorem Inv.call (I:Inv X pins K H s) (u:Un (frs X.stack) ch H H' s.heap h') (i:HOk X.prog X.w H' h') (v:AllBare g')
  (f:∀ b∈ch,(b∈X.ex\/X.s₀.heap.objs.size<=b)/\b≠X.env.locals/\(∀ x c,X.env.cells.lookup x=some c->c≠b)/\∀ p∈X.pn++pins,p.1≠b) :
  Inv X pins K H' { s with heap:=h',gens:=g',drawn:=d',toks:=t' }:=by
 obtain ⟨m,⟨o,es,ep,k,r⟩,_⟩:=id I.loc;obtain ⟨sl,j⟩:=u.any k I.free fun z=>(f _ z).2.1 rfl
 exact I.step f (fun b o j l a e n=>u.keep b o e n (fun z=>(mem_cons.mp (I.stkSub b z)).elim j l) a) (fun b o _ _ a e n=>u.any e n a) (fun b o a e n=>u.free b o e n a) (fun b o a e=>u.there b o e a) u.tups u.frzs u.tbls (fun m' q=>by obtain ⟨w,g,h,d,t⟩:=q;rw [k] at d;cases d;exact ⟨_,g,h,j,t⟩) i v
theorem Inv.turned (I:Inv X pins K H s) (k:∀ b o,b≠a->s.heap.get? b=some o->h'.get? b=some o) (j:H a=none) (f:a≠X.env.locals)
  (h1:a∈X.ex\/X.s₀.heap.objs.size<=a) (h2:∀ x c,X.env.cells.lookup x=some c->c≠a) (l:∀ p∈X.pn++pins,p.1≠a):Inv X pins K H { s with heap:=h',toks:=t' }:=by
 have i:∀ b u,H b=some u->b≠a:=fun b u e z=>by grind
 refine I.step (ch:=[a]) (fun b t=>?_) (fun b o _ _ d e _=>k b o (fun z=>d (by simp [z])) e) (fun b o _ _ d e _=>⟨o.slots,k b o (fun z=>d (by simp [z])) e⟩) (fun _ _ _ _ n=>n)
  (fun b o d e=>⟨o,k b o (fun z=>d (by simp [z])) e⟩) (fun _ _ e=>e) (fun _ _ _ e=>e) (fun b ps e=>⟨#[],by rw [e];simp⟩) (fun m h=>?_) (fun b u e=>?_) I.bare
 .grind
 .obtain ⟨o,es,ep,g,r⟩:=h;exact ⟨o,es,ep,k _ o (Ne.symm f) g,r⟩
 .refine (I.hok b u e).stay (fun c v d q=>k c v ?_ q) (fun _ q=>q) fun _ _ q=>q
  grind
theorem Inv.tok (I:Inv X pins K H s) t:Inv X pins K H { s with toks:=t }:=I.un Un.refl I.hok
theorem Inv.kept (I:Inv X pins K H s) (k:∀ b u,s.heap.get? b=some u->h'.get? b=some u):Inv X pins K H { s with heap:=h',toks:=t' }:=I.un (Un.kept k) (I.hok.kept k)
theorem Inv.laid {a:Addr}{o:HO}{t':Nat}(I:Inv X pins K H s) (k:∀ b u,s.heap.get? b=some u->h'.get? b=some u) (hp:s.heap.objs.size<=a) (c:ObjOk X.prog X.w (upd H a o) h' a o) :
  Inv X pins K (upd H a o) { s with heap:=h',toks:=t' }:=I.un (Un.laid k hp (I.hok.fresh hp)) (I.hok.laid k hp c)
theorem Inv.write (I:Inv X pins K H s) (d:Mut (H x)) (f:e=x\/H e=some (.own x)) (k:∀ b u,b≠e->s.heap.get? b=some u->h'.get? b=some u) (a:∃ u,h'.get? e=some u)
  (c:ObjOk X.prog X.w (upd H x o) h' x o):Inv X pins K (upd H x o) { s with heap:=h',toks:=t' }:=I.un (Un.write d f k a) (I.hok.write d f k a c)
theorem Inv.pins_of (I:Inv X pins K H s) (h:∀ p∈a,s.heap.get? p.1=some p.2/\H p.1=none/\p.1≠X.env.locals/\p.1∉X.fs/\∀ v,p.2.data≠.cell v):Inv X a K H s :=
 ⟨I.ok,I.os,I.bare,I.base,I.loc,I.cell,I.free,I.freeC,fun p hp=>(List.mem_append.mp hp).elim (fun z=>I.pin p (mem_append_left _ z)) (h p),I.hok,I.len⟩
theorem yoq {N:List Str}(d:N.Nodup) {i j:Nat}{x:Str}(a:N[i]?=some x) (b:N[j]?=some x):i=j:=by obtain ⟨h1,e⟩:=List.getElem?_eq_some_iff.mp a;obtain ⟨h2,c⟩:=List.getElem?_eq_some_iff.mp b;exact (List.getElem_inj d).mp (e.trans c.symm)
theorem yqB {Q:Unit->Shared->Prop}(I:Inv X pins K H s) (hN:X.N.Nodup) (S:X.N[i]?=some x) (t:Loc X.env.scope x) (r:RelV v u)
  (h:∀ s',Inv X pins (K.set i (some v)) H s'->(∃ a,Heap.SameBut a s.heap s'.heap/\(a=X.env.locals\/X.env.cells.lookup x=some a))->Q () s') (hf:X.fn x=true\/X.env.scope.names.lookup x=some .local:=by first|exact .inl rfl|exact .inr rfl|assumption):wpAny M A (storeName X.env x u) Q E s:=by
 obtain ⟨m,hn,hl⟩:=id I.loc;have P:(X.env.scope.kind == .class || (X.env.scope.kind == .module && X.env.locals != X.env.globals))=false:=by rw [I.ok.kind];rfl
 have D:i<K.length:=by rw [I.len];exact (List.getElem?_eq_some_iff.mp S).1
 have L:=I.cne;have g:∀ {a:Addr}{h':Heap},(∃ o,s.heap.get? a=some o/\H a=none)->Heap.SameBut a s.heap h'->HOk X.prog X.w H h':=fun {a h'} ha hs b ob e=>by
  obtain ⟨_,_,w⟩:=ha;refine (I.hok b ob e).stay (fun c W l q=>(hs.2 c ?_).trans q) (fun _ q=>q) fun _ _ q=>q
  rintro rfl;rcases l with rfl|l
  .rw [w] at e;cases e
  .rw [w] at l;cases l
 rcases t with C|C
 .refine wpAny_storeName_local C hn (fun h' hn' hs=>?_) P;obtain ⟨oL,_,_,Z,_⟩:=id hn;refine h _ ⟨I.ok,I.os,I.bare,⟨fun b o e n G t=>?_,fun b o e n G t=>?_,I.base.free,fun b o e t=>?_,I.base.tups,I.base.frzs,I.base.tbls⟩,⟨_,hn',fun j y v' f B e3=>?_⟩,fun y c e=>?_,I.free,I.freeC,fun p hp=>?_,g ⟨oL,Z,I.free⟩ hs,by simpa using I.len⟩ ⟨_,hs,.inl rfl⟩
  .exact (hs.2 b (ne_of_lt (lt_of_lt_of_le (Heap.lt_size e) I.ok.above))).trans (I.base.keep b o e n G t)
  .obtain ⟨sl,f⟩:=I.base.slot b o e n G t;exact ⟨sl,(hs.2 b (ne_of_lt (lt_of_lt_of_le (Heap.lt_size e) I.ok.above))).trans f⟩
  .obtain ⟨o',f⟩:=I.base.there b o e t;exact ⟨o',(hs.2 b (ne_of_lt (lt_of_lt_of_le (Heap.lt_size e) I.ok.above))).trans f⟩
  .by_cases F:j=i
   .subst F;rw [S] at f;cases f;rw [getElem?_set_self D] at B;cases B;exact ⟨u,r,.inl ⟨C,by simp⟩⟩
   .rw [getElem?_set_ne (Ne.symm F)] at B;obtain ⟨Y,r',q⟩:=hl j y v' f B e3;refine ⟨Y,r',?_⟩;rcases q with ⟨k,e⟩|⟨k,c,e,z⟩
    .refine .inl ⟨k,?_⟩;have:y≠x:=fun e=>F (yoq hN f (e ▸ S))
     simp [this,e]
    .exact .inr ⟨k,c,e,z.sameBut hs (L y c e)⟩
  .obtain ⟨W,z⟩:=I.cell y c e;exact ⟨W,z.sameBut hs (L y c e)⟩
  .obtain ⟨e,n,U,nf,d⟩:=I.pin p hp;exact ⟨(hs.2 p.1 U).trans e,n,U,nf,d⟩
 .have J:X.fn x=true:=by
   rcases hf with z|z
   .exact z
   .rw [z] at C;cases C
  obtain ⟨c,l⟩:=I.ok.has x (.inl C);obtain ⟨W,z⟩:=I.cell x c l;refine wpAny_storeName_cell I.ok.kind C l z (fun h' N hs=>?_);obtain ⟨oc,R,O⟩:=id z;refine h { s with heap:=h' } ⟨I.ok,I.os,I.bare,⟨fun b o e n G t=>?_,fun b o e n G t=>?_,I.base.free,fun b o e t=>?_,I.base.tups,I.base.frzs,I.base.tbls⟩,⟨m,hn.sameBut hs (Ne.symm (L x c l)),fun j y v' f B e3=>?_⟩,fun y c' e=>?_,I.free,I.freeC,fun p hp=>?_,g ⟨oc,R,I.freeC x c l⟩ hs,by simpa using I.len⟩ ⟨c,hs,.inr l⟩
  .exact (hs.2 b (ne_of_lt (lt_of_lt_of_le (Heap.lt_size e) (I.ok.cab x c J l)))).trans (I.base.keep b o e n G t)
  .obtain ⟨sl,f⟩:=I.base.slot b o e n G t;exact ⟨sl,(hs.2 b (ne_of_lt (lt_of_lt_of_le (Heap.lt_size e) (I.ok.cab x c J l)))).trans f⟩
  .obtain ⟨o',f⟩:=I.base.there b o e t;exact ⟨o',(hs.2 b (ne_of_lt (lt_of_lt_of_le (Heap.lt_size e) (I.ok.cab x c J l)))).trans f⟩
  .by_cases F:j=i
   .subst F;rw [S] at f;cases f;rw [getElem?_set_self D] at B;cases B;exact ⟨u,r,.inr ⟨.inl C,c,l,N⟩⟩
   .rw [getElem?_set_ne (Ne.symm F)] at B;obtain ⟨Y,r',q⟩:=hl j y v' f B e3;refine ⟨Y,r',?_⟩;rcases q with q|⟨k,c',e,z'⟩
    .exact .inl q
    .refine .inr ⟨k,c',e,z'.sameBut hs ?_⟩;rintro rfl;exact F (yoq hN f (I.ok.inj _ _ _ e l ▸ S))
  .by_cases T:c'=c
   .subst T;exact ⟨_,N⟩
   .obtain ⟨w2,z2⟩:=I.cell y c' e;exact ⟨w2,z2.sameBut hs T⟩
  .obtain ⟨e,n,U,nf,d⟩:=I.pin p hp;refine ⟨(hs.2 p.1 ?_).trans e,n,U,nf,d⟩;intro q;rw [q,R] at e;have q':oc=p.2:=Option.some.inj e;exact d W (by rw [<- q'];exact O)
theorem yor {Q:Unit->Shared->Prop}(I:Inv X pins K H s) (b:X.N.Nodup) (a:X.N[i]?=some x) (d:Loc X.env.scope x) (r:RelV v u)
  (h:∀ s',Inv X pins (K.set i (some v)) H s'->Q () s') (e:X.fn x=true\/X.env.scope.names.lookup x=some .local:=by first|exact .inl rfl|exact .inr rfl|assumption):wpAny M A (storeName X.env x u) Q E s :=
 yqB I b a d r (fun s' c _=>h s' c) e
theorem Inv.call' {s':Shared}(I:Inv X pins K H s) (g:s'.os=s.os) (u:Un (frs X.stack) ch H H' s.heap s'.heap) (a:HOk X.prog X.w H' s'.heap) (f:AllBare s'.gens)
  (d:∀ b∈ch,(b∈X.ex\/X.s₀.heap.objs.size<=b)/\b≠X.env.locals/\(∀ x c,X.env.cells.lookup x=some c->c≠b)/\∀ p∈X.pn++pins,p.1≠b):Inv X pins K H' s':=by
 obtain ⟨h',g',d',t',h⟩:=s';have e:=g;subst e;exact I.call u a f d
end
noncomputable abbrev XK:=Value->Option Addr->Hp->Prop
abbrev St:=List (Option V)
abbrev VK:=V->Hp->Prop
abbrev TE:=St->Hp->VK->Prop
noncomputable abbrev TT:=St->Hp->(Bool->Hp->Prop)->Prop
noncomputable abbrev TA:=St->Hp->(List V->Hp->Prop)->Prop
structure Ends where
 nx:St->Hp->Prop
 rt:VK
 bk:St->Hp->Prop:=fun _ _=>False
 ct:St->Hp->Prop:=fun _ _=>False
abbrev TS:=Ends->St->Hp->Prop
def EP (X:Cx) (pins:List (Addr×Obj)) (Z:St) (Q:VK) (u:Value) (s':Shared):Prop:=∃ v H',Inv X pins Z H' s'/\RelV v u/\Q v H'
noncomputable def TP (X:Cx) (pins:List (Addr×Obj)) (Z:St) (Q:Bool->Hp->Prop) (b:Bool) (s':Shared):Prop:=∃ H',Inv X pins Z H' s'/\Q b H'
def AP (X:Cx) (pins:List (Addr×Obj)) (Z:St) (Q:List V->Hp->Prop) (us:List Value) (s':Shared):Prop:=∃ vs H',Inv X pins Z H' s'/\Vals vs us/\Q vs H'
def SP (X:Cx) (pins:List (Addr×Obj)) (D:Ends) (f:Flow) (s':Shared):Prop :=
 match f with
 | .next=>∃ Z' H',Inv X pins Z' H' s'/\D.nx Z' H'
 | .brk=>∃ Z' H',Inv X pins Z' H' s'/\D.bk Z' H'
 | .cont=>∃ Z' H',Inv X pins Z' H' s'/\D.ct Z' H'
 | .ret u=>∃ v Z' H',Inv X pins Z' H' s'/\RelV v u/\D.rt v H'
def PE (X:Cx) (e:Expr) (t:TE):Prop :=
 ∀ (pins:List (Addr×Obj)) (s:Shared) (Z:St) (H:Hp) (Q:VK),Inv X pins Z H s->t Z H Q->wpAny (model X.prog X.w) X.A (eval e X.env) (EP X pins Z Q) X.xe s
def PT (X:Cx) (e:Expr) (t:TT):Prop :=
 ∀ (pins:List (Addr×Obj)) (s:Shared) (Z:St) (H:Hp) (Q:Bool->Hp->Prop),Inv X pins Z H s->t Z H Q->wpAny (model X.prog X.w) X.A (isTrue e X.env (eval e X.env)) (TP X pins Z Q) X.xe s
def PW (X:Cx) (e:Expr) (t:TT):Prop :=
 ∀ (whole:Sem Value) (pins:List (Addr×Obj)) (s:Shared) (Z:St) (H:Hp) (Q:Bool->Hp->Prop),Inv X pins Z H s->t Z H Q->wpAny (model X.prog X.w) X.A (isTrue e X.env whole) (TP X pins Z Q) X.xe s
theorem PW.pt (h:PW X e t):PT X e t:=h _
def PA (X:Cx) (es:List Expr) (t:TA):Prop :=
 ∀ (pos:Pos) (pins:List (Addr×Obj)) (s:Shared) (Z:St) (H:Hp) (Q:List V->Hp->Prop),Inv X pins Z H s->t Z H Q->wpAny (model X.prog X.w) X.A (spliced (backTo pos (starEach es X.env))) (AP X pins Z Q) X.xe s
def PS (X:Cx) (st:Stmt) (t:TS):Prop :=
 ∀ (pins:List (Addr×Obj)) (s:Shared) (Z:St) (H:Hp) (D:Ends),Inv X pins Z H s->t D Z H->wpAny (model X.prog X.w) X.A (exec st X.env) (SP X pins D) X.xe s
def PSs (X:Cx) (st:List Stmt) (t:TS):Prop :=
 ∀ (pins:List (Addr×Obj)) (s:Shared) (Z:St) (H:Hp) (D:Ends),Inv X pins Z H s->t D Z H->wpAny (model X.prog X.w) X.A (execs st X.env) (SP X pins D) X.xe s
theorem thn {Y:Type}{t:Sem Y}{Q b:Y->Shared->Prop}{M:Model}{A:Around}{E:Value->Shared->Prop}{s:Shared}(h:wpAny M A t Q E s) (c:∀ a s,Q a s->b a s):wpAny M A t b E s:=wpAny_mono h c fun _ _ x=>x
section
variable {X:Cx}
noncomputable def yqs (i:Nat):TE:=fun Z H Q=>∃ v,Z[i]?=some (some v)/\Q v H
noncomputable def tC (v:V):TE:=fun _ H Q=>Q v H
theorem yjx {i:Nat}{x:Str}{pos:Pos}(t:X.N[i]?=some x) (q:Vis X.env.scope x) (k:(x == "__debug__")=false:=by decide) (j:(x == "__classdict__")=false:=by decide):PE X (.Name x pos) (yqs i):=by
 intro g s Z H Q I h;obtain ⟨v,e,h⟩:=h;obtain ⟨m,p,hl⟩:=I.loc;obtain ⟨u,r,l⟩:=hl i x v t e q;have f:EP X g Z Q u s:=⟨v,H,I,r,h⟩
 rcases l with ⟨d,o⟩|⟨d,c,n,b⟩
 .exact wpAny_Name (wpAny_loadName_local I.ok.kind d p o f) k
 .rcases d with d|d
  .exact wpAny_Name (wpAny_loadName_cell I.ok.kind d n b f) k
  .exact wpAny_Name (wpAny_loadName_free I.ok.kind d n b f j) k
theorem yAJ {i j pos}:PE X (.Constant (.int i) j pos) (tC (.int i)):=fun _ _ _ H _ I h=>wpAny_Constant_int ⟨.int i,H,I.tok _,⟨_,rfl⟩,h⟩
theorem yEg {b j pos}:PE X (.Constant (.bool b) j pos) (tC (.bl b)):=fun _ _ _ H _ I h=>Constant_bool ⟨.bl b,H,I,rfl,h⟩
theorem yAK {j pos}:PE X (.Constant .none j pos) (tC .non):=fun _ _ _ H _ I h=>Constant_none ⟨.non,H,I,rfl,h⟩
theorem yAL {x j pos}:PE X (.Constant (.str x) j pos) (tC (.str x)):=fun _ _ _ H _ I h=>Calls.Constant_str ⟨.str x,H,I.tok _,⟨_,rfl⟩,h⟩
noncomputable def Gl (X:Cx) (x:Str):Prop:=X.env.kindOf x=some .globalImplicit
theorem yhV {E:Value->Shared->Prop}{b:List _}{s:Shared}{Z:St}{H:Hp}{x:Str}{u:Value}{pos:Pos}{Q:Value->Shared->Prop}(I:Inv X b Z H s) (d:Gl X x) (c:X.mg x=some u) (h:Q u s)
  (e:(x == "__debug__")=false:=by decide):wpAny (model X.prog X.w) X.A (eval (.Name x pos) X.env) Q E s :=
 Calls.Name_function_global I.ok.kind d (Calls.loadGlobal_global (by rw [I.ok.glob];exact I.mod.glob.keeps I.bk) c h) e
theorem ylm {E:Value->Shared->Prop}{b:List _}{s:Shared}{Z:St}{H:Hp}{x:Str}{u:Value}{pos:Pos}{Q:Value->Shared->Prop}(I:Inv X b Z H s) (e:Gl X x) (f:X.mg x=none) (d:bootBuiltins x=some u) (h:Q u s)
  (c:x≠"__name__":=by decide) (g:(x == "__debug__")=false:=by decide):wpAny (model X.prog X.w) X.A (eval (.Name x pos) X.env) Q E s:=by
 obtain ⟨i,h1,h2⟩:=I.mod.blt;exact Calls.Name_function_global I.ok.kind e (Calls.loadGlobal_builtin (by rw [I.ok.glob];exact I.mod.glob.keeps I.bk) f (by rw [I.ok.blt];exact h1.keeps I.bk) ((h2 x c).trans d) h) g
theorem ymY (b:Gl X x) (d:X.mg x=some u) (r:RelV v u) (c:(x == "__debug__")=false:=by decide):PE X (.Name x pos) (tC v) :=
 fun _ _ _ H _ I h=>yhV I b d ⟨v,H,I,r,h⟩ c
theorem yxI {x:Str}{v:V}{u:Value}{pos:Pos}(b:Gl X x) (e:X.mg x=none) (c:bootBuiltins x=some u) (r:RelV v u) (d:x≠"__name__":=by decide) (f:(x == "__debug__")=false:=by decide):PE X (.Name x pos) (tC v) :=
 fun _ _ _ H _ I h=>ylm I b e c ⟨v,H,I,r,h⟩ d f
variable {a b:Expr}{ta tb:TE}{pos:Pos}
def PC (X:Cx) (op:CmpOp) (a b:Expr) (t:TE):Prop :=
 ∀ (pins:List (Addr×Obj)) (s:Shared) (Z:St) (H:Hp) (Q:VK),Inv X pins Z H s->t Z H Q ->
  wpAny (model X.prog X.w) X.A (eval a X.env) (fun v s₁=>wpAny (model X.prog X.w) X.A (eval b X.env) (fun u s₂=>wpAny (model X.prog X.w) X.A (compareOp op v u) (EP X pins Z Q) X.xe s₂) X.xe s₁) X.xe s
theorem ytO (b:Expr) (h:op≠.In) (h2:op≠.NotIn):behindInMarks op b=false:=by
 have e1:(op == CmpOp.In)=false:=by cases op<;>first|rfl|exact absurd rfl h
 have e2:(op == CmpOp.NotIn)=false:=by cases op<;>first|rfl|exact absurd rfl h2
 cases b<;>simp [behindInMarks,e1,e2]
def tB (t:TE):TT:=fun Z H Q=>t Z H fun x H1=>∃ c,x=.bl c/\Q c H1
theorem yAM (h:PC X op a b t) (h1:behindInMarks op b=false:=by first|exact ytO _ (by decide) (by decide)|rfl):PT X (.Compare a [op] [b] pos) (tB t):=by intro e s Z H Q I j;refine wpAny_isTrue_Compare1 (thn (h e s Z H _ I j) fun v s1 h1=>thn h1 fun u s2 h2=>thn h2 fun c s3 ⟨x,i,k,f,g⟩=>?_) h1;obtain ⟨d,rfl,q⟩:=g;cases f;exact wpAny_truthy_bool ⟨i,k,q⟩
theorem yAN (h:PE X e t) (n:∀ f,isTrue e X.env f=(do let v <- f;standAt e.pos;holding [v] (truthy v)):=by intro _;rfl):PT X e (tB t):=by intro g s Z H Q I l;refine isTrue_plain (thn (h g s Z H _ I l) fun v s1 ⟨x,k,m,i,j⟩=>?_) (n _);obtain ⟨d,rfl,q⟩:=j;cases i;exact wpAny_truthy_bool ⟨k,m,q⟩
variable {tA tB':TT}{rest:List Expr}
noncomputable def yGh (t u:TT):TT:=fun Z H Q=>t Z H fun c H1=>if c=true then u Z H1 Q else Q false H1
noncomputable def tOr (t u:TT):TT:=fun Z H Q=>t Z H fun c H1=>if c=true then Q true H1 else u Z H1 Q
def yEh (t:TT):TT:=fun Z H Q=>t Z H fun c H1=>Q (!c) H1
theorem yxJ (g:PT X a tA):PW X (.BoolOp .And [a] pos) tA:=by
 intro wh f s Z H Q I h;refine isTrue_and (thn (g f s Z H Q I h) fun c s1 e=>?_);cases c with
 | true=>exact isTrue_and_nil e
 | false=>exact e
theorem yAO (g:PT X a tA):PW X (.BoolOp .Or [a] pos) tA:=by
 intro wh f s Z H Q I h;refine isTrue_or (thn (g f s Z H Q I h) fun c s1 e=>?_);cases c with
 | false=>exact isTrue_or_nil e
 | true=>exact e
theorem yAP (j:PT X a tA) (k:PW X (.BoolOp .And (b::rest) pos) tB'):PW X (.BoolOp .And (a::b::rest) pos) (yGh tA tB'):=by
 intro wh e s Z H Q I h;refine isTrue_and (thn (j e s Z H _ I h) fun c s1 ⟨f,g,i⟩=>?_);cases c with
 | true=>exact k wh e s1 Z f Q g i
 | false=>exact ⟨f,g,i⟩
theorem yEi (j:PT X a tA) (k:PW X (.BoolOp .Or (b::rest) pos) tB'):PW X (.BoolOp .Or (a::b::rest) pos) (tOr tA tB'):=by
 intro wh e s Z H Q I h;refine isTrue_or (thn (j e s Z H _ I h) fun c s1 ⟨f,g,i⟩=>?_);cases c with
 | true=>exact ⟨f,g,i⟩
 | false=>exact k wh e s1 Z f Q g i
theorem yAQ (e:PT X a tA):PT X (.UnaryOp .Not a pos) (yEh tA):=by intro d s Z H Q I h;exact isTrue_not (e d s Z H _ I h)
noncomputable def yAR (ta tb:TE):TE:=fun Z H Q=>ta Z H fun x H1=>∃ c,x=.bl c/\if c=true then tb Z H1 Q else Q (.bl false) H1
noncomputable def yAS (ta:TE):TE:=fun Z H Q=>ta Z H fun x H1=>∃ c,x=.bl c/\Q (.bl (!c)) H1
theorem yAT {op} (h:PE X a t):PE X (.BoolOp op [a] pos) t:=fun d s Z H Q I e=>BoolOp_one (h d s Z H Q I e)
theorem yAU (l:PE X a ta) (k:PE X (.BoolOp .And (b::rest) pos) tb):PE X (.BoolOp .And (a::b::rest) pos) (yAR ta tb):=by
 intro e s Z H Q I h;refine BoolOp_and (thn (l e s Z H _ I h) fun v s1 ⟨x,g,i,j,f⟩=>?_);obtain ⟨c,rfl,f⟩:=f;cases j;refine wpAny_truthy_bool ?_;cases c with
 | true=>exact k e s1 Z g Q i f
 | false=>exact ⟨.bl false,g,i,rfl,f⟩
theorem yAV (i:PE X a ta):PE X (.UnaryOp .Not a pos) (yAS ta):=by intro e s Z H Q I h;refine UnaryOp_ (thn (i e s Z H _ I h) fun v s1 ⟨x,k,j,g,f⟩=>?_);obtain ⟨c,rfl,f⟩:=f;cases g;exact not_of (wpAny_truthy_bool ⟨.bl _,k,j,rfl,f⟩)
noncomputable def tIf (t:TT) (ta tb:TE):TE:=fun Z H Q=>t Z H fun c H1=>if c=true then ta Z H1 Q else tb Z H1 Q
theorem ytP (m:PT X c tA) (k:PE X a ta) (l:PE X b tb):PE X (.IfExp c a b pos) (tIf tA ta tb):=by
 intro f s Z H Q I h;refine wpAny_IfExp (thn (m f s Z H _ I h) fun d s1 ⟨g,i,j⟩=>?_);cases d with
 | true=>exact k f s1 Z g Q i j
 | false=>exact l f s1 Z g Q i j
end
def SqL (K:Frag) (H:Hp) (a:Addr) (xs:List V):Prop :=
 Rd H a (.lst xs) \/
  ∃ (o:Obj) (its:Array Value) (n:Nat),K.lookup a=some o/\o.cls=.type "list"/\o.dict=none/\o.data=.seq its n/\its.size<=sizeLine/\Vals xs its.toList
def SqT (K:Frag) (H:Hp) (a:Addr) (xs:List V):Prop :=
 Rd H a (.tup xs) \/
  ∃ (o:Obj) (its:Array Value) (n:Nat),K.lookup a=some o/\o.cls=.type "tuple"/\o.data=.seq its n/\its.size<=sizeLine/\Vals xs its.toList
noncomputable def yGZ:Value->Option V
 | .none=>some .non
 | .bool b=>some (.bl b)
 | .int i _=>some (.int i)
 | .str x _=>some (.str x)
 | .bytes b _=>some (.byt b)
 | .float b _=>some (.flt b)
 | .ref a=>some (.ref a)
 | .type n=>some (.ty n)
 | _=>none
theorem RelV.abs (r:RelV x u):yGZ u=some x:=by
 cases x with
 | non=>cases r;rfl
 | bl _=>cases r;rfl
 | int _=>obtain ⟨t,rfl⟩:=r;rfl
 | str _=>obtain ⟨t,rfl⟩:=r;rfl
 | byt _=>obtain ⟨t,rfl⟩:=r;rfl
 | flt _=>obtain ⟨t,rfl⟩:=r;rfl
 | ref _=>cases r;rfl
 | ty _=>cases r;rfl
theorem RelV.inj (r:RelV x u) (q:RelV y u):x=y:=Option.some.inj (r.abs.symm.trans q.abs)
theorem Vals.inj:∀ {xs ys:List V}{us:List Value},Vals xs us->Vals ys us->xs=ys
 | _,_,_,.nil,.nil=>rfl
 | _,_,_,.cons r t,.cons r' t'=>by rw [r.inj r',Vals.inj t t']
section
variable {X:Cx}{pins:List (Addr×Obj)}{Z:St}{H:Hp}{s:Shared}{a:Addr}{xs ys:List V}
theorem SqL.of {K:Frag}(h:H a=some (.lst xs)):SqL K H a xs:=.inl (.inl h)
theorem SqT.of {K:Frag}(h:H a=some (.tup xs)):SqT K H a xs:=.inl (.inl h)
theorem Inv.list (I:Inv X pins Z H s) (h:SqL X.K H a xs):∃ its:List Value,Vals xs its/\PlainL s.heap a its.toArray/\xs.length<=sizeLine:=by
 rcases h with h|⟨o,its,n,c,d,b,hs,hz,r⟩
 .obtain ⟨z,its,n,r,e⟩:=h.ok I.hok;exact ⟨its,r,⟨_,n,e,rfl,rfl,rfl⟩,z⟩
 .refine ⟨its.toList,r,⟨o,n,I.kIn a o c,d,b,by simpa using hs⟩,?_⟩;have e:=r.length;simp_all
theorem Inv.tuple (I:Inv X pins Z H s) (h:SqT X.K H a xs):∃ its:List Value,Vals xs its/\IsTup s.heap a its.toArray/\xs.length<=sizeLine:=by
 rcases h with h|⟨o,its,n,c,b,hs,hz,r⟩
 .obtain ⟨z,its,r,p⟩:=h.ok I.hok;grind
 .refine ⟨its.toList,r,⟨o,I.kIn a o c,b,n,by simpa using hs⟩,?_⟩;have e:=r.length;simp_all
theorem Inv.list_inj (I:Inv X pins Z H s) (h:SqL X.K H a xs) (h':SqL X.K H a ys):xs=ys:=by
 obtain ⟨its,r,⟨o,n,e,_,_,d⟩,_⟩:=I.list h;obtain ⟨its',b,⟨g,f,c,_,_,d'⟩,_⟩:=I.list h';rw [e] at c;have:its=its':=by simp_all
 subst this;exact r.inj b
end
noncomputable abbrev Cx.wish (X:Cx) (E:Value->Shared->Prop):Cx:={ X with xe:=E }
abbrev Cx.nox (X:Cx):Cx:=X.wish fun _ _=>False
theorem Cx.Ok.wish {X:Cx}(a:X.Ok) E:(X.wish E).Ok :=
 ⟨a.mod,a.kind,a.glob,a.blt,a.above,a.inj,a.has,a.cab,a.hd,a.frames,a.stk,a.exf,a.bs,a.bsz,a.noex,a.exfs,a.funs,a.frf⟩
theorem Cx.Ok.unwish {X:Cx}(a:(X.wish E).Ok):X.Ok :=
 ⟨a.mod,a.kind,a.glob,a.blt,a.above,a.inj,a.has,a.cab,a.hd,a.frames,a.stk,a.exf,a.bs,a.bsz,a.noex,a.exfs,a.funs,a.frf⟩
section
variable {X:Cx}{pins:List (Addr×Obj)}{Z:St}{H:Hp}{s:Shared}{E:Value->Shared->Prop}
theorem Inv.wish (I:Inv X pins Z H s) E:Inv (X.wish E) pins Z H s:=⟨I.ok.wish E,I.os,I.bare,I.base,I.loc,I.cell,I.free,I.freeC,I.pin,I.hok,I.len⟩
theorem Inv.unwish (I:Inv (X.wish E) pins Z H s):Inv X pins Z H s:=⟨I.ok.unwish,I.os,I.bare,I.base,I.loc,I.cell,I.free,I.freeC,I.pin,I.hok,I.len⟩
theorem SP.unwish (h:SP (X.wish E) pins D f s'):SP X pins D f s':=by
 cases f with
 | next=>obtain ⟨a,b,I,q⟩:=h;exact ⟨a,b,I.unwish,q⟩
 | brk=>obtain ⟨a,b,I,q⟩:=h;exact ⟨a,b,I.unwish,q⟩
 | cont=>obtain ⟨a,b,I,q⟩:=h;exact ⟨a,b,I.unwish,q⟩
 | ret u=>obtain ⟨v,a,b,I,r,q⟩:=h;exact ⟨v,a,b,I.unwish,r,q⟩
theorem PSs.nox {st:List Stmt}{t:TS}(h:PSs X.nox st t):PSs X st t:=fun pins s Z H D I a =>
 wpAny_mono (h pins s Z H D (I.wish _) a) (fun _ _ q=>q.unwish) fun _ _ z=>False.elim z
end
section
variable {X:Cx}{st:Stmt}{rest:List Stmt}{t u:TS}{e:Expr}{te:TE}{pos:Pos}
noncomputable def yAW:TS:=fun D Z H=>D.nx Z H
noncomputable def yEj (t u:TS):TS:=fun D Z H=>t { D with nx:=u D } Z H
theorem yxK:PSs X [] yAW:=fun _ _ Z H _ I h=>wpAny_execs_nil ⟨Z,H,I,h⟩
theorem yos (h1:PS X st t) (h2:PSs X rest u):PSs X (st::rest) (yEj t u):=by
 intro b s Z H D I h;refine wpAny_execs_cons (thn (h1 b s Z H _ I h) fun f s1 q=>?_);cases f with
 | next =>
  obtain ⟨c,d,g,q⟩:=q;exact h2 b s1 c d D g q
 | ret v=>exact q
 | brk=>exact q
 | cont=>exact q
theorem yqC (h1:PS X st t):PSs X [st] t:=by
 intro b s Z H D I h;refine wpAny_execs_cons (thn (h1 b s Z H D I h) fun f s1 q=>?_);cases f with
 | next=>exact wpAny_execs_nil q
 | ret v=>exact q
 | brk=>exact q
 | cont=>exact q
theorem Inv.quiet {a:List _}{Z:St}{H:Hp}{s:Shared}(I:Inv X a Z H s):interactive X.env=false:=by simp [interactive,I.ok.kind]
noncomputable def yqD (te:TE):TS:=fun D Z H=>te Z H fun _ H1=>D.nx Z H1
theorem yjV (c:PE X e te) (hs:swapsWith e none pos.line X.env=pure false:=by rfl):PS X (.Expr e pos) (yqD te):=by intro b s Z H D I h;exact wpAny_Expr_any (thn (c b s Z H _ I h) fun v s1 ⟨x,d,f,i,g⟩=>⟨Z,d,f,g⟩) I.quiet hs
noncomputable def yGi (te:TE):TS:=fun D Z H=>te Z H D.rt
theorem yAX (f:PE X e te):PS X (.Return (some e) pos) (yGi te):=by intro b s Z H D I h;exact wpAny_Return_some (thn (f b s Z H _ I h) fun v s1 ⟨x,d,g,c,i⟩=>⟨x,Z,d,g,c,i⟩)
noncomputable def yGj (c:TT) (t u:TS):TS:=fun D Z H=>c Z H fun b H1=>if b=true then t D Z H1 else u D Z H1
theorem yEk (n:PT X c tc) (l:PSs X a t) (m:PSs X b u):PS X (.If c a b pos) (yGj tc t u):=by
 intro g s Z H D I h;refine wpAny_If (thn (n g s Z H _ I h) fun d s1 ⟨i,j,k⟩=>?_);cases d with
 | true=>exact l g s1 Z i D j k
 | false=>exact m g s1 Z i D j k
def ywv:TS:=fun _ _ _=>False
theorem ytQ:PS X st ywv:=fun _ _ _ _ _ _ h=>h.elim
end
noncomputable abbrev TG:=V->St->Hp->(St->Hp->Prop)->Prop
noncomputable abbrev TGs:=List V->St->Hp->(St->Hp->Prop)->Prop
def PG (X:Cx) (target:Expr) (t:TG):Prop :=
 ∀ (pins:List (Addr×Obj)) (s:Shared) (Z:St) (H:Hp) (v:V) (u:Value) (Q:St->Hp->Prop),Inv X pins Z H s->RelV v u->t v Z H Q ->
  wpAny (model X.prog X.w) X.A (assign target X.env u) (fun _ s'=>∃ Z' H',Inv X pins Z' H' s'/\Q Z' H') X.xe s
def PGs (X:Cx) (ts:List Expr) (t:TGs):Prop :=
 ∀ (pins:List (Addr×Obj)) (s:Shared) (Z:St) (H:Hp) (vs:List V) (us:List Value) (Q:St->Hp->Prop),Inv X pins Z H s->Vals vs us->t vs Z H Q ->
  wpAny (model X.prog X.w) X.A (assignInOrder ((assignEach ts X.env).map (·.2)) us) (fun _ s'=>∃ Z' H',Inv X pins Z' H' s'/\Q Z' H') X.xe s
noncomputable abbrev yEl:=V->V->V->Hp->(Hp->Prop)->Prop
def yGk (X:Cx) (t:yEl):Prop :=
 ∀ (pins:List (Addr×Obj)) (s:Shared) (Z:St) (H:Hp) (o i v:V) (ov iv u:Value) (Q:Hp->Prop),Inv X pins Z H s->RelV o ov->RelV i iv->RelV v u->t o i v H Q ->
  wpAny (model X.prog X.w) X.A (setItem ov iv u) (fun _ s'=>∃ H',Inv X pins Z H' s'/\Q H') X.xe s
section
variable {X:Cx}{pos:Pos}
def ypB (i:Nat):TG:=fun v Z H Q=>Q (Z.set i (some v)) H
theorem yjW (c:X.N.Nodup) (g:X.N[i]?=some x) (d:Loc X.env.scope x) (e:X.fn x=true\/X.env.scope.names.lookup x=some .local:=by first|exact .inl rfl|exact .inr rfl|assumption):PG X (.Name x pos) (ypB i):=by intro b s Z H v u Q I r h;exact wpAny_assign_Name (yor I c g d r (fun s' f=>⟨_,H,f,h⟩) e)
def yGl:TGs:=fun vs Z H Q=>vs=[]/\Q Z H
noncomputable def yAY (t:TG) (u:TGs):TGs:=fun vs Z H Q=>∃ v r,vs=v::r/\t v Z H fun Z' H'=>u r Z' H' Q
theorem yxL:PGs X [] yGl:=by intro a s Z H vs us Q I r h;obtain ⟨e,h⟩:=h;exact assignInOrder_nil ⟨Z,H,I,h⟩
theorem ytR (h1:PG X e t) (h2:PGs X es u)
  (hs:(assignEach (e::es) X.env).map (·.2)=assign e X.env::(assignEach es X.env).map (·.2):=by rfl):PGs X (e::es) (yAY t u):=by
 intro b s Z H vs us Q I r h;obtain ⟨v,j,d,h⟩:=h;subst d;cases r with
 | cons r rr =>
  rw [hs];exact assignInOrder_cons (thn (h1 b s Z H _ _ _ I r h) fun _ s1 ⟨c,f,i,g⟩=>h2 b s1 c f _ _ Q i rr g)
def yGm (K:Frag) (n:Nat) (t:TGs):TG:=fun v Z H Q=>∃ a xs,v=.ref a/\SqT K H a xs/\xs.length=n/\t xs Z H Q
theorem yAZ {es:List Expr}{k:Nat}{t:TGs}{n:Nat}(hc:X.calm=true) (h:PGs X es t)
  (hn:(assignEach es X.env).length=n:=by rfl) (hst:(assignEach es X.env).findIdx? (·.1)=none:=by rfl):PG X (.Tuple es k pos) (yGm X.K n t):=by
 intro pins s Z H v u Q I r hw;obtain ⟨a,xs,e1,hq,hl,hw⟩:=hw;subst e1;cases r;obtain ⟨its,rv,ht,hz⟩:=I.tuple hq;refine assign_Tuple_tuple (I.ok.hd hc) ht (by simp [hn,<- hl,rv.length]) hst fun h' hx=>?_
 have I1:Inv X pins Z H { s with heap:=h' }:=I.kept (t':=s.toks) fun b o e=>hx b o (ne_of_lt (Heap.lt_size e)) e
 exact h pins _ Z H xs _ Q I1 (by simpa using rv) hw
noncomputable def yGn (to ti:TE) (t:yEl):TG:=fun v Z H Q=>to Z H fun o H1=>ti Z H1 fun i H2=>t o i v H2 fun H3=>Q Z H3
theorem yBa (A:PE X o f) (C:PE X i e) (hs:yGk X t)
  (n:∀ v,assign (.Subscript o i pos) X.env v=(do
   let c <- holding [v] (eval o X.env)
   let d <- holding [v,c] (eval i X.env)
   standAt pos
   holding [v,c,d] (setItem c d v)
   release [v,c,d] []):=by intro _;rfl):PG X (.Subscript o i pos) (yGn f e t):=by
 intro b s Z H v u Q I r h;rw [n];refine wpAny_bind (wpAny_holding (thn (A b s Z H _ I h) fun c s1 ⟨x,w,j,l,q⟩=>?_));refine wpAny_bind (wpAny_holding (thn (C b s1 Z w _ j q) fun d s2 ⟨y,B,p,r2,k⟩=>?_));exact wpAny_bind (wpAny_standAt (wpAny_bind (wpAny_holding (thn (hs b s2 Z B x y v c d u _ p l r2 r k) fun _ s3 ⟨g,m,z⟩=>wpAny_release ⟨Z,g,m,z⟩))))
def yww (te:TE) (g:TG):TS:=fun D Z H=>te Z H fun x H1=>g x Z H1 D.nx
theorem yBb (f:PE X e te) (m:PG X c g) (hs:swapsWithSole [c] e pos.line X.env=pure false:=by rfl) (k:swappedStores [c] e X.env=pure none:=by rfl)
  (h1:(assignEach [c] X.env).map (·.2)=[assign c X.env]:=by rfl):PS X (.Assign [c] e pos) (yww te g):=by
 intro b s Z H D I h;refine wpAny_Assign_stores (thn (f b s Z H _ I h) fun v s1 ⟨x,j,l,d,i⟩=>?_) hs k;rw [h1];exact thn (m b s1 Z j x v _ l d i) fun _ s2 q=>q
theorem ywx (f:X.N.Nodup) (n:X.N[i]?=some x) (j:Loc X.env.scope x) (m:PE X e te) (hs:swapsWith e (some (.Name x b)) pos.line X.env=pure false:=by rfl) (l:X.fn x=true\/X.env.scope.names.lookup x=some .local:=by first|exact .inl rfl|exact .inr rfl|assumption) :
  PS X (.Assign [.Name x b] e pos) (yww te (ypB i)):=by
 intro c s Z H D I h;exact wpAny_Assign_Name (thn (m c s Z H _ I h) fun v s1 ⟨y,k,o,d,g⟩=>yor o f n j d (fun s2 p=>⟨_,k,p,g⟩) l) hs
end
section
variable {X:Cx}{pos:Pos}
noncomputable def ywy (c:TT) (tb:TS):TS:=fun D Z H=>∃ W:Nat->St->Hp->Prop,(∃ m,W m Z H)/\∀ m Z H,W m Z H ->
 c Z H fun b H1=>if b=true then ∃ N:St->Hp->Prop,(∀ Z' H',N Z' H'->∃ m',m'<m/\W m' Z' H')/\tb { D with nx:=N,ct:=N,bk:=D.nx } Z H1 else D.nx Z H1
theorem ytS (hp:PassesOwn (model X.prog X.w) X.A X.env X.xe) (A:PT X c tc) (B:PSs X body tb):PS X (.While c body [] pos) (ywy tc tb):=by
 intro e s Z H D I h;obtain ⟨W,⟨y,w0⟩,turn⟩:=h;refine wpAny_While (codeAny_whileLoop (fun n s'=>∃ j r,Inv X e j r s'/\W n j r) ?_ y ⟨Z,H,I,w0⟩);rintro n s1 ⟨g,u,C,z⟩;refine wpAny_passesOwn hp (thn (A e s1 g u _ C (turn n g u z)) fun b s2 ⟨x,t,k⟩=>?_);cases b with
 | true =>
  obtain ⟨N,w,k⟩:=k;refine wpAny_passesOwn hp (thn (B e s2 g x _ t k) fun f s3 l=>?_);cases f with
  | next =>
   obtain ⟨d,i,m,p⟩:=l;obtain ⟨m',q,o⟩:=w d i p;exact ⟨m',q,d,i,m,o⟩
  | cont =>
   obtain ⟨d,i,m,p⟩:=l;obtain ⟨m',q,o⟩:=w d i p;exact ⟨m',q,d,i,m,o⟩
  | brk=>exact l
  | ret v=>exact l
 | false =>
  exact wpAny_execs_nil ⟨g,x,t,k⟩
end
structure It where
 go:Nat->Hp->Prop
 yld:Nat->Hp->V->Hp->Prop
 stop:Nat->Hp->Prop
def ytT (X:Cx) (pins:List (Addr×Obj)) (H:Hp) (b:Addr):Prop :=
 H b=none/\b≠X.env.locals/\b∉X.fs/\(b∈X.ex\/X.s₀.heap.objs.size<=b)/\(∀ x c,X.env.cells.lookup x=some c->c≠b)/\∀ p∈X.pn++pins,p.1≠b
theorem Inv.fpOk {X:Cx}{d:List _}{Z:St}{H g:Hp}{s:Shared}{b:Addr}(I:Inv X d Z H s) (f:s.heap.objs.size<=b) (h:g b=none):ytT X d g b:=by
 refine ⟨h,Nat.ne_of_gt (lt_of_lt_of_le I.lt f),I.nofs f,.inr (Nat.le_trans I.sz f),fun x c e z=>?_,fun p hp z=>?_⟩
 .obtain ⟨v,q⟩:=I.cell x c e;exact absurd (lt_of_lt_of_le q.lt (by rw [z];exact f)) (lt_irrefl _)
 .exact absurd (lt_of_lt_of_le (Heap.lt_size (I.pin p hp).1) (by rw [z];exact f)) (lt_irrefl _)
structure Turn (P:Program) (w:World) (K:Frag) (tg:Expr) (J:It) (fp:List Addr) (it:Addr) (tn:Nat->Heap->Prop):Prop where
 mem:it∈fp
 obj:∀ i h,tn i h->∀ b∈fp,∃ o,h.get? b=some o/\∀ v,o.data≠.cell v
 keep:∀ i h h',tn i h->(∀ b∈fp,∀ o,h.get? b=some o->h'.get? b=some o)->tn i h'
 item:∀ (X:Cx),X.prog=P->X.w=w->X.K=K->X.calm=true->∀ (i:Nat) (pins:List (Addr×Obj)) (s:Shared) (Z:St) (H:Hp) (E:Value->Shared->Prop),Inv X pins Z H s->(∀ b∈fp,ytT X pins H b)->tn i s.heap->J.go i H ->
  wpAny (model P w) X.A (pyNext (.ref it)) (fun r s1=>∃ u,r=some u /\
   wpAny (model P w) X.A (letOwnedTupleGo tg (.ref it) u) (fun _ s2=>∃ x H',Inv X pins Z H' s2/\RelV x u/\J.yld i H x H'/\tn (i+1) s2.heap/\∀ b∈fp,H' b=none) E s1) E s
 done:∀ (X:Cx),X.prog=P->X.w=w->X.K=K->X.calm=true->∀ (i:Nat) (pins:List (Addr×Obj)) (s:Shared) (Z:St) (H:Hp) (E:Value->Shared->Prop),Inv X pins Z H s->(∀ b∈fp,ytT X pins H b)->tn i s.heap->J.stop i H ->
  wpAny (model P w) X.A (pyNext (.ref it)) (fun r s1=>r=none/\Inv X pins Z H s1) E s
 self:∀ (A:Around) (i:Nat) (s:Shared) (Q:Value->Shared->Prop) (E:Value->Shared->Prop),tn i s.heap->Q (.ref it) s->wpAny (model P w) A (pyIter (.ref it)) Q E s
noncomputable abbrev TI:=St->Hp->(It->Hp->Prop)->Prop
def PIE (X:Cx) (pins:List (Addr×Obj)) (Z:St) (tg:Expr) (R:It->Hp->Prop) (itv:Value) (s2:Shared):Prop :=
 ∃ (it:Addr) (fp:List Addr) (tn:Nat->Heap->Prop) (J:It) (H':Hp),itv=.ref it/\Inv X pins Z H' s2/\Turn X.prog X.w X.K tg J fp it tn/\tn 0 s2.heap/\(∀ b∈fp,ytT X pins H' b)/\R J H'
def PI (X:Cx) (tg iter:Expr) (wi:TI):Prop :=
 ∀ (pins:List (Addr×Obj)) (s:Shared) (Z:St) (H:Hp) (R:It->Hp->Prop),Inv X pins Z H s->wi Z H R ->
  wpAny (model X.prog X.w) X.A (eval iter X.env) (fun v s1=>wpAny (model X.prog X.w) X.A (pyIter v) (PIE X pins Z tg R) X.xe s1) X.xe s
theorem yqE {s:Shared}{Q:Unit->Shared->Prop}(f:s.heap.get? d=some o) (e:o.cls=.type n) (g:o.data=.fields vs)
    (h:["enumerate","zip","dict_itemiterator","dict_reverseitemiterator","odict_iterator","itertools.zip_longest","itertools.pairwise"].contains n=false) (b:Q () s):wpAny M A (letOwnedTupleGo c (.ref d) u) Q E s:=by
  cases c<;>first
    | exact wpAny_pure b
    | (cases u<;>first
        | exact wpAny_pure b
        | (refine wpAny_bind (wpAny_load f ?_)
           rw [e,g];show wpAny M A (if (["enumerate","zip","dict_itemiterator","dict_reverseitemiterator","odict_iterator","itertools.zip_longest","itertools.pairwise"].contains n && vs[0]? == some _)=true then _ else _) Q E s;rw [if_neg (by grind)];exact wpAny_pure b))
def Itl (K:Frag) (a:Addr):It :=
 ⟨fun i H=>∃ xs x,SqL K H a xs/\xs[i]?=some x,fun i H x H'=>H'=H/\∀ xs,SqL K H a xs->xs[i]?=some x,fun i H=>∃ xs,SqL K H a xs/\xs.length<=i⟩
noncomputable def Itr (lo:Int) (n:Nat):It:=⟨fun i _=>i<n,fun i H x H'=>H'=H/\x=.int (lo+i),fun i _=>n<=i⟩
theorem yqF {P:Program}{w:World}{K:Frag}{J:Expr} a j:Turn P w K J (Itl K a) [j] j fun i h=>h.IsListIter j a i where
 mem:=by simp
 obj:=fun i h st b g=>by
  have e:=by simpa using g
  obtain ⟨o,e,c,d⟩:=st;simp_all
 keep:=fun i h h' st k=>st.at fun o e=>k j (by simp) o e
 item:=by
  intro X D A z G i m s Z H E I n st r;subst D A z;obtain ⟨xs,x,q,t⟩:=r;obtain ⟨its,C,p,hz⟩:=I.list q;obtain ⟨u,L,S⟩:=C.get t;obtain ⟨f0,B,N,F,y,v⟩:=n j (by simp);refine wpAny_pyNext_list_item st p.isList (by simpa using L) fun h' l M=>?_
  have Q:=I.turned (t':=s.toks) (fun b o g e=>(M.2 b g).trans e) f0 B F y v;obtain ⟨o,e,c,d⟩:=id l;exact ⟨u,rfl,yqE e c d (by decide) ⟨x,H,Q,S,⟨rfl,fun ys R=>by rw [I.list_inj R q];exact t⟩,l,fun b g=>(n b g).1⟩⟩
 done:=by intro X D A z G i m s Z H E I n st r;subst D A z;obtain ⟨xs,q,t⟩:=r;obtain ⟨its,C,p,hz⟩:=I.list q;obtain ⟨f0,B,N,F,y,v⟩:=n j (by simp);have hl:=C.length;exact wpAny_pyNext_list_end (I.ok.hd G) st p.isList (by simp;omega) fun h' O=>⟨rfl,I.turned (fun b o g e=>O b o g e) f0 B F y v⟩
 self:=fun _ _ _ _ _ st h=>wpAny_pyIter_listiter st h
theorem ypC {P:Program}{w:World}{K:Frag}{D:Expr} d lo n:Turn P w K D (Itr lo n) [d] d (fun i h=>IsRangeIter h d (lo+i*1) (n-i) 1) where
 mem:=by simp
 obj:=fun i h st b f=>by simp_all
 keep:=fun i h h' st k=>k d (by simp) _ st
 item:=by
  intro X z x y p i c s Z H E I j st r;subst z x y;obtain ⟨f0,q,F,u,l,m⟩:=j d (by simp);have W:=Walks.range (prog:=X.prog) (w:=X.w) (I.ok.hd p) d lo 1 n;refine W.item i s _ _ r st fun v h' J C g A=>?_
  obtain ⟨t,rfl⟩:=C;have G:Inv X c Z H { s with heap:=h',toks:=J }:=I.turned (fun b o f e=>A b o (by simpa using f) e) f0 q u l m;refine ⟨_,rfl,yqE g rfl rfl (by decide) ⟨.int _,H,G,⟨t,?_⟩,⟨rfl,rfl⟩,g,fun b f=>(j b f).1⟩⟩;rw [Int.mul_one]
 done:=by intro X z x y p i c s Z H E I j st r;obtain ⟨f0,q,F,u,l,m⟩:=j d (by simp);exact wpAny_pyNext_range_end (I.ok.hd p) st (by have:n<=i:=r;omega) fun h' B=>⟨rfl,I.turned (fun b o f e=>B b o f e) f0 q u l m⟩
 self:=fun _ _ _ _ _ st h=>wpAny_pyIter_rangeiter st h
section
variable {X:Cx}{tg:Expr}
def ytU (K:Frag) (tl:TE):TI:=fun Z H R=>tl Z H fun x H1=>∃ a,x=.ref a/\(∃ xs,SqL K H1 a xs)/\R (Itl K a) H1
theorem ymZ (hl:PE X l tl):PI X tg l (ytU X.K tl):=by
 intro d s Z H R I h;refine thn (hl d s Z H _ I h) fun v s1 ⟨x,j,f,g,i⟩=>?_
 obtain ⟨a,e,⟨xs,k⟩,q⟩:=i;subst e;cases g;obtain ⟨its,n,p,hz⟩:=f.list k;refine wpAny_pyIter_list p.isList ?_;refine ⟨s1.heap.objs.size,_,_,_,j,rfl,f.kept fun b o e=>Heap.get?_push_of_some _ e,yqF a _,⟨_,Heap.get?_push_size _ rfl,rfl,rfl⟩,fun b m=>?_,q⟩;have e:=by simpa using m
 subst e;exact f.fpOk (Nat.le_refl _) (f.hok.fresh (Nat.le_refl _))
theorem ytV {c:List _}{Z:St}{H:Hp}{s:Shared}{R:It->Hp->Prop}{E:Value->Shared->Prop}{lo d:Int}{t u v:Tok}{g:Nat}(I:Inv X c Z H s) (h1:-2 ^ 62<=lo) (h2:lo<2 ^ 62) (j:-2 ^ 62<=d) (k:d<2 ^ 62)
  (q:R (Itr lo (d-lo).toNat) H):wpAny (model X.prog X.w) X.A (pyIter (.ref s.heap.objs.size)) (PIE X c Z tg R) E { s with heap:=s.heap.push { cls:=.type "range",data:=.fields #[.int lo t,.int d u,.int 1 v] },toks:=g }:=by
 refine wpAny_pyIter_range (IsRange.new ..) (small_one h1 h2 j k) ?_;have f:Inv X c Z H { s with heap:=s.heap.push { cls:=.type "range",data:=.fields #[.int lo t,.int d u,.int 1 v] },toks:=g }:=I.kept fun b o e=>Heap.get?_push_of_some _ e
 refine ⟨_,_,_,_,H,rfl,
  f.kept fun b o e=>Heap.get?_push_of_some _ e,ypC _ lo _,?_,fun b h=>?_,q⟩
 .have l:lo+(0:Nat)*1=lo:=by simp
  have i:((d-lo).toNat:Int)-(0:Nat)=Builtin.Range.rangeSize lo d 1:=by rw [rangeSize_one];split<;>omega
  rw [l,i];exact Heap.get?_push_size _ rfl
 .have e:b=(s.heap.push { cls:=.type "range",data:=.fields #[.int lo t,.int d u,.int 1 v] }).objs.size:=by simpa using h
  subst e;exact f.fpOk (Nat.le_refl _) (f.hok.fresh (Nat.le_refl _))
def yBc (ta:TA):TI:=fun Z H R=>ta Z H fun vs H1=>∃ j:Int,vs=[.int j]/\-(2 ^ 62)<=j/\j<2 ^ 62/\R (Itr 0 j.toNat) H1
theorem yqG (l:Gl X "range") (n:X.mg "range" = none) (m:PA X [a] f) (hs:starEach [a] X.env=[(false,eval a X.env)]:=by rfl):PI X tg (.Call (.Name "range" p) [a] [] pos) (yBc f):=by
 intro c s Z H R I h;refine Call_ (ylm I l n boot_range (PyProof.Rows.callWith_type1 (thn (m pos c s Z H _ I h) fun us s1 ⟨vs,o,g,k,d⟩=>?_) hs rfl));obtain ⟨j,e,d,i,q⟩:=d;subst e;cases k with
 | cons r rr =>
  cases rr;obtain ⟨t,rfl⟩:=r;exact call_range_1 (ytV g (by omega) (by omega) d i (by simpa using q))
noncomputable def yBd (wi:TI) (g:TG) (tb:TS):TS:=fun D Z H=>wi Z H fun J H1=>∃ W:Nat->Nat->St->Hp->Prop,(∃ m,W 0 m Z H1)/\∀ i m Z H,W i m Z H ->
 (J.stop i H/\D.nx Z H)\/(J.go i H/\∃ N:St->Hp->Prop,(∀ Z' H',N Z' H'->∃ m',m'<m/\W (i+1) m' Z' H')/\∀ x H',J.yld i H x H'->g x Z H' fun Z2 H2=>tb { D with nx:=N,ct:=N,bk:=D.nx } Z2 H2)
noncomputable def yot (fp:List Addr) (h:Heap):List (Addr×Obj):=fp.filterMap fun b=>(h.get? b).map fun o=>(b,o)
theorem ydk {h:Heap}(c:b∈fp) (e:h.get? b=some o):(b,o)∈yot fp h:=List.mem_filterMap.mpr ⟨b,c,by rw [e];rfl⟩
theorem yqH (hp:p∈yot fp h):p.1∈fp/\h.get? p.1=some p.2:=by
 obtain ⟨b,a,e⟩:=List.mem_filterMap.mp hp;cases q:h.get? b with
 | none=>rw [q] at e;cases e
 | some o =>
  rw [q] at e;have c:=Option.some.inj e;subst c;exact ⟨a,q⟩
theorem Inv.pinned {c:List _}{Z:St}{H:Hp}{s:Shared}{fp:List Addr}(I:Inv X c Z H s) (f:∀ b∈fp,ytT X c H b) (h:∀ b∈fp,∃ o,s.heap.get? b=some o/\∀ v,o.data≠.cell v):Inv X (c++yot fp s.heap) Z H s :=
 I.pins_of fun p hp=>(List.mem_append.mp hp).elim (fun z=>I.pin p (mem_append_right _ z)) fun z=>by obtain ⟨d,e⟩:=yqH z;obtain ⟨f0,i,g,_⟩:=f p.1 d;grind
theorem Inv.unpinned {b pl:List _}{Z:St}{H:Hp}{s:Shared}(I:Inv X (b++pl) Z H s):Inv X b Z H s:=I.pins_of fun p hp=>I.pin p (mem_append_right _ (mem_append_left _ hp))
theorem yqI (hp:PassesOwn (model X.prog X.w) X.A X.env X.xe) (Y:X.calm=true) (hi:PI X tg iter U) (hg:PG X tg g) (w:PSs X body tb)
  (hs:∀ x,foldedSetIterable iter X.env x=pure x:=by intro _;rfl):PS X (.For tg iter body [] pos) (yBd U g tb):=by
 intro c s K H D I h;refine wpAny_For (thn (hi c s K H _ I h) fun v s1 h1=>thn h1 fun itv s2 h2=>?_) hs;obtain ⟨it,fp,tn,J,H2,e,I2,T,O,f2,W,⟨m0,w0⟩,turn⟩:=h2;subst e;have k:∀ {y:Hp},(∀ b∈fp,y b=none)->∀ b∈fp,ytT X c y b:=fun hn b w=>⟨hn b w,(f2 b w).2⟩
 refine codeAny_forLoop_any (fun n s'=>∃ i l y,Inv X c l y s'/\tn i s'.heap/\(∀ b∈fp,y b=none)/\W i n l y) ?_ m0 ⟨0,K,H2,I2,O,fun b w=>(f2 b w).1,w0⟩;rintro n s3 ⟨i,t,G,Z,C,E,w3⟩;rcases turn i n t G w3 with ⟨B,qn⟩|⟨go,N,hN,step⟩
 .refine wpAny_passesOwn hp (thn (T.done X rfl rfl rfl Y i c s3 t G X.xe Z (k E) C B) fun r s4 ⟨P,I4⟩=>?_);subst P;exact wpAny_execs_nil ⟨t,G,I4,qn⟩
 .refine wpAny_passesOwn hp (thn (T.item X rfl rfl rfl Y i c s3 t G X.xe Z (k E) C go) fun r s4 ⟨u,P,h4⟩=>?_);subst P;refine wpAny_passesOwn hp (thn h4 fun _ s5 ⟨x,S,I5,r5,y5,A,R⟩=>?_);have Q:=I5.pinned (k R) (T.obj _ _ A);refine wpAny_passesOwn hp (thn (hg _ s5 t S x u _ Q r5 (step x S y5)) fun _ s6 ⟨L,H6,I6,q6⟩=>?_);refine wpAny_passesOwn hp (thn (w _ s6 L H6 _ I6 q6) fun f M z=>?_);have again:∀ {j:St}{q:Hp},Inv X (c++yot fp s5.heap) j q M->N j q->∃ m,m<n/\∃ i l y,Inv X c l y M/\tn i M.heap/\(∀ b∈fp,y b=none)/\W i m l y:=fun {j q} p F=>by obtain ⟨m',hm,w7⟩:=hN j q F;refine ⟨m',hm,i+1,j,q,p.unpinned,T.keep _ _ _ A fun b w o e=>(p.pin (b,o) (mem_append_right _ (mem_append_right _ (ydk w e)))).1,fun b w=>?_,w7⟩;obtain ⟨o,e,d⟩:=T.obj _ _ A b w;exact (p.pin (b,o) (mem_append_right _ (mem_append_right _ (ydk w e)))).2.1
  cases f with
  | next=>obtain ⟨j,q,p,F⟩:=z;exact again p F
  | cont=>obtain ⟨j,q,p,F⟩:=z;exact again p F
  | brk=>obtain ⟨j,q,p,z⟩:=z;exact ⟨j,q,p.unpinned,z⟩
  | ret v=>obtain ⟨x7,j,q,p,r7,z⟩:=z;exact ⟨x7,j,q,p.unpinned,r7,z⟩
end
abbrev R2:=V->V->Hp->VK->Prop
def OpR (X:Cx) (f:Value->Value->Sem Value) (r:R2):Prop :=
 ∀ (pins:List (Addr×Obj)) (s:Shared) (Z:St) (H:Hp) (x y:V) (v u:Value) (Q:VK),Inv X pins Z H s->RelV x v->RelV y u->r x y H Q ->
  wpAny (model X.prog X.w) X.A (f v u) (EP X pins Z Q) X.xe s
def UnR (X:Cx) (f:Value->Sem Value) (r:V->Hp->VK->Prop):Prop :=
 ∀ (pins:List (Addr×Obj)) (s:Shared) (Z:St) (H:Hp) (x:V) (v:Value) (Q:VK),Inv X pins Z H s->RelV x v->r x H Q ->
  wpAny (model X.prog X.w) X.A (f v) (EP X pins Z Q) X.xe s
def yfR (X:Cx) (f:Value) (r:List V->Hp->VK->Prop):Prop :=
 ∀ (pins:List (Addr×Obj)) (s:Shared) (Z:St) (H:Hp) (xs:List V) (us:List Value) (Q:VK),Inv X pins Z H s->Vals xs us->r xs H Q ->
  wpAny (model X.prog X.w) X.A (call f us) (EP X pins Z Q) X.xe s
noncomputable def tOp (r:R2) (ta tb:TE):TE:=fun Z H Q=>ta Z H fun x H1=>tb Z H1 fun y H2=>r x y H2 Q
noncomputable def tUn (r:V->Hp->VK->Prop) (ta:TE):TE:=fun Z H Q=>ta Z H fun x H1=>r x H1 Q
noncomputable def rI (C:Int->Int->Prop) (g:Int->Int->V):R2:=fun x y H Q=>∃ i j,x=.int i/\y=.int j/\C i j/\Q (g i j) H
noncomputable def rI0 (g:Int->Int->V):R2:=fun x y H Q=>∃ i j,x=.int i/\y=.int j/\Q (g i j) H
noncomputable def rU (g:Int->V):V->Hp->VK->Prop:=fun x H Q=>∃ i,x=.int i/\Q (g i) H
section
variable {X:Cx}{a b c:Expr}{ta tb tc:TE}{pos:Pos}
theorem yEm (p:PE X a ta) (r:PE X b tb) {e:List _}{s:Shared}{Z:St}{H:Hp}{R:V->V->Hp->Prop}(I:Inv X e Z H s)
  (h:ta Z H fun x k=>tb Z k fun y g=>R x y g) {Q:Value->Shared->Prop}{f:Value->Value->Sem Value}
  (m:∀ v u s2 x y g,Inv X e Z g s2->RelV x v->RelV y u->R x y g->wpAny (model X.prog X.w) X.A (f v u) Q X.xe s2) :
  wpAny (model X.prog X.w) X.A (eval a X.env) (fun v j=>wpAny (model X.prog X.w) X.A (eval b X.env) (fun u i=>wpAny (model X.prog X.w) X.A (f v u) Q X.xe i) X.xe j) X.xe s:=by
 refine thn (p e s Z H _ I h) fun v s1 ⟨x,k,q,t,n⟩=>?_
 exact thn (r e s1 Z k _ q n) fun u s2 ⟨y,g,l,r2,o⟩=>m v u s2 x y g l t r2 o
theorem yBe (i:OpR X (binaryOp op) r) (k:PE X a ta) (g:PE X b tb):PE X (.BinOp a op b pos) (tOp r ta tb):=by intro e s Z H Q I h;exact wpAny_BinOp (yEm k g I h fun v u s2 x y j f m l q=>i e s2 Z j x y v u Q f m l q)
theorem yEn (i:UnR X (unaryOp op) r) (j:PE X a ta):PE X (.UnaryOp op a pos) (tUn r ta):=by intro e s Z H Q I h;exact UnaryOp_ (thn (j e s Z H _ I h) fun v s1 ⟨x,g,k,f,l⟩=>i e s1 Z g x v Q k f l)
theorem opI {f:Value->Value->Sem Value}{C:Int->Int->Prop}{g:Int->Int->Int}
  (rule:∀ i j t u s Q E,C i j->Q (.int (g i j) s.toks) { s with toks:=s.toks+1 }->wpAny (model X.prog X.w) X.A (f (.int i t) (.int j u)) Q E s) :
  OpR X f (rI C fun i j=>.int (g i j)):=by
 intro e s Z H x y v u Q I m l h;obtain ⟨i,j,rfl,rfl,k,q⟩:=h;obtain ⟨t,rfl⟩:=m;obtain ⟨t',rfl⟩:=l;exact rule i j t t' s _ _ k ⟨.int _,H,I.tok _,⟨_,rfl⟩,q⟩
theorem yGo {f:Value->Value->Sem Value}{g:Int->Int->Int}
  (rule:∀ i j t u s Q E,Q (.int (g i j) s.toks) { s with toks:=s.toks+1 }->wpAny (model X.prog X.w) X.A (f (.int i t) (.int j u)) Q E s) :
  OpR X f (rI0 fun i j=>.int (g i j)):=by
 intro e s Z H x y v u Q I l k h;obtain ⟨i,j,rfl,rfl,q⟩:=h;obtain ⟨t,rfl⟩:=l;obtain ⟨t',rfl⟩:=k;exact rule i j t t' s _ _ ⟨.int _,H,I.tok _,⟨_,rfl⟩,q⟩
theorem yDN {f:Value->Value->Sem Value}{g:Int->Int->Bool}
  (rule:∀ i j t u s Q E,Q (.bool (g i j)) s->wpAny (model X.prog X.w) X.A (f (.int i t) (.int j u)) Q E s) :
  OpR X f (rI0 fun i j=>.bl (g i j)):=by
 intro e s Z H x y v u Q I l k h;obtain ⟨i,j,rfl,rfl,q⟩:=h;obtain ⟨t,rfl⟩:=l;obtain ⟨t',rfl⟩:=k;exact rule i j t t' s _ _ ⟨.bl _,H,I,rfl,q⟩
noncomputable def yGp (i j:Int):Prop:=0<j/\j<1073741824
noncomputable def yEo (i j:Int):Prop:=0<=j/\j<=1000000/\i.natAbs<2 ^ 64
noncomputable def CMul (i j:Int):Prop:=(-(2 ^ 64)<i/\i<2 ^ 64)\/(-(2 ^ 64)<j/\j<2 ^ 64)
theorem CMul.ok (h:CMul i j):IntMulOk i j:=by
 rcases h with ⟨h1,h2⟩|⟨h1,h2⟩
 .exact .of_left (intBits_le_64 h1 h2)
 .exact .of_right (intBits_le_64 h1 h2)
theorem ycg:OpR X (binaryOp .Add) (rI0 fun i j=>.int (i+j)):=yGo fun _ _ _ _ _ _ _ q=>add_int q
theorem yfG:OpR X (binaryOp .Sub) (rI0 fun i j=>.int (i-j)):=yGo fun _ _ _ _ _ _ _ q=>sub_int q
theorem yhl:OpR X (binaryOp .Mult) (rI CMul fun i j=>.int (i*j)):=opI fun _ _ _ _ _ _ _ e q=>mul_int q e.ok
theorem ycv:OpR X (binaryOp .FloorDiv) (rI yGp fun i j=>.int (i/j)):=opI fun i j _ _ _ _ _ e q=>by have h1:=e.1;have h2:=e.2;exact floordiv_int (by omega) (by rw [Int.fdiv_eq_ediv_of_nonneg i (by omega)];exact q) (.inl (PyProof.noPylong_small (by omega)))
theorem ybx:OpR X (binaryOp .Mod) (rI (fun _ j=>0<j) fun i j=>.int (i%j)):=opI fun i j _ _ _ _ _ e q=>by exact mod_int' (by omega) (by rw [Int.fmod_eq_emod_of_nonneg i (by omega)];exact q)
theorem ywz:OpR X (binaryOp .Pow) (rI yEo fun i j=>.int (i ^ j.toNat)):=opI fun _ _ _ _ _ _ _ e q=>pow_int_small e.1 e.2.1 e.2.2 q
theorem unI {f:Value->Sem Value}{g:Int->Int}
  (rule:∀ i t s Q E,Q (.int (g i) s.toks) { s with toks:=s.toks+1 }->wpAny (model X.prog X.w) X.A (f (.int i t)) Q E s) :
  UnR X f (rU fun i=>.int (g i)):=by
 intro e s Z H x v Q I j h;obtain ⟨i,rfl,q⟩:=h;obtain ⟨t,rfl⟩:=j;exact rule i t s _ _ ⟨.int _,H,I.tok _,⟨_,rfl⟩,q⟩
theorem yqJ:UnR X (unaryOp .USub) (rU fun i=>.int (-i)):=unI fun _ _ _ _ _ q=>neg_int q
end
noncomputable def yDO:V->V->Bool
 | .non,.non=>true|.non,.int _=>true|.int _,.non=>true|.non,.bl _=>true|.bl _,.non=>true|.non,.str _=>true|.str _,.non=>true
 | .int _,.int _=>true|.bl _,.bl _=>true|.str _,.str _=>true|.byt _,.byt _=>true
 | .int _,.str _=>true|.str _,.int _=>true|.bl _,.str _=>true|.str _,.bl _=>true
 | _,_=>false
def rEq:R2:=fun x y H Q=>yDO x y=true/\Q (.bl (decide (x=y))) H
def rNe:R2:=fun x y H Q=>yDO x y=true/\Q (.bl (!decide (x=y))) H
theorem yqK:decide (V.int i=V.int j)=(i == j):=by rw [Bool.eq_iff_iff];simp
theorem ywA:decide (V.bl i=V.bl j)=(i == j):=by rw [Bool.eq_iff_iff];simp
theorem yqL:decide (V.str i=V.str j)=(i == j):=by rw [Bool.eq_iff_iff];simp
theorem yqM:decide (V.byt i=V.byt j)=(i.toList == j.toList):=by rw [Bool.eq_iff_iff];cases i;cases j;simp
section
variable {X:Cx}{a b c:Expr}{ta tb tc:TE}{pos:Pos}
theorem ybB {f:List _}{Z:St}{H:Hp}{s:Shared}{Q:VK}{k g:Bool}(I:Inv X f Z H s) (q:Q (.bl k) H) (e:k=g):EP X f Z Q (.bool g) s:=by subst e;exact ⟨.bl k,H,I,rfl,q⟩
theorem ybj:OpR X (compareOp .Eq) rEq:=by
 intro g s Z H x y v u Q I f e h;obtain ⟨hs,q⟩:=h;cases x with
 | non =>
  cases f;cases y with
  | non=>cases e;exact PySem.EqNone.eq_none_none (ybB I q (by simp))
  | bl j=>cases e;exact PySem.EqNone.eq_none_bool (ybB I q (by simp))
  | int j=>obtain ⟨t',rfl⟩:=e;exact PySem.EqNone.eq_none_int (ybB I q (by simp))
  | str j=>obtain ⟨t',rfl⟩:=e;exact PySem.EqNone.eq_none_str (ybB I q (by simp))
  | _=>exact absurd (show false=true from hs) Bool.false_ne_true
 | bl i =>
  cases f;cases y with
  | non=>cases e;exact PySem.EqNone.eq_bool_none (ybB I q (by simp))
  | bl j=>cases e;exact eq_bool (ybB I q ywA)
  | str j=>obtain ⟨t',rfl⟩:=e;exact PySem.EqMixed.eq_bool_str (ybB I q (by simp))
  | _=>exact absurd (show false=true from hs) Bool.false_ne_true
 | int i =>
  obtain ⟨t,rfl⟩:=f;cases y with
  | non=>cases e;exact PySem.EqNone.eq_int_none (ybB I q (by simp))
  | int j=>obtain ⟨t',rfl⟩:=e;exact eq_int (ybB I q yqK)
  | str j=>obtain ⟨t',rfl⟩:=e;exact PySem.EqMixed.eq_int_str (ybB I q (by simp))
  | _=>exact absurd (show false=true from hs) Bool.false_ne_true
 | str i =>
  obtain ⟨t,rfl⟩:=f;cases y with
  | non=>cases e;exact PySem.EqNone.eq_str_none (ybB I q (by simp))
  | bl j=>cases e;exact PySem.EqMixed.eq_str_bool (ybB I q (by simp))
  | int j=>obtain ⟨t',rfl⟩:=e;exact PySem.EqMixed.eq_str_int (ybB I q (by simp))
  | str j=>obtain ⟨t',rfl⟩:=e;exact eq_str (ybB I q yqL)
  | _=>exact absurd (show false=true from hs) Bool.false_ne_true
 | byt i =>
  obtain ⟨t,rfl⟩:=f;cases y with
  | byt j=>obtain ⟨t',rfl⟩:=e;exact PySem.W.eq_bytes (ybB I q yqM)
  | _=>exact absurd (show false=true from hs) Bool.false_ne_true
 | _=>cases y<;>exact absurd (show false=true from hs) Bool.false_ne_true
theorem ytW:OpR X (compareOp .NotEq) rNe:=by
 intro g s Z H x y v u Q I f e h;obtain ⟨hs,q⟩:=h;cases x with
 | non =>
  cases f;cases y with
  | non=>cases e;exact PySem.EqNone.ne_none_none (ybB I q (by simp))
  | bl j=>cases e;exact PySem.EqNone.ne_none_bool (ybB I q (by simp))
  | int j=>obtain ⟨t',rfl⟩:=e;exact PySem.EqNone.ne_none_int (ybB I q (by simp))
  | str j=>obtain ⟨t',rfl⟩:=e;exact PySem.EqNone.ne_none_str (ybB I q (by simp))
  | _=>exact absurd (show false=true from hs) Bool.false_ne_true
 | bl i =>
  cases f;cases y with
  | non=>cases e;exact PySem.EqNone.ne_bool_none (ybB I q (by simp))
  | bl j=>cases e;exact ne_bool (ybB I q (congrArg not ywA))
  | str j=>obtain ⟨t',rfl⟩:=e;exact PySem.EqMixed.ne_bool_str (ybB I q (by simp))
  | _=>exact absurd (show false=true from hs) Bool.false_ne_true
 | int i =>
  obtain ⟨t,rfl⟩:=f;cases y with
  | non=>cases e;exact PySem.EqNone.ne_int_none (ybB I q (by simp))
  | int j=>obtain ⟨t',rfl⟩:=e;exact ne_int (ybB I q (congrArg not yqK))
  | str j=>obtain ⟨t',rfl⟩:=e;exact PySem.EqMixed.ne_int_str (ybB I q (by simp))
  | _=>exact absurd (show false=true from hs) Bool.false_ne_true
 | str i =>
  obtain ⟨t,rfl⟩:=f;cases y with
  | non=>cases e;exact PySem.EqNone.ne_str_none (ybB I q (by simp))
  | bl j=>cases e;exact PySem.EqMixed.ne_str_bool (ybB I q (by simp))
  | int j=>obtain ⟨t',rfl⟩:=e;exact PySem.EqMixed.ne_str_int (ybB I q (by simp))
  | str j=>obtain ⟨t',rfl⟩:=e;exact ne_str (ybB I q (congrArg not yqL))
  | _=>exact absurd (show false=true from hs) Bool.false_ne_true
 | byt i =>
  obtain ⟨t,rfl⟩:=f;cases y with
  | byt j=>obtain ⟨t',rfl⟩:=e;exact PySem.W.ne_bytes (ybB I q (congrArg not yqM))
  | _=>exact absurd (show false=true from hs) Bool.false_ne_true
 | _=>cases y<;>exact absurd (show false=true from hs) Bool.false_ne_true
theorem yhy:OpR X (compareOp .Lt) (rI0 fun i j=>.bl (decide (i<j))):=yDN fun _ _ _ _ _ _ _ q=>lt_int q
theorem yjg:OpR X (compareOp .LtE) (rI0 fun i j=>.bl (decide (i<=j))):=yDN fun _ _ _ _ _ _ _ q=>le_int q
theorem yqN:OpR X (compareOp .Gt) (rI0 fun i j=>.bl (decide (j<i))):=yDN fun _ _ _ _ _ _ _ q=>gt_int q
theorem yEp:OpR X (compareOp .GtE) (rI0 fun i j=>.bl (decide (j<=i))):=yDN fun _ _ _ _ _ _ _ q=>ge_int q
theorem yqO:OpR X (compareOp .In) (fun x y H Q=>∃ i j,x=.str i/\y=.str j/\Q (.bl !(Builtin.Str.occurrences j i 0 j.length 1).isEmpty) H):=by intro e s Z H x y v u Q I g f h;obtain ⟨i,j,rfl,rfl,q⟩:=h;obtain ⟨t,rfl⟩:=g;obtain ⟨t',rfl⟩:=f;exact in_str (ybB I q rfl)
theorem you:OpR X (compareOp .Is) fun x y H Q=>y=.non/\Q (.bl (decide (x=.non))) H:=by
 intro e s Z H x y v u Q I g f h;obtain ⟨rfl,q⟩:=h;cases f;refine is_none_gen (ybB I q ?_);cases x<;>first
  | (rfl)
  | (obtain ⟨t,rfl⟩:=g;rfl)
theorem yxM:OpR X (compareOp .IsNot) fun x y H Q=>y=.non/\Q (.bl (!decide (x=.non))) H:=by
 intro e s Z H x y v u Q I g f h;obtain ⟨rfl,q⟩:=h;cases f;refine isnot_none_gen (ybB I q ?_);cases x<;>first
  | (rfl)
  | (obtain ⟨t,rfl⟩:=g;rfl)
theorem yln b {op:CmpOp}(h:op≠.In:=by decide) (h2:op≠.NotIn:=by decide):behindInMarks op b=false:=by
 have f:(op == CmpOp.In)=false:=by grind
 have e:(op == CmpOp.NotIn)=false:=by simp_all
 cases b<;>simp [behindInMarks,f,e]
theorem yxN (j:OpR X (compareOp op) r) (l:PE X a ta) (i:PE X b tb) (g:behindInMarks op b=false):PE X (.Compare a [op] [b] pos) (tOp r ta tb):=by intro e s Z H Q I h;exact wpAny_Compare1 (yEm l i I h fun v u s2 x y k f n m q=>j e s2 Z k x y v u Q f n m q) g
def yxO (t:TE):TT:=fun Z H Q=>t Z H fun x H'=>∃ k,x=.bl k/\Q k H'
theorem yxP (B:OpR X (compareOp op) r) (t:PE X a ta) (l:PE X b tb) (j:behindInMarks op b=false):PT X (.Compare a [op] [b] pos) (yxO (tOp r ta tb)):=by
 intro f s Z H Q I h;refine wpAny_isTrue_Compare1 (thn (t f s Z H _ I h) fun v s1 ⟨x,A,n,p,w⟩=>thn (l f s1 Z A _ n w) fun u s2 ⟨y,C,D,r2,i⟩ =>
  thn (B f s2 Z C x y v u _ D p r2 i) fun c s3 ⟨z,g,o,q,k,e,m⟩=>?_) j
 subst e;cases q;exact wpAny_truthy_bool ⟨g,o,m⟩
noncomputable def yqP (r r':R2) (ta tb tc:TE):TE:=fun Z H Q=>ta Z H fun x H1=>tb Z H1 fun y H2=>r x y H2 fun z H3=>∃ k,z=.bl k /\
 (if k=true then tc Z H3 fun w' H4=>r' y w' H4 Q else Q (.bl false) H3)
theorem ytX (N:OpR X (compareOp op) r) (j:OpR X (compareOp i) n) (G:PE X a ta) (C:PE X b tb) (O:PE X c tc)
  (w:lastMarks [op,i] [b,c]=false:=by with_unfolding_all rfl):PE X (.Compare a [op,i] [b,c] pos) (yqP r n ta tb tc):=by
 intro g s Z H Q I h;refine Compare_chain (thn (G g s Z H _ I h) fun v s1 ⟨x,L,B,D,J⟩=>chain_link (thn (C g s1 Z L _ B J) fun u s2 ⟨y,P,F,r2,t⟩ =>
  thn (N g s2 Z P x y v u _ F D r2 t) fun d s3 ⟨z,l,o,E,k,e,m⟩=>?_)) w
 subst e;cases E;refine wpAny_truthy_bool ?_;cases k with
 | false=>exact ite_ff ⟨.bl false,l,o,rfl,m⟩
 | true=>exact ite_tt (chain_last (thn (O g s3 Z l _ o m) fun q s4 ⟨p,R,S,M,A⟩=>j g s4 Z R y p u q Q S r2 M A))
theorem ytY (R:OpR X (compareOp op) r) (j:OpR X (compareOp i) n) (N:PE X a ta) (w:PE X b tb) (Z:PE X c tc)
  (q:lastMarks [op,i] [b,c]=false:=by with_unfolding_all rfl):PT X (.Compare a [op,i] [b,c] pos) (yxO (yqP r n ta tb tc)):=by
 intro g s f H Q I h;refine isTrue_chain (thn (N g s f H _ I h) fun v s1 ⟨x,T,F,J,P⟩=>test_link (thn (w g s1 f T _ F P) fun u s2 ⟨y,W,Y,r2,q2⟩ =>
  thn (R g s2 f W x y v u _ Y J r2 q2) fun d s3 ⟨z,o,l,L,k,e,m⟩=>?_)) q
 subst e;cases L;refine wpAny_truthy_bool ?_;cases k with
 | false =>
  obtain ⟨k',B,t⟩:=m;cases B;exact ite_ff ⟨o,l,t⟩
 | true =>
  refine ite_tt (test_last (thn (Z g s3 f o _ l m) fun M s4 ⟨C,p,I4,U,E⟩=>thn (j g s4 f p y C u M _ I4 r2 U E) fun d' s5 ⟨z2,S,G,D,k2,A,O⟩=>?_));subst A;cases D;exact wpAny_truthy_bool ⟨S,G,O⟩
theorem yjy:sizeLine<2 ^ 63:=by decide
theorem yr:OpR X (binaryOp .Add) fun x y H Q=>∃ i j,x=.str i/\y=.str j/\i.length+j.length<=sizeLine/\Q (.str (i++j)) H:=by intro e s Z H x y v u Q I g f h;obtain ⟨i,j,rfl,rfl,hz,q⟩:=h;obtain ⟨t,rfl⟩:=g;obtain ⟨t',rfl⟩:=f;exact add_str (fun t' k=>⟨.str _,H,I.tok _,⟨_,rfl⟩,q⟩) hz
theorem vals1 (r:Vals [x] us):∃ u,us=[u]/\RelV x u:=by
 cases r with
 | cons r1 r2=>cases r2;exact ⟨_,rfl,r1⟩
theorem vals2 (r:Vals [x,y] us):∃ u d,us=[u,d]/\RelV x u/\RelV y d:=by
 cases r with
 | cons r1 r2 =>
  cases r2 with
  | cons r3 r4=>cases r4;exact ⟨_,_,rfl,r1,r3⟩
theorem yed:yfR X (.type "str") fun xs H Q=>∃ i,xs=[.int i]/\i.natAbs.log2<1920/\Q (.str (toString i)) H:=by intro e s Z H xs us Q I r h;obtain ⟨i,rfl,hz,q⟩:=h;obtain ⟨u,rfl,t,rfl⟩:=vals1 r;exact PySem.P.str_of_int hz ⟨.str _,H,I.tok _,⟨_,rfl⟩,q⟩
end
structure ObjM (h:Heap) (x dx C:Addr) (mA:Str->Option Value):Prop where
 obj:h.get? x=some (instObj C dx)
 ns:h.Ns1 dx mA
 ne:dx≠x
theorem yqQ {h:Heap}(n:h.Ns1 d f):∃ od,h.get? d=some od/\∀ name,PySem.W.lookIn name od=some (f name):=by
 obtain ⟨o,es,ep,j,k,g,_,l⟩:=n;refine ⟨o,j,fun name=>?_⟩;have e:=l name;unfold nsFind findBy at e;rw [<- Array.find?_toList] at e;unfold PySem.W.lookIn;rw [k];dsimp only;split
 .grind
 .have a:es.toList.any (·.refKey)=false:=by rw [List.any_eq_false];intro y i;obtain ⟨z,t,c⟩:=g y (Array.mem_toList_iff.mp i);simp [DictEntry.refKey,c]
  grind
theorem ObjM.look (I:ObjM h x b C c):∃ od,PySem.W.InstAt h x (instObj C b) C (some od)/\∀ name,PySem.W.lookIn name od=some (c name) :=
 let ⟨od,d,hl⟩:=yqQ I.ns
 ⟨od,⟨I.obj,rfl,rfl,d⟩,hl⟩
section
variable {prog:Program}{w:World}{A:Around}{E:Value->Shared->Prop}{s:Shared}{K:Frag}{x dx C f:Addr}{mA:Str->Option Value}{name:Str}{v:Value}
theorem yxQ {Q:Value->Shared->Prop}(X:K.In s.heap) (I:ObjM s.heap x dx C mA) (d:plainGet K C name=true) (i:hasDictIn K C=true)
  (g:findIn K (.ref C) name=some none) (e:mA name=some v) (c:PySem.W.handedIn v=true) (h:Q v { s with toks:=s.toks+1 }) :
  wpAny (model prog w) A (getAttr (.ref x) name b) Q E s:=by
 obtain ⟨od,J,hl⟩:=I.look;exact PySem.W.get_value X J (PySem.W.plainGet_of d).1 (PySem.W.findObj_own i g rfl (by rw [hl,e])) c h
theorem ytZ {pl:Sem Bool}{Q:Value×List Value->Shared->Prop}(X:K.In s.heap) (I:ObjM s.heap x dx C mA) (b:plainGet K C name=true)
  (d:findIn K (.ref C) name=some (some (.ref f))) (e:isFn K (.ref f)=true) (c:mA name=none) (h:Q (.ref f,[.ref x]) s) :
  wpAny (model prog w) A (getMethod (.ref x) name pl) Q E s:=by
 obtain ⟨od,J,hl⟩:=I.look;exact PySem.W.method_fn X J (PySem.W.plainGet_of b).1 (PySem.W.plainGet_of b).2 d (beq_iff_eq.mp e) (by show (PySem.W.lookIn name od).map _=some false;rw [hl,c];rfl) h
theorem yxR {Q:Unit->Shared->Prop}(X:K.In s.heap) (I:ObjM s.heap x dx C mA)
  (hs:findIn K (.ref C) "__setattr__" = some (some (.builtin "object.__setattr__"))) (hp:PySem.W.plainOver K C=true) (n:PySem.W.takerIn K C name=some none) (q:hasDictIn K C=true)
  (k:PySem.Within mA ns) (hsz:ns.length<=sizeLine)
  (h:∀ h',ObjM h' x dx C (fun y=>if y=name then some v else mA y)->Heap.SameBut dx s.heap h'->Q () { s with heap:=h',toks:=s.toks+2 }) :
  wpAny (model prog w) A (setAttr (.ref x) name v) Q E s:=by
 obtain ⟨od,J,hl⟩:=I.look;refine PySem.W.set_plain X J hs (PySem.W.osa_open X J hp n fun b=>?_);obtain ⟨r,p,g⟩:=PySem.W.any_some q;have m:=I.obj;refine wpAny_bind (wpAny_pure (wpAny_bind (wpAny_bind (wpAny_loadPart m (wpAny_bind (PySem.W.Looks.here (PySem.W.looks_clsIn X p) ?_))))));rw [g];refine wpAny_pure (wpAny_bind (wpAny_pure (wpAny_bind ?_)));refine wpAny_nsSet1 I.ns fun h' c d=>?_
 obtain ⟨t,o,l,i,e,j⟩:=c.count (PySem.Within.cons name v k);refine wpAny_bind (wpAny_lookBehind i (by rw [e];exact pastItsLine_dict (Nat.le_trans j (by simp_all))) ?_);exact wpAny_pure (h _ ⟨(d.2 _ (Ne.symm I.ne)).trans I.obj,c,I.ne⟩ d)
theorem yua (X:K.In s.heap) (d:makesIn K C=true)
  (g:findIn K (.ref C) "__init__" = some (some (.ref f))) (e:typeIn K (.ref f)=some (.type "function"))
  (h:codeAny (model prog w) (A.under (.builtin "type.__call__" ⟨.ref C::vs,c⟩)) (.call (.ref f) ⟨.ref (s.heap.objs.size+1)::vs,c⟩) (PySem.W.InitBack (s.heap.objs.size+1) R)
   { s with heap:=(s.heap.push emptyDict).push (instObj C s.heap.objs.size) }) :
  codeAny (model prog w) A (.call (.ref C) ⟨vs,c⟩) R s:=by
 exact PySem.W.make_core (PySem.W.makes_of X d) (PySem.W.looks_findIn X g) (fun b=>PySem.W.bind_fn X b e) (.inl rfl) h
end
noncomputable def yjX (f:Str) (v:V):List (Str×V)->List (Str×V)
 | []=>[(f,v)]
 | (g,x)::r=>if g=f then (g,v)::r else (g,x)::yjX f v r
theorem yhW f g v:∀ fs,(yjX f v fs).lookup g=if g=f then some v else fs.lookup g
 | []=>by show List.lookup g [(f,v)]=_;grind
 | (k,x)::r=>by have b:=yhW f g v r;rw [show yjX f v _=if k=f then (k,v)::r else (k,x)::yjX f v r from rfl];grind
theorem yhX f v:∀ fs,f∈(yjX f v fs).map (·.1)/\∀ g,g∈fs.map (·.1)->g∈(yjX f v fs).map (·.1)
 | []=>⟨by simp [yjX],fun g h=>by simp at h⟩
 | (k,x)::r=>by obtain ⟨c,b⟩:=yhX f v r;rw [show yjX f v _=if k=f then (k,v)::r else (k,x)::yjX f v r from rfl];grind
theorem yhY f v:∀ fs,(yjX f v fs).length<=fs.length+1
 | []=>by simp [yjX]
 | (k,x)::r=>by have b:=yhY f v r;rw [show yjX f v _=if k=f then (k,v)::r else (k,x)::yjX f v r from rfl];grind
theorem RelO.some_of (r:RelO (some v) o):∃ u,o=some u/\RelV v u:=by
 cases o with
 | none=>exact (r).elim
 | some u=>exact ⟨u,rfl,r⟩
theorem RelO.none_of (r:RelO none o):o=none:=by
 cases o with
 | none=>rfl
 | some u=>exact (r).elim
theorem yqR (r:RelV v u):PySem.W.handedIn u=true:=by
 cases v with
 | non=>cases (r);rfl
 | bl b=>cases (r);rfl
 | int i=>obtain ⟨t,e⟩:=(r);cases e;rfl
 | str x=>obtain ⟨t,e⟩:=(r);cases e;rfl
 | byt b=>obtain ⟨t,e⟩:=(r);cases e;rfl
 | flt b=>obtain ⟨t,e⟩:=(r);cases e;rfl
 | ref a=>cases (r);rfl
 | ty n=>cases (r);rfl
section
variable {P:Program}{w:World}{H H':Hp}{h h':Heap}{a C dx:Addr}{fs fs':List (Str×V)}
theorem yjY (c:HOk P w H h) (e:H a=some (.ins C dx fs)):∃ b,ObjM h a dx C b/\(∀ f,RelO (fs.lookup f) (b f))/\PySem.Within b (fs.map (·.1))/\fs.length<=1000/\H dx=some (.own a):=by
 obtain ⟨d,z,g,i,b,n,r,q⟩:=(c a _ e)
 exact ⟨b,⟨i,n,g⟩,r,q,z,d⟩
end
structure Cls (K:Frag) (C:Addr):Prop where
 pg:plainGet K C Str.empty=true
 hd:hasDictIn K C=true
 po:PySem.W.plainOver K C=true
 sa:findIn K (.ref C) "__setattr__" = some (some (.builtin "object.__setattr__"))
theorem Cls.get {K:Frag}{C:Addr}(c:Cls K C) (f:Str):plainGet K C f=true:=c.pg
noncomputable def NoAttr (K:Frag) (C:Addr) (f:Str):Prop:=findIn K (.ref C) f=some none
theorem NoAttr.taker {K:Frag}{C:Addr}{f:Str}(n:NoAttr K C f):PySem.W.takerIn K C f=some none:=by unfold PySem.W.takerIn;rw [n];rfl
structure Meth (K:Frag) (C:Addr) (m:Str) (f:Addr):Prop where
 at_:findIn K (.ref C) m=some (some (.ref f))
 fn:isFn K (.ref f)=true
 kp:keepIn K (.ref f)=true
section
variable {X:Cx}{pins:List (Addr×Obj)}{Z:St}{H:Hp}{s:Shared}{a C dx:Addr}{fs:List (Str×V)}{f:Str}{v:V}{A:Around}{E:Value->Shared->Prop}
theorem ypD {Q:Value->Shared->Prop}(I:Inv X pins Z H s) (e:H a=some (.ins C dx fs)) (c:Cls X.K C) (n:NoAttr X.K C f) (l:fs.lookup f=some v)
  (h:∀ u s',Inv X pins Z H s'->RelV v u->Q u s'):wpAny (model X.prog X.w) A (getAttr (.ref a) f b) Q E s:=by
 obtain ⟨i,O,r,_,_,_⟩:=yjY I.hok e;obtain ⟨u,g,d⟩:=RelO.some_of (by rw [<- l];exact r f);exact yxQ I.kIn O (c.get f) c.hd n g (yqR d) (h u _ (I.tok _) d)
theorem ygQ {pl:Sem Bool}{Q:Value×List Value->Shared->Prop}(I:Inv X pins Z H s) (e:H a=some (.ins C dx fs)) (c:Cls X.K C) (k:Meth X.K C m g) (l:fs.lookup m=none)
  (h:Q (.ref g,[.ref a]) s):wpAny (model X.prog X.w) A (getMethod (.ref a) m pl) Q E s:=by
 obtain ⟨d,O,r,_,_,_⟩:=yjY I.hok e;have b:=RelO.none_of (by rw [<- l];exact r m);exact ytZ I.kIn O (c.get m) k.at_ k.fn b h
theorem ypE {Q:Unit->Shared->Prop}(I:Inv X pins Z H s) (e:H a=some (.ins C dx fs)) (c:Cls X.K C) (n:NoAttr X.K C f) (hl:fs.length<1000) (w:RelV y u)
  (h:∀ s',Inv X pins Z (upd H a (.ins C dx (yjX f y fs))) s'->Q () s'):wpAny (model X.prog X.w) A (setAttr (.ref a) f u) Q E s:=by
 obtain ⟨x,O,r,i,_,j⟩:=yjY I.hok e;have hz:(fs.map (·.1)).length<=sizeLine:=by rw [length_map,sizeLine_eq];omega
 refine yxR I.kIn O c.sa c.po n.taker c.hd i hz fun h' d m=>h _ ?_
 have t:∃ o,h'.get? dx=some o:=let ⟨o,_,_,k,_⟩:=d.ns;⟨o,k⟩
 refine I.write (by rw [e];exact True.intro) (.inr j) (fun b q l z=>(m.2 b l).trans z) t ?_;refine ⟨by rw [yR O.ne];exact j,?_,O.ne,d.obj,_,d.ns,fun g=>?_,fun g p=>?_⟩
 .have:=yhY f y fs;omega
 .rw [yhW]
  by_cases q:g=f
  .rw [if_pos q,if_pos q];exact w
  simp_all
 .by_cases q:g=f
  .rw [q];exact (yhX f y fs).1
  .refine (yhX f y fs).2 g (i g fun z=>p ?_);grind
theorem Inv.made (I:Inv X pins Z H s):Inv X pins Z (upd (upd H s.heap.objs.size (.own (s.heap.objs.size+1))) (s.heap.objs.size+1) (.ins C s.heap.objs.size []))
  { s with heap:=(s.heap.push emptyDict).push (instObj C s.heap.objs.size) }:=by
 have d:(s.heap.push emptyDict).get? s.heap.objs.size=some emptyDict:=Heap.get?_push_size s.heap rfl;have h:=by have:=Heap.get?_push_size (s.heap.push emptyDict) (o:=instObj C s.heap.objs.size) rfl;rwa [Heap.size_push] at this
 have j:(s.heap.push emptyDict).Ns s.heap.objs.size _:=⟨emptyDict,#[],_,d,rfl,fun e g=>absurd g (by simp),fun _=>rfl⟩
 have k:=I.laid (o:=.own (s.heap.objs.size+1)) (t':=s.toks) (fun b u q=>Heap.get?_push_of_some _ q) (Nat.le_refl _) ⟨_,d⟩;refine k.laid (fun b u q=>Heap.get?_push_of_some _ q) (le_of_eq (Heap.size_push _ _)) ?_;have c:s.heap.objs.size≠s.heap.objs.size+1:=ne_of_lt (Nat.lt_succ_self _);refine ⟨by rw [yR c,yP],zero_le _,c,h,_,(Heap.Ns1.of_empty j).at fun o q=>Heap.get?_push_of_some _ q,fun _=>True.intro,fun y i=>absurd rfl i⟩
theorem yxS {f:Str}{s:Shared}{Q:Value->Shared->Prop}(c:attributeBase e f env (eval e env)=eval e env)
  (h:wpAny (model prog w) A (eval e env) (fun o b=>wpAny (model prog w) A (getAttr o f true) Q E b) E s):wpAny (model prog w) A (eval (.Attribute e f pos) env) Q E s :=
 Attribute_any_ h (by rw [arm_eval_Attribute,c])
end
def yGq (K:Frag) (ta:TE) (f:Str):TE:=fun Z H Q=>ta Z H fun x H1=>∃ a C dx fs v,x=.ref a/\H1 a=some (.ins C dx fs)/\Cls K C/\NoAttr K C f/\fs.lookup f=some v/\Q v H1
def yEq (K:Frag) (ta tv:TE) (f:Str):TS:=fun D Z H=>tv Z H fun y H1=>ta Z H1 fun x H2=>∃ a C dx fs,x=.ref a/\H2 a=some (.ins C dx fs)/\Cls K C/\NoAttr K C f/\fs.length<1000 /\
 D.nx Z (upd H2 a (.ins C dx (yjX f y fs)))
section
variable {X:Cx}{o e value:Expr}{f:Str}{pos pos' tpos:Pos}{ta tv:TE}
theorem yBf (i:PE X e ta) (j:attributeBase e f X.env (eval e X.env)=eval e X.env):PE X (.Attribute e f pos) (yGq X.K ta f):=by intro d s Z H Q I h;refine yxS j (thn (i d s Z H _ I h) fun u s1 ⟨x,m,w,p,a,C,z,fs,v,g,r,c,n,l,q⟩=>?_);subst g;obtain rfl:u=Value.ref a:=p;exact ypD w r c n l fun y s2 k t=>⟨v,m,k,t,q⟩
theorem ywB (p:PE X o ta) (j:PE X value tv) (hs:swapsWith value (some (.Attribute o f pos')) pos.line X.env=pure false):PS X (.Assign [.Attribute o f pos'] value pos) (yEq X.K ta tv f):=by intro d s Z H D I h;refine plainObj_wpAny_Assign_Attribute (thn (j d s Z H _ I h) fun u s1 ⟨y,w,t,g,q⟩=>thn (p d s1 Z w _ t q) fun A s2 ⟨x,E,k,r,a,C,B,fs,v,i,c,n,l,m⟩=>?_) hs;subst v;obtain rfl:A=Value.ref a:=r;exact ypE k i c n l g fun s3 z=>⟨Z,_,z,m⟩
end
section
variable {X:Cx}{pins:List (Addr×Obj)}{Z:St}{H:Hp}{s:Shared}{A:Around}{E:Value->Shared->Prop}{Q:Value->Shared->Prop}{c:Value}{b:Bool}
inductive yov (K:Frag) (H:Hp):V->Value->Prop where
 | non:yov K H .non (.type "NoneType")
 | bl (x:Bool):yov K H (.bl x) (.type "bool")
 | int (i:Int):yov K H (.int i) (.type "int")
 | str (x:Str):yov K H (.str x) (.type "str")
 | flt (x:UInt64):yov K H (.flt x) (.type "float")
 | lst {a:Addr}{xs:List V}(e:H a=some (.lst xs)):yov K H (.ref a) (.type "list")
 | frz {a:Addr}{o:Obj}{xs:List V}(e:H a=some (.frz o (.lst xs))):yov K H (.ref a) (.type "list")
 | tup {a:Addr}{xs:List V}(e:H a=some (.tup xs)):yov K H (.ref a) (.type "tuple")
 | kt {a:Addr}{o:Obj}(e:K.lookup a=some o) (c:o.cls=.type "tuple"):yov K H (.ref a) (.type "tuple")
 | dK {a:Addr}{kvs:List (Key×V)}(e:H a=some (.dK kvs)):yov K H (.ref a) (.type "dict")
 | dT {a:Addr}{kvs:List (List Key×V)}(e:H a=some (.dT kvs)):yov K H (.ref a) (.type "dict")
 | ins {a C dx:Addr}{fs:List (Str×V)}(e:H a=some (.ins C dx fs)) (cl:Cls K C) (ha:findIn K (.ref C) "__class__" = some (some (.builtin "object.__class__")))
   (hn:PySem.W.specialIn K (.builtin "object.__class__") "__get__" = some (some (.builtin "getset_descriptor.__get__"))) (htk:PySem.W.takesIn K (.builtin "object.__class__")=some true)
   (hm:mroIn K C (.type "object")=some true):yov K H (.ref a) (.ref C)
theorem yqS (I:Inv X pins Z H s) (d:RelV x u) (f:yov X.K H x t) (e:PySem.W.kitOne X.K t c=some b) (h:∀ g,Q (.bool b) { s with toks:=g }) :
  wpAny (model X.prog X.w) A (call (.builtin "isinstance") [u,c]) Q E s:=by
 cases f with
 | non=>cases (d);exact kia_one PySem.W.kitx_none I.kIn True.intro e (fun z=>nomatch z) h
 | bl y=>cases (d);exact kia_one PySem.W.kitx_bool I.kIn True.intro e (fun z=>nomatch z) h
 | int i=>obtain ⟨t,q⟩:=(d);cases q;exact kia_one PySem.W.kitx_int I.kIn True.intro e (fun z=>nomatch z) h
 | str y=>obtain ⟨t,q⟩:=(d);cases q;exact kia_one PySem.W.kitx_str I.kIn True.intro e (fun z=>nomatch z) h
 | flt y=>obtain ⟨t,q⟩:=(d);cases q;exact kia_one PySem.W.kitx_float I.kIn True.intro e (fun z=>nomatch z) h
 | @lst a xs ea =>
  cases (d);obtain ⟨_,_,n,_,h1⟩:=(I.hok a _ ea)
  exact kia_one PySem.W.kitx_list I.kIn ⟨_,h1,rfl⟩ e (fun z=>nomatch z) h
 | @frz a ob xs ea =>
  cases (d);obtain ⟨_,_,_,n,_,h1⟩:=(I.hok a _ ea)
  exact kia_one PySem.W.kitx_list I.kIn ⟨_,h1,rfl⟩ e (fun z=>nomatch z) h
 | @tup a xs ea =>
  cases (d);obtain ⟨_,_,_,p⟩:=(I.hok a _ ea)
  obtain ⟨o,h1,h2,_⟩:=p;exact kia_one PySem.W.kitx_tuple I.kIn ⟨o,h1,h2⟩ e (fun z=>nomatch z) h
 | @kt a ob ek ck =>
  cases (d);exact kia_one PySem.W.kitx_tuple I.kIn ⟨ob,I.kIn a ob ek,ck⟩ e (fun z=>nomatch z) h
 | @dK a kvs ea =>
  cases (d);obtain ⟨_,_,vs,_,p⟩:=(I.hok a _ ea)
  obtain ⟨o,es,ep,h1,h2,_⟩:=p;exact kia_one PySem.W.kitx_dict I.kIn ⟨o,h1,h2.1⟩ e (fun z=>nomatch z) h
 | @dT a kvs ea =>
  cases (d);obtain ⟨_,_,xs,_,o,es,ep,h1,h2,_⟩:=(I.hok a _ ea)
  exact kia_one PySem.W.kitx_dict I.kIn ⟨o,h1,h2.1⟩ e (fun z=>nomatch z) h
 | @ins a C dx fs ea cl ha hn htk hm =>
  cases (d);obtain ⟨j,O,_⟩:=yjY I.hok ea;obtain ⟨od,J,_⟩:=O.look;exact kia_one (PySem.W.kitx_own (cl.get _) cl.hd ha hn htk hm) I.kIn J e (fun z=>nomatch z) h
end
structure Room (k:Nat) (A:Around):Prop where
 hd:A.handled=none
 dp:A.depth+3*k+5<recursionLimit
 un:A.units+16*k+200<cLine
theorem Room.mono (r:Room k A) (h:j<=k):Room j A:=⟨r.hd,by have:=r.dp;omega,by have:=r.un;omega⟩
theorem Room.deeper (r:Room (k+1) A) env:Room k (A.deeper env) :=
 ⟨r.hd,by have:=r.dp;show A.depth+1+3*k+5<_;omega,by have:=r.un;show A.units+3+16*k+200<_;omega⟩
theorem ypF {A:Around}:(A.under (.builtin "type.__call__" ⟨.ref C::us,kw⟩)).depth=A.depth+1:=by first|rfl|simp [Around.under,Code.weight,Code.isCreation,Code.isGuard,Code.isCaller,Code.frames,Code.isFrame,guardIds]
theorem ypG {A:Around}:(A.under (.builtin "type.__call__" ⟨.ref C::us,kw⟩)).units=A.units+1:=by first|rfl|simp [Around.under,Code.cUnits,Code.frames,Code.isFrame]
theorem Room.make (r:Room (k+1) A) C us b:Room k (A.under (.builtin "type.__call__" ⟨.ref C::us,b⟩)) :=
 ⟨r.hd,by have:=r.dp;rw [ypF];omega,by have:=r.un;rw [ypG];omega⟩
theorem Room.depth (r:Room k A):A.depth<recursionLimit:=by have:=r.dp;omega
theorem Room.units (r:Room k A):A.units+64<cLine:=by have:=r.un;omega
def ywC:TA:=fun _ H Q=>Q [] H
noncomputable def yna (ta:TE) (tr:TA):TA:=fun Z H Q=>ta Z H fun x H1=>tr Z H1 fun xs H2=>Q (x::xs) H2
section
variable {X:Cx}{e:Expr}{es:List Expr}{te:TE}{t:TA}{pos:Pos}
theorem yjz:PA X [] ywC:=fun _ _ _ _ H Q I h=>Calls.spliced_nil ⟨[],H,I,.nil,h⟩
theorem yfS (m:PE X e te) (j:PA X es t) (hs:starEach (e::es) X.env=(false,eval e X.env)::starEach es X.env:=by rfl):PA X (e::es) (yna te t):=by intro pos b s Z H Q I h;rw [hs];show wpAny _ _ (spliced ((false,eval e X.env)::backTo pos _)) _ _ s;exact Calls.spliced_cons (thn (m b s Z H _ I h) fun u s1 ⟨x,g,l,c,d⟩=>thn (j pos b s1 Z g _ l d) fun us s2 ⟨xs,i,k,r2,f⟩=>⟨x::xs,i,k,.cons c r2,f⟩)
def yGr (t:TA):TE:=fun Z H Q=>t Z H fun xs H1=>xs.length<=sizeLine/\∀ p,H1 p=none->Q (.ref p) (upd H1 p (.tup xs))
def yGs (t:TA):TE:=fun Z H Q=>t Z H fun xs H1=>xs.length<=sizeLine/\∀ p,H1 p=none->Q (.ref p) (upd H1 p (.lst xs))
theorem yBg {x1} (h:PA X es t):PE X (.Tuple es x1 pos) (yGr t):=by intro c s Z H Q I g;refine wpAny_Tuple_spliced (thn (h pos c s Z H _ I g) fun us s1 ⟨xs,i,d,r,z,q⟩=>⟨by rw [<- r.length];exact z,?_⟩);have f:=d.hok.fresh (Nat.le_refl _);refine ⟨.ref s1.heap.objs.size,_,d.laid (fun b u e=>Heap.get?_push_of_some _ e) (Nat.le_refl _) ?_,rfl,q _ f⟩;exact ⟨z,us,r,⟨_,Heap.get?_push_size _ rfl,rfl,_,rfl⟩⟩
theorem yBh (h:PA X es t):PE X (.List es pos) (yGs t):=by intro c s Z H Q I g;refine wpAny_List_spliced (thn (h pos c s Z H _ I g) fun us s1 ⟨xs,i,d,r,z,q⟩=>⟨by rw [<- r.length];exact z,?_⟩);have f:=d.hok.fresh (Nat.le_refl _);refine ⟨.ref s1.heap.objs.size,_,d.laid (fun b u e=>Heap.get?_push_of_some _ e) (Nat.le_refl _) ?_,rfl,q _ f⟩;exact ⟨z,us,0,r,Heap.get?_push_size _ rfl⟩
end
abbrev Sp:=List V->Hp->VK->XK->Prop
abbrev CXT:=List Env->Hp->Shared->XK->Value->Shared->Prop
structure Env0 (P:Program) (w:World) (K:Frag) (mg:Str->Option Value) (base:Heap) (A:Around) (outer:List Env) (s:Shared) (H:Hp):Prop where
 frames:A.frames=some outer
 mod:Mod K mg base
 bs:∀ b o,base.get? b=some o->s.heap.get? b=some o/\H b=none
 bsz:base.objs.size<=s.heap.objs.size
 funs:s.heap.FunFrames base outer
 frf:∀ b∈frs outer,H b=none
 hok:HOk P w H s.heap
 bare:AllBare s.gens
def CE (outer:List Env) (P:Program) (w:World) (H:Hp) (s:Shared) (Q:VK) (u:Value) (s':Shared):Prop :=
 ∃ v H',s'.os=s.os/\AllBare s'.gens/\Un (frs outer) [] H H' s.heap s'.heap/\HOk P w H' s'.heap/\RelV v u/\Q v H'
def CR (CX:CXT) (outer:List Env) (P:Program) (w:World) (H:Hp) (s:Shared) (Q:VK) (E:XK) (r:Result) (s':Shared):Prop :=
 match r with
 | .ok (.ret u)=>CE outer P w H s Q u s'
 | .ok _=>False
 | .error e=>CX outer H s E e s'
structure FnOk (P:Program) (w:World) (K:Frag) (mg:Str->Option Value) (base:Heap) (CX:CXT) (k:Nat) (f:Addr) (fd:FuncData) (ps:List Str) (sp:Sp):Prop where
 len:∀ vs H Q E,sp vs H Q E->vs.length=ps.length
 run:∀ (A:Around) (outer:List Env) (s:Shared) (H:Hp) (args:Args) (us:List Value) (vs:List V) (Q:VK) (E:XK),Room k A->Env0 P w K mg base A outer s H->BindsTo s fd args (ps.zip us)->Vals vs us->sp vs H Q E ->
  codeAny (model P w) A (.call (.ref f) args) (CR CX outer P w H s Q E) s
theorem FnOk.mono {P:Program}{w:World}{K:Frag}{c:Str->Option Value}{base:Heap}{CX:CXT}{j k:Nat}{f:Addr}{b:FuncData}{ps:List Str}{sp:Sp}(F:FnOk P w K c base CX j f b ps sp) (h:j<=k) :
  FnOk P w K c base CX k f b ps sp:=⟨F.len,fun A outer s H args us vs Q E d=>F.run A outer s H args us vs Q E (d.mono h)⟩
theorem FnOk.imp {P:Program}{w:World}{K:Frag}{c:Str->Option Value}{base:Heap}{CX:CXT}{k:Nat}{f:Addr}{d:FuncData}{ps:List Str}{sp b:Sp}(F:FnOk P w K c base CX k f d ps sp)
  (h:∀ vs H Q E,b vs H Q E->sp vs H Q E):FnOk P w K c base CX k f d ps b :=
 ⟨fun vs H Q E q=>F.len vs H Q E (h _ _ _ _ q),fun A outer s H args us vs Q E i j g e hs=>F.run A outer s H args us vs Q E i j g e (h _ _ _ _ hs)⟩
theorem Env0.make {P:Program}{w:World}{K:Frag}{b:Str->Option Value}{base:Heap}{A:Around}{outer:List Env}{s:Shared}{H:Hp}(e:Env0 P w K b base A outer s H) C us c :
  Env0 P w K b base (A.under (.builtin "type.__call__" ⟨.ref C::us,c⟩)) outer s H:=⟨by first|exact e.frames|omega,e.mod,e.bs,e.bsz,e.funs,e.frf,e.hok,e.bare⟩
section
variable {X:Cx}{pins:List (Addr×Obj)}{Z:St}{H:Hp}{s s':Shared}
theorem Inv.env0 (I:Inv X pins Z H s):Env0 X.prog X.w X.K X.mg X.base X.A X.stack s H :=
 ⟨I.ok.frames,I.ok.mod,I.bs,Nat.le_trans I.ok.bsz I.sz,I.stack,I.stkFree,I.hok,I.bare⟩
theorem Inv.after {Q:VK}(I:Inv X pins Z H s) (h:CE X.stack X.prog X.w H s Q u s'):EP X pins Z Q u s':=by obtain ⟨v,f,os,a,i,e,r,q⟩:=h;obtain ⟨j,g,d,t,c⟩:=s';obtain rfl:c=s.os:=os;exact ⟨v,f,I.call i e a fun b z=>absurd z (by simp),r,q⟩
end
noncomputable def yub (sp:Sp) (dvs:List V) (E:XK) (t:TA):TE:=fun Z H Q=>t Z H fun vs H1=>sp (vs++dvs) H1 Q E
def yxT (C:Addr) (m:Str) (sp:Sp) (dvs:List V) (E:XK) (ta:TE) (t:TA):TE:=fun Z H Q=>ta Z H fun x H1=>∃ a dx fs,x=.ref a/\H1 a=some (.ins C dx fs)/\fs.lookup m=none /\
 t Z H1 fun vs H2=>sp (x::(vs++dvs)) H2 Q E
def yuc (C:Addr) (sp:Sp) (dvs:List V) (E:XK) (t:TA):TE:=fun Z H Q=>t Z H fun vs H1=>∀ x dx,H1 x=none->H1 dx=none->dx≠x ->
 sp (.ref x::(vs++dvs)) (upd (upd H1 dx (.own x)) x (.ins C dx [])) (fun v H2=>v=.non/\Q (.ref x) H2) E
noncomputable def Binds (K:Frag) (fd:FuncData) (ps:List Str) (ds:List Value):Prop :=
 ∀ (s:Shared) (us:List Value),K.In s.heap->(us++ds).length=ps.length->BindsTo s fd ⟨us,[]⟩ (ps.zip (us++ds))
theorem Binds.all {K:Frag}{fd:FuncData}{ps:List Str}(h:∀ us:List Value,us.length=ps.length->bindArgs fd ⟨us,[]⟩=pure (ps.zip us)):Binds K fd ps []:=fun s us _ hl=>by rw [append_nil] at hl ⊢;exact .of_eq (h us hl)
def ygq (CX:CXT) (X:Cx) (E:XK):Prop:=∀ (pins:List (Addr×Obj)) (Z:St) (H:Hp) (s:Shared) (e:Value) (s':Shared),Inv X pins Z H s->CX X.stack H s E e s'->X.xe e s'
section
variable {X:Cx}{CX:CXT}{k:Nat}{f C:Addr}{fd:FuncData}{ps:List Str}{sp:Sp}{dvs:List V}{ds:List Value}{E:XK}{x m:Str}{p pos apos:Pos}{e o:Expr}{es:List Expr}{ta:TE}{t:TA}
theorem ylo {b:List _}{Z:St}{H:Hp}{s:Shared}{Q:VK}{us:List Value}{vs:List V}(F:FnOk X.prog X.w X.K X.mg X.base CX k f fd ps sp) (j:Room k X.A) (i:Binds X.K fd ps ds) (d:Vals dvs ds) (g:ygq CX X E)
  (I:Inv X b Z H s) (r:Vals vs us) (h:sp (vs++dvs) H Q E):wpAny (model X.prog X.w) X.A (call (.ref f) us) (EP X b Z Q) X.xe s:=by
 have r2:=r.append d;have hl:(us++ds).length=ps.length:=by rw [<- r2.length];exact F.len _ _ _ _ h
 refine wpAny_call (codeAny_mono (F.run X.A X.stack s H _ _ _ Q E j I.env0 (i s us I.kIn hl) r2 h) fun r s' c=>?_);cases r with
 | error e=>exact g b Z H s e s' I c
 | ok fl =>
  cases fl with
  | ret u=>exact I.after c
  | next=>exact False.elim c
  | brk=>exact False.elim c
  | cont=>exact False.elim c
theorem yxU (F:FnOk X.prog X.w X.K X.mg X.base CX k f fd ps sp) (j:Room k X.A) (u:Gl X x) (i:X.mg x=some (.ref f)) (n:keepIn X.K (.ref f)=true) (l:Binds X.K fd ps ds) (z:Vals dvs ds) (y:ygq CX X E)
  (w:PA X (e::es) t) (d:(x == "__debug__")=false:=by decide) (v:starEach (e::es) X.env=(false,eval e X.env)::starEach es X.env:=by rfl) (c:(backTo pos (starEach es X.env)).any (·.1)=false:=by rfl) :
  PE X (.Call (.Name x p) (e::es) [] pos) (yub sp dvs E t):=by
 intro b s Z H Q I h;refine wpAny_Call_Name_kw (yhV I u i ?_ d);refine PySem.W.callWith_K I.ok.mod.kin n (thn (w pos b s Z H _ I h) fun us s1 ⟨vs,A,g,r,q⟩=>⟨g.kIn,?_⟩) v c;exact ylo F j l z y g r q
theorem yxV {pl:Sem Bool}(L:PE X o ta) (c:Cls X.K C) (w:Meth X.K C m f) (F:FnOk X.prog X.w X.K X.mg X.base CX k f fd ps sp) (A:Room k X.A) (z:Binds X.K fd ps ds) (O:Vals dvs ds) (G:ygq CX X E) (M:PA X (e::es) t)
  (i:starEach (e::es) X.env=(false,eval e X.env)::starEach es X.env:=by rfl) (g:(backTo pos (starEach es X.env)).any (·.1)=false:=by rfl)
  (D:eval (.Call (.Attribute o m apos) (e::es) [] pos) X.env=(do
   let n <- eval o X.env
   standAt apos.atName
   let (f,first) <- holding [n] (getMethod n m pl)
   callWith pos f first (backTo pos (starEach (e::es) X.env)) (backToKw pos (keywordEach [] X.env))):=by rfl) :
  PE X (.Call (.Attribute o m apos) (e::es) [] pos) (yxT C m sp dvs E ta t):=by
 intro d s Z H Q I h;refine PySem.W.methodCall_KW (thn (L d s Z H _ I h) fun u s1 ⟨x,P,j,B,a,S,fs,y,N,l,q⟩=>?_) D;subst y;obtain rfl:u=Value.ref a:=B;refine ygQ j N c w l ?_;refine PySem.W.callWith_K I.ok.mod.kin w.kp (thn (M pos d s1 Z P _ j q) fun us s2 ⟨vs,R,v,r,J⟩=>⟨v.kIn,?_⟩) i g;exact ylo (vs:=.ref a::vs) F A z O G v (.cons rfl r) J
theorem yud {pl:Sem Bool}(B:PE X o ta) (c:Cls X.K C) (i:Meth X.K C m f) (F:FnOk X.prog X.w X.K X.mg X.base CX k f fd ps sp) (v:Room k X.A) (r:Binds X.K fd ps ds) (n:Vals dvs ds) (A:ygq CX X E)
  (y:eval (.Call (.Attribute o m apos) [] [] pos) X.env=(do
   let j <- eval o X.env
   standAt apos.atName
   let (f,first) <- holding [j] (getMethod j m pl)
   callWith pos f first (backTo pos (starEach [] X.env)) (backToKw pos (keywordEach [] X.env))):=by rfl) :
  PE X (.Call (.Attribute o m apos) [] [] pos) (yxT C m sp dvs E ta ywC):=by
 intro d s Z H Q I h;refine PySem.W.methodCall_KW (thn (B d s Z H _ I h) fun u s1 ⟨x,G,g,w,a,J,fs,D,z,l,q⟩=>?_) y;subst D;obtain rfl:u=Value.ref a:=w;refine ygQ g z c i l ?_;exact PySem.W.callWith_K0 g.kIn i.kp (ylo (us:=[.ref a]) (vs:=[.ref a]) F v r n A g (.cons rfl .nil) q)
structure Mk (K:Frag) (C f:Addr):Prop where
 makes:makesIn K C=true
 init:findIn K (.ref C) "__init__" = some (some (.ref f))
 fn:isFn K (.ref f)=true
 kp:keepIn K (.ref C)=true
theorem yow {c:List _}{Z:St}{H:Hp}{s:Shared}{Q:VK}{us:List Value}{vs:List V}(M:Mk X.K C f) (F:FnOk X.prog X.w X.K X.mg X.base CX k f fd ps sp) (A:Room (k+1) X.A) (q:Binds X.K fd ps ds) (B:Vals dvs ds)
  (y:ygq CX X E) (I:Inv X c Z H s) (r:Vals vs us)
  (h:∀ x d,H x=none->H d=none->d≠x->sp (.ref x::(vs++dvs)) (upd (upd H d (.own x)) x (.ins C d [])) (fun v z=>v=.non/\Q (.ref x) z) E) :
  wpAny (model X.prog X.w) X.A (call (.ref C) us) (EP X c Z Q) X.xe s:=by
 have i:=h _ s.heap.objs.size (I.hok.fresh (Nat.le_succ _)) (I.hok.fresh (Nat.le_refl _)) (ne_of_lt (Nat.lt_succ_self _));have g:=Inv.made (C:=C) I;have r2:Vals (V.ref (s.heap.objs.size+1)::(vs++dvs)) _:=.cons rfl (r.append B);have hl:=by have e:=r2.length;rw [F.len _ _ _ _ i] at e;exact e.symm
 refine wpAny_call (yua I.kIn M.makes M.init (beq_iff_eq.mp M.fn) (codeAny_mono (F.run _ X.stack _ _ _ _ _ _ E (A.make C us [])
  (g.env0.make C us []) (q _ _ g.kIn hl) r2 i) fun r s' b=>?_))
 cases r with
 | error e=>exact y c Z _ _ e s' g b
 | ok fl =>
  cases fl with
  | ret u =>
   obtain ⟨v,w,n,j,ev,l⟩:=g.after b;subst ev;exact ⟨j,⟨V.ref _,w,n,rfl,l⟩⟩
  | next=>exact False.elim b
  | brk=>exact False.elim b
  | cont=>exact False.elim b
theorem yqT (M:Mk X.K C f) (F:FnOk X.prog X.w X.K X.mg X.base CX k f fd ps sp) (w:Room (k+1) X.A) (n:Gl X x) (i:X.mg x=some (.ref C)) (j:Binds X.K fd ps ds) (y:Vals dvs ds) (l:ygq CX X E)
  (v:PA X (e::es) t) (d:(x == "__debug__")=false:=by decide) (u:starEach (e::es) X.env=(false,eval e X.env)::starEach es X.env:=by rfl) (c:(backTo pos (starEach es X.env)).any (·.1)=false:=by rfl) :
  PE X (.Call (.Name x p) (e::es) [] pos) (yuc C sp dvs E t):=by
 intro b s Z H Q I h;refine wpAny_Call_Name_kw (yhV I n i ?_ d);refine PySem.W.callWith_K I.ok.mod.kin M.kp (thn (v pos b s Z H _ I h) fun us s1 ⟨vs,z,g,r,q⟩=>⟨g.kIn,?_⟩) u c;exact yow M F w j y l g r q
theorem yue (M:Mk X.K C f) (F:FnOk X.prog X.w X.K X.mg X.base CX k f fd ps sp) (j:Room (k+1) X.A) (d:Gl X x) (g:X.mg x=some (.ref C)) (i:Binds X.K fd ps ds) (n:Vals dvs ds) (l:ygq CX X E)
  (b:(x == "__debug__")=false:=by decide):PE X (.Call (.Name x p) [] [] pos) (yuc C sp dvs E ywC):=by
 intro c s Z H Q I h;exact wpAny_Call_Name_kw (yhV I d g (PySem.W.callWith_K0 I.kIn M.kp (yow (us:=[]) M F j i n l I .nil h)) b)
end
structure yeE (N P:List Str) (sc:Scope):Prop where
 kind:sc.kind=.function
 co:sc.isCoroutine=false
 gen:sc.isGenerator=false
 nd:N.Nodup
 pre:N.take P.length=P
 par:∀ x∈P,sc.names.lookup x=some .local \/ sc.names.lookup x=some .cell
 nofree:∀ y∈sc.names,y.2≠.free
theorem ylp {kindOf:Str->Option NameKind}{x:Str}:∀ {b:List _}{m:Str->Option Value},(∀ v,(x,v)∉b)->bindL kindOf b m x=m x
 | [],_,_=>rfl
 | (n,v)::r,m,h=>by
  unfold bindL;rw [ylp fun w c=>h w (mem_cons_of_mem _ c)];split
  .have:x≠n:=by rintro rfl;exact h v mem_cons_self
   simp [this]
  .rfl
theorem ylq {kindOf:Str->Option NameKind}{x:Str}:∀ {b:List _}{m:Str->Option Value},(∀ v,(x,v)∉b)->bindC kindOf b m x=m x
 | [],_,_=>rfl
 | (n,v)::r,m,h=>by
  unfold bindC;rw [ylq fun w c=>h w (mem_cons_of_mem _ c)];split
  .rfl
  grind
theorem ylr {kindOf:Str->Option NameKind}{x:Str}{v:Value}:∀ {P:List Str}{vs:List Value}{i:Nat}{m:Str->Option Value},P.Nodup->P[i]?=some x->vs[i]?=some v->kindOf x=some .local ->
  bindL kindOf (P.zip vs) m x=some v
 | [],_,_,_,_,h,_,_=>by simp at h
 | _::_,[],_,_,_,_,h,_=>by simp at h
 | p::P,w::vs,0,m,c,h1,h2,b=>by simp at h1 h2;subst h1;subst h2;show bindL kindOf ((p,w)::P.zip vs) m p=_;unfold bindL;rw [ylp fun v d=>(List.nodup_cons.mp c).1 (of_mem_zip d).1,if_pos b];simp
 | p::P,w::vs,i+1,m,c,h1,h2,b=>by unfold bindL;exact ylr (List.nodup_cons.mp c).2 (by simpa using h1) (by simpa using h2) b
theorem yls {kindOf:Str->Option NameKind}{x:Str}{v:Value}:∀ {P:List Str}{vs:List Value}{i:Nat}{m:Str->Option Value},P.Nodup->P[i]?=some x->vs[i]?=some v->kindOf x≠some .local ->
  bindC kindOf (P.zip vs) m x=some v
 | [],_,_,_,_,h,_,_=>by simp at h
 | _::_,[],_,_,_,_,h,_=>by simp at h
 | p::P,w::vs,0,m,c,h1,h2,b=>by simp at h1 h2;subst h1;subst h2;show bindC kindOf ((p,w)::P.zip vs) m p=_;unfold bindC;rw [ylq fun v d=>(List.nodup_cons.mp c).1 (of_mem_zip d).1,if_neg b];simp
 | p::P,w::vs,i+1,m,c,h1,h2,b=>by unfold bindC;exact yls (List.nodup_cons.mp c).2 (by simpa using h1) (by simpa using h2) b
noncomputable def start (N:List Str) (vs:List V):St:=vs.map some++replicate (N.length-vs.length) none
noncomputable def yuf (CX:CXT) (P:Program) (w:World) (K:Frag) (mg:Str->Option Value) (base:Heap) (N:List Str) (qual:Str) (scope:Scope) (f:Addr) (cd:Value) (A:Around) (outer:List Env) (s:Shared) (H:Hp) (E:XK):Cx where
 prog:=P
 w:=w
 K:=K
 mg:=mg
 base:=base
 A:=A.deeper (envOfC qual scope s.heap.objs.size f cd)
 N:=N
 s₀:=s
 H₀:=H
 env:=envOfC qual scope s.heap.objs.size f cd
 outer:=outer
 stack:=envOfC qual scope s.heap.objs.size f cd::outer
 ex:=[]
 calm:=true
 fn:=fun _=>true
 pn:=[]
 xe:=fun e s'=>wpAny (model P w) (A.deeper (envOfC qual scope s.heap.objs.size f cd)) (leaving (envOfC qual scope s.heap.objs.size f cd) e) (fun _ s''=>CX outer H s E e s'') (fun e' s''=>CX outer H s E e' s'') s'
theorem yox {b:Scope}(h:b.names.lookup x=some .cell):∃ c,(cellsFrom n b.names []).lookup x=some c:=by have q:=PySem.W.cellsFrom_some b.names n [] (.inl h);exact Option.isSome_iff_exists.mp q
theorem yqU {CX:CXT}{P:Program}{w:World}{K:Frag}{t:Str->Option Value}{base:Heap}{N ps:List Str}{d:Str}{scope:Scope}{f:Addr}{o:Value}{A:Around}{outer:List Env}{s s1:Shared}{H:Hp}{E:XK}{us:List Value}{vs:List V}
  (S:yeE N ps scope) (G:A.handled=none) (g:Env0 P w K t base A outer s H) (hl:vs.length=ps.length) (r:Vals vs us)
  (x:InCallC s s.heap.objs.size (bindL (envOfC d scope s.heap.objs.size f o).kindOf (ps.zip us) fun _=>none) (cellsFrom (s.heap.objs.size+1) scope.names []) (bindC (envOfC d scope s.heap.objs.size f o).kindOf (ps.zip us) fun _=>none) s1) :
  Inv (yuf CX P w K t base N d scope f o A outer s H E) [] (start N vs) H s1:=by
 have F:ps.length<=N.length:=by have:=congrArg length S.pre;grind
 obtain ⟨h1,J,rfl,B⟩:=x.done;have j:∀ b:Addr,b∉(yuf CX P w K t base N d scope f o A outer s H E).ex:=fun b z=>absurd (show b∈([]:List Addr) from z) (by simp)
 refine ⟨⟨g.mod,S.kind,rfl,rfl,Nat.le_refl _,fun y z c h1 h2=>?_,fun y l=>?_,fun y c _ h=>?_,fun _=>G,Around.frames_deeper g.frames,.inr ⟨rfl,rfl⟩,fun b z=>absurd z (j b),g.bs,g.bsz,fun b _ _=>j b,fun b z=>absurd z (j b),g.funs,g.frf⟩,
  rfl,g.bare,Un.kept B,⟨_,x.toInCall.ns,fun i y v h1 h2 L=>?_⟩,fun y c h=>⟨_,x.cell y c h⟩,g.hok.fresh (Nat.le_refl _),fun y c h=>?_,fun p hp=>absurd (show p∈[] from hp) (by simp),g.hok.kept B,?_⟩
 .exact name_of_addr x.apart (PySem.mem_of_lookup h1) (PySem.mem_of_lookup h2)
 .rcases l with l|l
  .exact yox l
  .exact absurd rfl (S.nofree _ (PySem.mem_of_lookup l))
 .exact le_of_lt (x.above y c (PySem.mem_of_lookup h))
 .have n:i<vs.length:=by
   unfold start at h2
   by_cases n:i<vs.length
   .exact n
   .rw [getElem?_append_right (by simpa using n)] at h2;rw [getElem?_replicate] at h2;split at h2<;>cases h2
  have I:vs[i]?=some v:=by unfold start at h2;rw [getElem?_append_left (by simpa using n),getElem?_map] at h2;simp_all
  obtain ⟨u,C,D⟩:=r.get I;have hp:ps[i]?=some y:=by rw [<- S.pre,List.getElem?_take_of_lt (by omega)];exact h1
  have m:ps.Nodup:=by rw [<- S.pre];exact S.nd.sublist (List.take_sublist _ _)
  refine ⟨u,D,?_⟩;rcases S.par y (mem_of_getElem? hp) with k|k
  .exact .inl ⟨k,ylr m hp C k⟩
  .obtain ⟨c,e⟩:=yox k;refine .inr ⟨.inl k,c,e,?_⟩;have q:=x.cell y c e;rw [yls m hp C (by show scope.names.lookup y≠_;rw [k];decide)] at q;exact q
 .exact g.hok.fresh (le_of_lt (x.above y c (PySem.mem_of_lookup h)))
 .unfold start;show _=N.length;simp_all
theorem yEr {K:Frag}{U kV B T d W oc:Value}
  (lk:K.lookup f=some ⟨oc,od,.func (fnOf name c g body scope U kV B T R d W),G⟩) (M:codeIn K d c=true) (S:yeE N ps scope)
  (z:∀ vs H Q E,sp vs H Q E->vs.length=ps.length)
  (j:∀ A outer s H vs Q E,Room k (A.deeper (envOfC c scope s.heap.objs.size f d))->sp vs H Q E ->
   ∃ t,PSs (yuf CX P w K D base N c scope f d A outer s H E) body t/\t { nx:=fun _ i=>Q .non i,rt:=Q } (start N vs) H) :
  FnOk P w K D base CX (k+1) f (fnOf name c g body scope U kV B T R d W) ps sp:=by
 refine ⟨z,fun A outer s H args us vs Q E O p Y r C=>?_⟩;have hl:=z _ _ _ _ C;have X:=p.mod.kin.keeps fun b o e=>(p.bs b o e).1
 have L:=p.mod.nolimit.keeps fun b o e=>(p.bs b o e).1
 have l:∀ y∈ps.zip us,scope.names.lookup y.1=some _\/(scope.names.lookup y.1=some _/\((cellsFrom (s.heap.objs.size+1) scope.names []).lookup y.1).isSome=true):=fun ⟨n,v⟩ hy=>by
  rcases S.par n (of_mem_zip hy).1 with q|q
  .exact .inl q
  .exact .inr ⟨q,PySem.W.cellsFrom_some _ _ _ (.inl q)⟩
 refine codeAny_call_function O.depth (X _ _ lk) rfl S.co S.gen rfl (PySem.W.codeRec_of X M) (Y _ _ _ _ ?_);refine wpAny_newFunctionEnv_cells S.kind l fun env he s1 x=>?_
 subst he;refine ⟨L.keeps x.toInCall.keep,codeAny_func ?_⟩;obtain ⟨t,ht,Z⟩:=j A outer s H vs Q E (O.deeper _) C;have I:Inv (yuf CX P w K D base N c scope f d A outer s H E) [] _ H s1:=yqU S O.hd p hl r x;refine wpAny_mono (ht [] s1 _ H _ I Z) (fun fl s' hs=>?_) fun e s' hs=>hs
 have m:∀ {h:St}{i:Hp}{v:V}{u:Value},Inv (yuf CX P w K D base N c scope f d A outer s H E) [] h i s'->RelV v u->Q v i->CE outer P w H s Q u s' :=
  fun {h i v u} J F q=>⟨v,i,J.os,J.bare,J.base,J.hok,F,q⟩
 cases fl with
 | ret u =>
  obtain ⟨v,h,i,J,F,q⟩:=hs;exact m J F q
 | next =>
  obtain ⟨h,i,J,q⟩:=hs;exact m (v:=V.non) J rfl q
 | brk =>
  obtain ⟨_,_,_,q⟩:=hs;exact False.elim q
 | cont =>
  obtain ⟨_,_,_,q⟩:=hs;exact False.elim q
section
variable {X:Cx}{x:Str}{p pos:Pos}{e:Expr}{es:List Expr}{t:TA}{id T:String}{r:List V->Hp->VK->Prop}
noncomputable def tCB (r:List V->Hp->VK->Prop) (t:TA):TE:=fun Z H Q=>t Z H fun vs H1=>r vs H1 Q
theorem yjZ (q:yfR X (.builtin id) r) (j:Gl X x) (g:X.mg x=none) (f:bootBuiltins x=some (.builtin id)) (l:PA X (e::es) t) (n:x≠"__name__":=by decide) (d:(x == "__debug__")=false:=by decide)
  (k:starEach (e::es) X.env=(false,eval e X.env)::starEach es X.env:=by rfl) (c:(backTo pos (starEach es X.env)).any (·.1)=false:=by rfl):PE X (.Call (.Name x p) (e::es) [] pos) (tCB r t):=by
 intro b s Z H Q I h;exact wpAny_Call_Name_kw (ylm I j g f (PyProof.Rows.callWith_builtin1 (thn (l pos b s Z H _ I h) fun us s1 ⟨vs,o,u,i,m⟩=>q b s1 Z o vs us Q u i m) k c) n d)
theorem ylt (q:yfR X (.type T) r) (j:Gl X x) (g:X.mg x=none) (f:bootBuiltins x=some (.type T)) (l:PA X (e::es) t) (n:x≠"__name__":=by decide) (d:(x == "__debug__")=false:=by decide)
  (k:starEach (e::es) X.env=(false,eval e X.env)::starEach es X.env:=by rfl) (c:(backTo pos (starEach es X.env)).any (·.1)=false:=by rfl):PE X (.Call (.Name x p) (e::es) [] pos) (tCB r t):=by
 intro b s Z H Q I h;exact wpAny_Call_Name_kw (ylm I j g f (PyProof.Rows.callWith_type1 (thn (l pos b s Z H _ I h) fun us s1 ⟨vs,o,u,i,m⟩=>q b s1 Z o vs us Q u i m) k c) n d)
end
end L2
namespace HT
open PySem PyProof.Rows
section
variable {prog:Program}{w:World}{A:Around}{E:Value->Shared->Prop}{s:Shared}
noncomputable def sIx (n d:Nat):Option Int->Nat
 | none=>d
 | some v=>if v<0 then (v+(n:Int)).toNat else min v.toNat n
theorem sIx_none (n d:Nat):sIx n d none=d:=rfl
theorem sIx_nat (n d k:Nat):sIx n d (some (k:Int))=min k n:=by show (if (k:Int)<0 then ((k:Int)+(n:Int)).toNat else min (k:Int).toNat n)=min k n;rw [if_neg (by omega),Int.toNat_natCast]
end
end HT
namespace L2
open PySem PySem.Spec PyProof.Rows
noncomputable abbrev TO:=St->Hp->(Option Int->Hp->Prop)->Prop
def PO (X:Cx) (e:Option Expr) (t:TO):Prop :=
 ∀ (pins:List (Addr×Obj)) (s:Shared) (Z:St) (H:Hp) (Q:Option Int->Hp->Prop),Inv X pins Z H s->t Z H Q ->
  wpAny (model X.prog X.w) X.A (evalPart e X.env) (fun u s'=>∃ o H',Inv X pins Z H' s'/\IsPart u o/\Q o H') X.xe s
def yqV:TO:=fun _ H Q=>Q none H
def yBi (t:TE):TO:=fun Z H Q=>t Z H fun x H1=>∃ i,x=.int i/\Q (some i) H1
theorem intsAre_of {ns:List Int}:∀ {us:List Value},Vals (ns.map V.int) us->IntsAre us ns:=by
 induction ns with
 | nil=>intro us r;cases r;exact .nil
 | cons n ns ih =>
  intro us r;cases r with
  | cons r1 r2 =>
   obtain ⟨t,e⟩:=r1;subst e;exact .cons n t (ih r2)
section
variable {X:Cx}{e:Expr}{te:TE}{lo hi:Option Expr}{tl th:TO}{pos p2:Pos}
theorem yxW:PO X none yqV:=by intro a s Z H Q I h;exact wpAny_pure ⟨none,H,I,.none,h⟩
theorem yxX (h:PE X e te):PO X (some e) (yBi te):=by
 intro b s Z H Q I f;refine thn (h b s Z H _ I f) fun u s1 ⟨x,d,g,c,j⟩=>?_
 obtain ⟨i,rfl,q⟩:=j;obtain ⟨t,rfl⟩:=c;exact ⟨_,d,g,.int i t,q⟩
def SlR (X:Cx) (r:V->Option Int->Option Int->Hp->VK->Prop):Prop :=
 ∀ (pins:List (Addr×Obj)) (s:Shared) (Z:St) (H:Hp) (x:V) (v vl vu:Value) (lo hi:Option Int) (sl:Addr) (Q:VK),Inv X pins Z H s->RelV x v->s.heap.IsSliceOf sl vl vu .none->IsPart vl lo->IsPart vu hi->r x lo hi H Q ->
  ∃ T id,typeLookup (.type T) "__getitem__" = pure (some (.builtin id))/\s.TypeIs v T/\wpAny (model X.prog X.w) X.A (getItem v (.ref sl)) (EP X pins Z Q) X.xe s
noncomputable def tSl (r:V->Option Int->Option Int->Hp->VK->Prop) (te:TE) (tl th:TO):TE:=fun Z H Q=>te Z H fun x H1=>tl Z H1 fun l H2=>th Z H2 fun u H3=>r x l u H3 Q
theorem yug (j:SlR X r) (z:PE X e te) (hl:PO X lo tl) (p:PO X hi th):PE X (.Subscript e (.Slice lo hi none p2) pos) (tSl r te tl th):=by
 intro c s Z H Q I h;refine Subscript_ (thn (z c s Z H _ I h) fun v s1 ⟨x,B,n,t,A⟩=>?_);refine wpAny_Slice (thn (hl c s1 Z B _ n A) fun f s2 ⟨l,D,o,pl,w⟩=>thn (p c s2 Z D _ o w) fun g s3 ⟨u,d,i,F,k⟩=>?_);refine wpAny_pure ?_;have E:Inv X c Z d { s3 with heap:=s3.heap.push { cls:=.type "slice",data:=.fields #[f,g,.none] } }:=i.kept fun b G q=>Heap.get?_push_of_some _ q
 obtain ⟨T,id,C,m,y⟩:=j c _ Z d x v f g l u s3.heap.objs.size Q E t (Heap.IsSliceOf.new ..) pl F k;exact tail_any m C y (rfl)
def yDP (xs:List V) (lo hi:Option Int):List V:=(xs.drop (HT.sIx xs.length 0 lo)).take (HT.sIx xs.length xs.length hi-HT.sIx xs.length 0 lo)
theorem ynb xs lo hi:(yDP xs lo hi).length<=xs.length:=by unfold yDP;rw [length_take,length_drop];omega
end
noncomputable def ixN (n:Nat) (i:Int):Option Nat:=if 0<=i then (if i<n then some i.toNat else none) else if -(n:Int)<=i then some (i+n).toNat else none
def atI {Y:Type}(xs:List Y) (i:Int):Option Y:=(ixN xs.length i).bind fun j=>xs[j]?
theorem yqW (h:ixN n i=some j):seqIndex? i n=some j/\j<n/\-n<=i/\i<n:=by
 unfold ixN at h
 by_cases b:0<=i
 .rw [if_pos b] at h
  by_cases h1:i<n
  .rw [if_pos h1] at h;have e:=Option.some.inj h;exact ⟨by rw [seqIndex_of b h1,e],by omega,by omega,h1⟩
  simp_all
 .rw [if_neg b] at h
  by_cases h1:-n<=i
  .rw [if_pos h1] at h;have e:=Option.some.inj h;exact ⟨by rw [seqIndex_neg (by omega) h1,e],by omega,h1,by omega⟩
  grind
theorem ync {Y:Type}{xs:List Y}{i:Int}{v:Y}(h:atI xs i=some v):∃ j,seqIndex? i xs.length=some j/\xs[j]?=some v/\j<xs.length/\-xs.length<=i/\i<xs.length:=by
 unfold atI at h;cases e:ixN xs.length i with
 | none=>rw [e] at h;cases h
 | some j =>
  rw [e] at h;obtain ⟨h1,h2,b,a⟩:=yqW e;exact ⟨j,h1,h,h2,b,a⟩
theorem ycR {Y:Type}{xs:List Y}{j:Nat}{v:Y}(h:xs[j]?=some v):atI xs j=some v:=by
 have b:=(List.getElem?_eq_some_iff.mp h).1;have e:ixN xs.length j=some j:=by unfold ixN;simp_all
 unfold atI;rw [e];exact h
noncomputable def yqX (b:Expr):Prop:=∀ o i,subscripted b false o i=operate [o,i] (getItem o i)
def IxR (X:Cx) (r:R2):Prop :=
 ∀ (value slice:Expr) (pins:List (Addr×Obj)) (s:Shared) (Z:St) (H:Hp) (x y:V) (v u:Value) (Q:VK),Inv X pins Z H s->RelV x v->RelV y u->r x y H Q ->
  subscripted slice false v u=operate [v,u] (getItem v u)->wpAny (model X.prog X.w) X.A (subscriptTail value slice v u) (EP X pins Z Q) X.xe s
def MtR (X:Cx) (id:String) (r:V->List V->Hp->VK->Prop):Prop :=
 ∀ (pins:List (Addr×Obj)) (s:Shared) (Z:St) (H:Hp) (x:V) (xs:List V) (v:Value) (us:List Value) (Q:VK),Inv X pins Z H s->RelV x v->Vals xs us->r x xs H Q ->
  wpAny (model X.prog X.w) X.A (call (.builtin id) (v::us)) (EP X pins Z Q) X.xe s
section
variable {X:Cx}{a b:Expr}{ta tb:TE}{pos:Pos}
theorem yEs (i:IxR X r) (j:PE X a ta) (f:PE X b tb) (hs:yqX b):PE X (.Subscript a b pos) (tOp r ta tb):=by intro d s Z H Q I h;exact Subscript_ (yEm j f I h fun v u s2 x y g e l k q=>i a b d s2 Z g x y v u Q e l k q (hs _ _))
def yGt (K:Frag):R2:=fun x y H Q=>∃ p xs i v,x=.ref p/\y=.int i/\SqL K H p xs/\atI xs i=some v/\Q v H
def yGu (K:Frag):R2:=fun x y H Q=>∃ p xs i v,x=.ref p/\y=.int i/\SqT K H p xs/\atI xs i=some v/\Q v H
def yGv:R2:=fun x y H Q=>∃ z i c,x=.str z/\y=.int i/\z.length<=sizeLine/\atI z.cps.toList i=some c/\Q (.str ⟨#[c]⟩) H
theorem yD:IxR X (yGt X.K):=by
 intro value slice e s Z H x y v u Q I B C h hs;obtain ⟨p,xs,i,z,rfl,rfl,m,A,q⟩:=h;cases B;obtain ⟨t,rfl⟩:=C;obtain ⟨its,r,pl,hz⟩:=I.list m;obtain ⟨j,h1,h2,D,o,n⟩:=ync A;obtain ⟨w,l,g⟩:=r.get h2;have hl:=r.length;have E:=yjy;have d:EP X e Z Q w s:=⟨z,H,I,g,q⟩
 by_cases k:0<=i
 .have f:=by rw [seqIndex_of k n] at h1;exact Option.some.inj h1
  exact item_listR pl.isList k (by omega) (by rw [f];simpa using l) d hs
 .have f:(i+its.toArray.size).toNat=j:=by rw [seqIndex_neg (by omega) o] at h1;rw [size_toArray,<- hl];exact Option.some.inj h1
  exact subscriptTail_builtinR pl.isList.typeIs slot_list_getitem.lookup
   (wpAny_getItem_list_neg pl.isList (by omega) (by simp_all) (by omega) (by rw [f];simpa using l) ⟨rfl,d⟩) hs
theorem yF:IxR X (yGu X.K):=by
 intro value slice d s Z H x y v u Q I m g h hs;obtain ⟨p,xs,i,z,rfl,rfl,k,l,q⟩:=h;cases m;obtain ⟨t,rfl⟩:=g;obtain ⟨its,r,pl,hz⟩:=I.tuple k;obtain ⟨j,h1,h2,A,o,C⟩:=ync l;obtain ⟨w,n,f⟩:=r.get h2;have hl:=r.length;have B:=yjy;have e:EP X d Z Q w s:=⟨z,H,I,f,q⟩
 exact subscriptTail_builtinR pl.typeIs slot_tuple_getitem.lookup
  (getItem_tuple (j:=j) pl (by omega) (by omega) (by simp_all) (by simpa using n) ⟨rfl,e⟩) hs
theorem yoy:IxR X yGv:=by intro value slice e s Z H x y v u Q I l m h hs;obtain ⟨z,i,c,rfl,rfl,hz,g,q⟩:=h;obtain ⟨t,rfl⟩:=l;obtain ⟨t',rfl⟩:=m;obtain ⟨j,h1,h2,o,k,f⟩:=ync g;have hl:z.cps.toList.length=z.length:=rfl;rw [hl] at h1 k f;have n:=yjy;exact tail_any (typeIs_str s z t) slot_str_getitem.lookup (getItem_str (by grind) (by simp_all) ⟨.str _,H,I.tok _,⟨_,rfl⟩,q⟩) hs
theorem ypH (its:List Value) n j u:Obj.mapSeq (·.setIfInBounds j u) { cls:=.type "list",data:=.seq its.toArray n }={ cls:=.type "list",data:=.seq (its.set j u).toArray n }:=by simp [Obj.mapSeq]
theorem Inv.lst {d:List _}{Z:St}{H:Hp}{s:Shared}{p:Addr}{xs:List V}(I:Inv X d Z H s) (h:H p=some (.lst xs)) :
  ∃ (its:List Value) (n:Nat),Vals xs its/\s.heap.get? p=some { cls:=.type "list",data:=.seq its.toArray n }/\xs.length<=sizeLine:=by
 obtain ⟨z,its,n,r,e⟩:=I.hok p _ h;grind
theorem Inv.lstUpd {d:List _}{Z:St}{H:Hp}{s:Shared}{p:Addr}{xs ys:List V}{its its':List Value}{n g:Nat}{f:Obj->Obj}(I:Inv X d Z H s) (h:H p=some (.lst xs))
  (j:s.heap.get? p=some { cls:=.type "list",data:=.seq its.toArray n }) (i:f { cls:=.type "list",data:=.seq its.toArray n }={ cls:=.type "list",data:=.seq its'.toArray g }) (r:Vals ys its') (hz:ys.length<=sizeLine) t :
  Inv X d Z (upd H p (.lst ys)) { s with heap:=s.heap.update p f,toks:=t }:=by
 have e:(s.heap.update p f).get? p=some { cls:=.type "list",data:=.seq its'.toArray g }:=by rw [Heap.get?_update_self f j (by rw [i]<;>rfl),i]
 refine I.write (by rw [h];trivial) (.inl rfl) (fun b u k q=>(Heap.get?_update_other _ _ (Ne.symm k)).trans q) ⟨_,e⟩ ?_;exact ⟨hz,its',g,r,e⟩
def yBj:V->V->V->Hp->(Hp->Prop)->Prop:=fun o i v H Q=>∃ p xs k j,o=.ref p/\i=.int k/\H p=some (.lst xs)/\ixN xs.length k=some j/\Q (upd H p (.lst (xs.set j v)))
theorem set_list:yGk X yBj:=by
 intro g s Z H o i v C B u Q I m x A h;obtain ⟨p,xs,k,j,rfl,rfl,hp,z,q⟩:=h;cases m;obtain ⟨t,rfl⟩:=x;obtain ⟨its,n,r,e,hz⟩:=I.lst hp;obtain ⟨h1,h2,y,w⟩:=yqW z;have hl:=r.length;have D:=yjy;have l :=
  I.lstUpd hp e (ypH its n j u) (r.set A j) (by rw [length_set];exact hz) s.toks
 by_cases f:0<=k
 .have d:=by rw [seqIndex_of f w] at h1;exact Option.some.inj h1
  exact PySem.W.ki_setAt e f (by omega) (by simp_all) (by rw [d];exact ⟨_,l,q⟩)
 .have d:(k+its.toArray.size).toNat=j:=by rw [seqIndex_neg (by omega) y] at h1;rw [size_toArray,<- hl];exact Option.some.inj h1
  exact PySem.W.ki_setBack e (by omega) (by simp_all) (by omega) (by rw [d];exact ⟨_,l,q⟩)
theorem ylu (lo hi:Option Int) (n:Nat):(sliceBounds lo hi none n).1=((HT.sIx n 0 lo:Nat):Int)/\(sliceBounds lo hi none n).2.1=((HT.sIx n n hi:Nat):Int)/\(sliceBounds lo hi none n).2.2=1:=by
 refine ⟨?_,?_,rfl⟩
 .cases lo with
  | none=>simp [sliceBounds,HT.sIx]
  | some i =>
   simp only [sliceBounds,HT.sIx,Option.getD_none,show (1:Int)>0 by decide,if_true]
   by_cases h:i<0
   .simp only [h,if_true]<;>omega
   .simp only [h,if_false]<;>omega
 .cases hi with
  | none=>simp [sliceBounds,HT.sIx]
  | some i =>
   simp only [sliceBounds,HT.sIx,Option.getD_none,show (1:Int)>0 by decide,if_true]
   by_cases h:i<0
   .simp only [h,if_true]<;>omega
   .simp only [h,if_false]<;>omega
theorem yka (its:List Value) (lo hi:Option Int):slicePick its.toArray lo hi none=((its.drop (HT.sIx its.length 0 lo)).take (HT.sIx its.length its.length hi-HT.sIx its.length 0 lo)).toArray:=by obtain ⟨h1,h2,h3⟩:=ylu lo hi its.toArray.size;unfold slicePick;rw [h1,h2,h3];simp only [sliceRange_one,pick_run,size_toArray]<;>rfl
def yGw (K:Frag):V->Option Int->Option Int->Hp->VK->Prop:=fun x lo hi H Q=>∃ a xs,x=.ref a/\SqL K H a xs/\∀ p,H p=none->Q (.ref p) (upd H p (.lst (yDP xs lo hi)))
theorem yqY:SlR X (yGw X.K):=by intro f s Z H x v n m lo k sl Q I i hs pl g h;obtain ⟨a,xs,rfl,j,q⟩:=h;cases i;obtain ⟨its,r,e,hz⟩:=I.list j;have d:=r.length;refine ⟨_,_,slot_list_getitem.lookup,e.isList.typeIs,?_⟩;refine wpAny_getItem_list_slice e.isList hs pl g .none (by simp) ?_;rw [yka,<- d];refine ⟨.ref s.heap.objs.size,_,I.laid (fun b l q=>Heap.get?_push_of_some _ q) (Nat.le_refl _) ?_,rfl,q _ (I.hok.fresh (Nat.le_refl _))⟩;exact ⟨Nat.le_trans (ynb xs lo k) hz,_,0,(r.drop _).take _,Heap.get?_push_size _ rfl⟩
noncomputable def ygr:V->Bool
 | .non=>true
 | .bl _=>true
 | .int _=>true
 | .str _=>true
 | _=>false
noncomputable def eqV:V->V->Bool
 | .non,.non=>true
 | .bl a,.bl b=>a == b
 | .bl a,.int b=>(if a then 1 else 0) == b
 | .int a,.bl b=>a == (if b then 1 else 0)
 | .int a,.int b=>a == b
 | .str a,.str b=>a == b
 | _,_=>false
theorem eqAt_V (f:RelV y u) (d:RelV x v) (g:ygr y=true) (e:ygr x=true):SeqAt.EqAt A s u v (eqV y x):=by
 cases y with
 | non =>
  cases f;cases x with
  | non=>cases d;exact SeqAt.EqAt.same _
  | bl b=>cases d;exact SeqAt.EqAt.none_bool b
  | int b=>obtain ⟨t,rfl⟩:=d;exact SeqAt.EqAt.none_int b t
  | str b=>obtain ⟨t,rfl⟩:=d;exact SeqAt.EqAt.none_str b t
  | _=>exact absurd (show false=true from e) Bool.false_ne_true
 | bl a =>
  cases f;cases x with
  | non=>cases d;exact SeqAt.EqAt.bool_none a
  | bl b=>cases d;exact SeqAt.EqAt.bool_bool a b
  | int b=>obtain ⟨t,rfl⟩:=d;exact SeqAt.EqAt.bool_int a b t
  | str b=>obtain ⟨t,rfl⟩:=d;exact SeqAt.EqAt.bool_str a b t
  | _=>exact absurd (show false=true from e) Bool.false_ne_true
 | int a =>
  obtain ⟨t',rfl⟩:=f;cases x with
  | non=>cases d;exact SeqAt.EqAt.int_none a t'
  | bl b=>cases d;exact SeqAt.EqAt.int_bool a t' b
  | int b=>obtain ⟨t,rfl⟩:=d;exact SeqAt.EqAt.int_int a t' b t
  | str b=>obtain ⟨t,rfl⟩:=d;exact SeqAt.EqAt.int_str a t' b t
  | _=>exact absurd (show false=true from e) Bool.false_ne_true
 | str a =>
  obtain ⟨t',rfl⟩:=f;cases x with
  | non=>cases d;exact SeqAt.EqAt.str_none a t'
  | bl b=>cases d;exact SeqAt.EqAt.str_bool a t' b
  | int b=>obtain ⟨t,rfl⟩:=d;exact SeqAt.EqAt.str_int a t' b t
  | str b=>obtain ⟨t,rfl⟩:=d;exact SeqAt.EqAt.str_str a t' b t
  | _=>exact absurd (show false=true from e) Bool.false_ne_true
 | _=>exact absurd (show false=true from g) Bool.false_ne_true
def eqU (x:V) (u:Value):Bool:=match u with
 | .none=>eqV .non x
 | .bool b=>eqV (.bl b) x
 | .int i _=>eqV (.int i) x
 | .str z _=>eqV (.str z) x
 | _=>false
theorem ywD (r:RelV y u) (f:ygr y=true):eqU x u=eqV y x:=by
 cases y with
 | non=>cases r;rfl
 | bl b=>cases r;rfl
 | int i=>obtain ⟨t,rfl⟩:=r;rfl
 | str z=>obtain ⟨t,rfl⟩:=r;rfl
 | _=>exact absurd (f) Bool.false_ne_true
theorem ynd:∀ {xs:List V}{us:List Value},Vals xs us->xs.all ygr=true->us.any (eqU x)=xs.any fun y=>eqV y x
 | _,_,.nil,_=>rfl
 | y::xs,u::us,.cons r t,f=>by rw [List.all_cons,and_eq_true] at f;rw [any_cons,any_cons,ywD r f.1,ynd t f.2]
theorem ykb {A:Around}{s:Shared}{x:V}{v:Value}(e:RelV x v) (g:ygr x=true):∀ {xs:List V}{us:List Value},Vals xs us->xs.all ygr=true->∀ u∈us,SeqAt.EqAt A s u v (eqU x u)
 | _,_,.nil,_=>fun u d=>by cases d
 | y::xs,u::us,.cons r t,f=>fun h d=>by
  rw [List.all_cons,and_eq_true] at f;rcases mem_cons.mp d with rfl|d
  .rw [ywD r f.1];exact eqAt_V r e f.1 g
  .exact ykb e g t f.2 h d
def inV (x:V) (xs:List V):Bool:=xs.any fun y=>eqV y x
def rIn (K:Frag) (neg:Bool):R2:=fun x y H Q=>∃ p xs,y=.ref p/\(SqL K H p xs\/SqT K H p xs)/\ygr x=true/\xs.all ygr=true/\Q (.bl (if neg then !inV x xs else inV x xs)) H
theorem yqZ:OpR X (compareOp .In) (rIn X.K false):=by
 intro f s Z H x y v u Q I g j h;obtain ⟨p,xs,rfl,d,i,fs,q⟩:=h;cases j;rcases d with d|d
 .obtain ⟨its,r,pl,hz⟩:=I.list d;refine SeqAt.in_listAt _ pl.isList (fun w e=>ykb g i r fs w (by simpa using e)) ⟨.bl _,H,I,rfl,?_⟩;rw [show its.toArray.any _=its.any (eqU x) by simp,ynd r fs];exact q
 .obtain ⟨its,r,pl,hz⟩:=I.tuple d;refine SeqAt.in_tupleAt _ pl (fun w e=>ykb g i r fs w (by simpa using e)) ⟨.bl _,H,I,rfl,?_⟩;rw [show its.toArray.any _=its.any (eqU x) by simp,ynd r fs];exact q
theorem ybh:yfR X (.builtin "len") fun xs H Q=>∃ p ys,xs=[.ref p]/\(SqL X.K H p ys\/SqT X.K H p ys)/\Q (.int ys.length) H:=by
 intro g s Z H xs us Q I r h;obtain ⟨p,ys,rfl,e,q⟩:=h;obtain ⟨u,rfl,i⟩:=vals1 r;cases i;have j:=yjy;rcases e with e|e
 .obtain ⟨its,f,pl,hz⟩:=I.list e;have d:=f.length;exact Calls.call_len_list pl.isList (by grind) ⟨.int ys.length,H,I.tok _,⟨s.toks+1,by grind⟩,q⟩
 .obtain ⟨its,f,pl,hz⟩:=I.tuple e;have d:=f.length;exact len_tuple pl (by grind) ⟨.int ys.length,H,I.tok _,⟨s.toks+1,by grind⟩,q⟩
theorem yee:yfR X (.builtin "len") fun xs H Q=>∃ z,xs=[.str z]/\z.length<=sizeLine/\Q (.int z.length) H:=by intro d s Z H xs us Q I r h;obtain ⟨z,rfl,hz,q⟩:=h;obtain ⟨u,rfl,t,rfl⟩:=vals1 r;have e:=yjy;exact len_str (by omega) ⟨.int z.length,H,I.tok _,⟨_,rfl⟩,q⟩
theorem ym:yfR X (.type "list") fun xs H Q=>∃ p ys,xs=[.ref p]/\(SqL X.K H p ys\/SqT X.K H p ys)/\∀ l,H l=none->Q (.ref l) (upd H l (.lst ys)):=by
 intro j s Z H xs us Q I r h;obtain ⟨p,ys,rfl,f,q⟩:=h;obtain ⟨u,rfl,x⟩:=vals1 r;cases x;have i:∀ its,Vals ys its->ys.length<=sizeLine->∀ (h':Heap) c',(∀ b w,s.heap.get? b=some w->h'.get? b=some w) ->
   h'.get? s.heap.objs.size=some _->EP X j Z Q _ _:=fun its d hz h' c' k e =>
  ⟨.ref s.heap.objs.size,_,I.laid (t':=s.toks) k (Nat.le_refl _) (show ObjOk X.prog X.w _ h' _ (.lst ys) from ⟨hz,its,c',d,e⟩),rfl,q _ (I.hok.fresh (Nat.le_refl _))⟩
 rcases f with f|f
 .obtain ⟨its,d,pl,hz⟩:=I.list f;have g:=d.length;obtain ⟨o,t,v,n,m⟩:=pl.isList;exact call_list_seq p (.inl rfl) t v m fun h' c' k e=>i its d hz h' c' k e
 .obtain ⟨its,d,pl,hz⟩:=I.tuple f;have g:=d.length;obtain ⟨o,t,v,n,m⟩:=pl;exact call_list_seq p (.inr rfl) t v m fun h' c' k e=>i its d hz h' c' k e
def tyV (K:Frag) (T:String) (x:V) (H:Hp):Prop:=match x with
 | .str _=>T = "str"
 | .int _=>T = "int"
 | .ref p=>(T = "list"/\∃ xs,SqL K H p xs)\/(T = "tuple"/\∃ o,K.lookup p=some o/\o.cls=.type "tuple"/\o.dict=none) \/
   (T = "dict"/\((∃ kvs,H p=some (.dK kvs))\/∃ kvs,H p=some (.dT kvs)))\/(T = "set"/\∃ S n,H p=some (.set S n))
 | _=>False
theorem ywE {g:List _}{Z:St}{H:Hp}{s:Shared}{T:String}{x:V}{v:Value}(I:Inv X g Z H s) (r:RelV x v) (h:tyV X.K T x H) :
  s.TypeIs v T/\∀ a,v=.ref a->∃ l,s.heap.get? a=some l/\l.dict=none:=by
 cases x with
 | str z =>
  obtain ⟨t,rfl⟩:=r;cases show T = "str" from h
  exact ⟨typeIs_str s z t,fun _ e=>nomatch e⟩
 | int i =>
  obtain ⟨t,rfl⟩:=r;cases show T = "int" from h
  exact ⟨typeIs_int s i t,fun _ e=>nomatch e⟩
 | ref p =>
  cases r;rcases h with ⟨rfl,xs,q⟩|⟨rfl,o,d,m,k⟩|⟨rfl,d⟩|⟨rfl,S,n,d⟩
  .obtain ⟨its,_,pl,_⟩:=I.list q;refine ⟨pl.isList.typeIs,fun a e=>?_⟩;cases e;obtain ⟨o,n,e,c,k,_⟩:=pl;exact ⟨o,e,k⟩
  .refine ⟨⟨o,I.kIn p o d,m⟩,fun a e=>?_⟩;cases e;exact ⟨o,I.kIn _ o d,k⟩
  .have z:∃ o,s.heap.get? p=some o/\o.ExactDict:=by
    rcases d with ⟨kvs,d⟩|⟨kvs,d⟩
    .obtain ⟨_,_,_,_,o,_,_,e,f,_⟩:=I.hok p _ d;exact ⟨o,e,f⟩
    .obtain ⟨_,_,_,_,o,_,_,e,f,_⟩:=I.hok p _ d;exact ⟨o,e,f⟩
   obtain ⟨o,e,f⟩:=z;refine ⟨⟨o,e,f.1⟩,fun a j=>?_⟩;cases j;exact ⟨o,e,f.2.1⟩
  .obtain ⟨o,_,_,_,e,f,_⟩:=I.hok p _ d;refine ⟨⟨o,e,f.1⟩,fun a j=>?_⟩;cases j;exact ⟨o,e,f.2.1⟩
 | _=>exact False.elim h
def yEt (K:Frag) (T:String) (r:V->List V->Hp->VK->Prop) (to:TE):TE:=fun Z H Q=>to Z H fun x H1=>tyV K T x H1/\r x [] H1 Q
def tBM (K:Frag) (T:String) (r:V->List V->Hp->VK->Prop) (to:TE) (t:TA):TE:=fun Z H Q=>to Z H fun x H1=>tyV K T x H1/\t Z H1 fun xs H2=>r x xs H2 Q
variable {o e:Expr}{es:List Expr}{to:TE}{t:TA}{name:Str}{apos cpos:Pos}{T id:String}{r:V->List V->Hp->VK->Prop}
theorem ywF (p:PlainAttrs T) (i:Slot T name id) (j:typeOf (.builtin id)=pure (.type "method_descriptor")) (m:MtR X id r) (w:PE X o to)
  (g:attributeBase o name X.env (eval o X.env)=eval o X.env:=by rfl) (f:(apos.endLine == cpos.line)=true:=by rfl):PE X (.Call (.Attribute o name apos) [] [] cpos) (yEt X.K T r to):=by
 intro d s Z H Q I h;refine wpAny_Call_method0_late g f (thn (w d s Z H _ I h) fun v s1 ⟨x,u,l,k,n,q⟩=>?_);obtain ⟨h1,h2⟩:=ywE l k n;exact ⟨T,id,p,i,j,h1,h2,Calls.callWith_builtin rfl (PySem.evalArgs_none (m d s1 Z u x [] v [] Q l k .nil q))⟩
theorem yxY (y:PlainAttrs T) (j:Slot T name id) (l:typeOf (.builtin id)=pure (.type "method_descriptor")) (A:MtR X id r) (D:PE X o to) (z:PA X (e::es) t)
  (i:attributeBase o name X.env (eval o X.env)=eval o X.env:=by rfl)
  (k:((backTo cpos (starEach (e::es) X.env)).all (fun x=>!x.1) && (backToKw cpos (keywordEach [] X.env)).all (fun x=>x.1.isSome)
   && decide ((e::es).length+([]:List Keyword).length+(if ([]:List Keyword).isEmpty then 0 else 1)<30))=true:=by rfl)
  (g:(apos.endLine == cpos.line)=true:=by rfl) (hs:starEach (e::es) X.env=(false,eval e X.env)::starEach es X.env:=by rfl) (f:(backTo cpos (starEach es X.env)).any (·.1)=false:=by rfl) :
  PE X (.Call (.Attribute o name apos) (e::es) [] cpos) (tBM X.K T r to t):=by
 intro d s Z H Q I h;refine wpAny_Call_method_late i k g rfl (thn (D d s Z H _ I h) fun v s1 ⟨x,C,m,p,u,B⟩=>?_);obtain ⟨h1,h2⟩:=ywE m p u;refine ⟨T,id,y,j,l,h1,h2,?_⟩;have n:=z cpos d s1 Z C _ m B;rw [hs] at n ⊢;refine Calls.callWith_builtin (by show (false || (backTo cpos _).any _)=false;rw [f]<;>rfl) (Calls.evalArgs_plain ?_);exact thn n fun us s2 ⟨vs,E,w,r2,q⟩=>A d s2 Z E x vs v us Q w p r2 q
end
def MtM (X:Cx) (id:String) (r:V->List V->Hp->VK->Prop):Prop :=
 ∀ (pins:List (Addr×Obj)) (s:Shared) (Z:St) (H:Hp) (x:V) (xs:List V) (v:Value) (us:List Value) (Q:VK),Inv X pins Z H s->RelV x v->Vals xs us->r x xs H Q ->
  wpAny (model X.prog X.w) X.A (call (.builtin id) (v::us)) (EP X pins Z Q) X.xe s
theorem Vals.one:∀ {x:V}{us:List Value},Vals [x] us->∃ u,us=[u]/\RelV x u
 | _,_,.cons r .nil=>⟨_,rfl,r⟩
theorem Vals.zero:∀ {us:List Value},Vals [] us->us=[]
 | _,.nil=>rfl
theorem Vals.dropLast (h:Vals xs us):Vals xs.dropLast us.dropLast:=by
 induction h with
 | nil=>exact .nil
 | cons r t ih =>
  cases t with
  | nil=>exact .nil
  | cons q t'=>exact .cons r ih
theorem Vals.rep (h:Vals xs us):∀ k,Vals (replicate k xs).flatten (replicate k us).flatten
 | 0=>.nil
 | k+1=>by exact Vals.append h (Vals.rep h k)
theorem foldl_rep its:∀ k (b:List Value),
  List.foldl (fun x1 x2=>x1++x2) b.toArray (replicate k its.toArray)=(b++(replicate k its).flatten).toArray
 | 0,b=>by simp
 | k+1,b=>by
  have e:b.toArray++its.toArray=(b++its).toArray:=by simp
  have c:b++its++(replicate k its).flatten=b++(replicate (k+1) its).flatten:=by grind
  rw [<- c,<- foldl_rep its k _,<- e,List.replicate_succ,List.foldl_cons]
section
variable {X:Cx}{pins:List (Addr×Obj)}{Z:St}{H:Hp}{s:Shared}{l b:Addr}{xs ys zs:List V}
theorem Inv.lset {its its':List Value}(I:Inv X pins Z H s) (d:H l=some (.lst xs))
  (e:s.heap.get? l=some { cls:=.type "list",data:=.seq its.toArray n }) (h:f its.toArray=its'.toArray) (c:Vals ys its') (hz:ys.length<=sizeLine) :
  Inv X pins Z (upd H l (.lst ys)) { s with heap:=s.heap.update l (Obj.mapSeq f),toks:=t' }:=by
 have q:=PySem.IsL.update e f;rw [h] at q;refine I.write (by rw [d];exact trivial) (.inl rfl) (fun i u g a=>(Heap.get?_update_other s.heap _ (Ne.symm g)).trans a) ⟨_,q⟩ ?_;exact ⟨hz,its',_,c,q⟩
theorem Inv.lnew (I:Inv X pins Z H s) (a:Vals ys its) (hz:ys.length<=sizeLine) :
  Inv X pins Z (upd H s.heap.objs.size (.lst ys)) { s with heap:=s.heap.push { cls:=.type "list",data:=.seq its.toArray },toks:=t' } :=
 I.laid (fun _ _ q=>Heap.get?_push_of_some _ q) (Nat.le_refl _) ⟨hz,its,0,a,Heap.get?_push_size _ rfl⟩
theorem Inv.fresh (I:Inv X pins Z H s):H s.heap.objs.size=none:=I.hok.fresh (Nat.le_refl _)
theorem Inv.lstM (I:Inv X pins Z H s) (a:H l=some (.lst xs)):xs.length<=sizeLine/\∃ (its:List Value) (n:Nat),Vals xs its/\xs.length=its.length/\s.heap.get? l=some { cls:=.type "list",data:=.seq its.toArray n }:=by obtain ⟨z,its,n,r,e⟩:=I.hok l _ a;exact ⟨z,its,n,r,r.length,e⟩
theorem yoz (h:n<=sizeLine):Builtin.List.listTooLong n=false:=by exact decide_eq_false (by omega)
end
section
variable {X:Cx}
def yne:V->List V->Hp->VK->Prop:=fun x vs H Q=>∃ l xs y,x=.ref l/\vs=[y]/\H l=some (.lst xs)/\xs.length<sizeLine/\Q .non (upd H l (.lst (xs++[y])))
theorem ybM:MtM X "list.append" yne:=by intro c s Z H x vs v us Q I f g h;obtain ⟨l,xs,y,rfl,rfl,b,hz,q⟩:=h;cases f;obtain ⟨u,rfl,d⟩:=g.one;obtain ⟨z,its,n,r,hl,e⟩:=I.lstM b;refine call_meets F.slot_list_append ⟨_,e,rfl⟩ F.entry_list_append (F.args_list_append_2 _ _) (PySem.list_append l its.toArray n u (by simp_all)) ⟨e,?_⟩;refine ⟨.non,_,I.lset b e (by simp) (r.append (.cons d .nil)) ?_,rfl,q⟩;grind
def yra:V->List V->Hp->VK->Prop:=fun x vs H Q=>∃ l b xs zs,x=.ref l/\vs=[.ref b]/\H l=some (.lst xs)/\H b=some (.lst zs)/\xs.length+zs.length<=sizeLine/\Q .non (upd H l (.lst (xs++zs)))
theorem yrb:MtM X "list.extend" yra:=by
 intro f s Z H x vs v us Q I k t h;obtain ⟨l,b,xs,w,rfl,rfl,g,i,hz,q⟩:=h;cases k;obtain ⟨u,rfl,j⟩:=t.one;cases j;obtain ⟨z,its,n,r,hl,e⟩:=I.lstM g;obtain ⟨y,c,o,r2,m,p⟩:=I.lstM i;have hsz:its.toArray.size+c.toArray.size<=sizeLine:=by simp_all
 have d:¬ (!its.toArray.isEmpty && Builtin.List.listTooLong (its.toArray.size+c.toArray.size))=true:=by rw [yoz hsz,Bool.and_false];exact Bool.false_ne_true
 refine call_meets F.slot_list_extend ⟨_,e,rfl⟩ F.entry_list_extend (F.args_list_extend_2 _ _)
  (AutoSeq1.list_extend_list_list_0 l its.toArray n b c.toArray o d (by grind)) ⟨e,p,?_⟩
 refine ⟨.non,_,I.lset g e (by simp) (r.append r2) ?_,rfl,q⟩;simp_all
def yGx:V->List V->Hp->VK->Prop:=fun x vs H Q=>∃ l xs y,x=.ref l/\vs=[]/\H l=some (.lst xs)/\xs[xs.length-1]?=some y/\Q y (upd H l (.lst xs.dropLast))
theorem yoA:MtM X "list.pop" yGx:=by
 intro f s Z H x vs v us Q I i j h;obtain ⟨l,xs,y,rfl,rfl,d,g,q⟩:=h;cases i;have b:=j.zero;subst b;obtain ⟨z,its,n,r,hl,e⟩:=I.lstM d;obtain ⟨u,m,k⟩:=r.get g;have c:its.toArray[its.toArray.size-1]?=some u:=by simp_all
 refine call_meets F.slot_list_pop ⟨_,e,rfl⟩ F.entry_list_pop (F.args_list_pop_1 _) (MeetsSeq.list_pop_last l its.toArray n u c) ⟨e,?_⟩;refine ⟨y,_,I.lset d e ?_ r.dropLast ?_,k,q⟩
 .simp_all
 .rw [List.length_dropLast];omega
def yGy:R2:=fun x y H Q=>∃ l b xs zs,x=.ref l/\y=.ref b/\H l=some (.lst xs)/\H b=some (.lst zs)/\xs.length+zs.length<=sizeLine/\∀ p,H p=none->Q (.ref p) (upd H p (.lst (xs++zs)))
theorem ylv:OpR X (binaryOp .Add) yGy:=by
 intro d s Z H x y v u Q I o m h;obtain ⟨l,b,xs,t,rfl,rfl,k,g,hz,q⟩:=h;cases o;cases m;obtain ⟨z,its,n,r,hl,e⟩:=I.lstM k;obtain ⟨p,c,w,r2,i,j⟩:=I.lstM g;refine PySem.P.add_list e j ?_ (by simp_all);have f:its.toArray++c.toArray=(its++c).toArray:=by simp
 rw [f];exact ⟨.ref _,_,I.lnew (r.append r2) (by rw [length_append];omega),rfl,q _ I.fresh⟩
def yGz:R2:=fun x y H Q=>∃ l k xs,x=.ref l/\y=.int k/\H l=some (.lst xs)/\-(2 ^ 63)<=k/\k<2 ^ 63/\xs.length*k.toNat<=sizeLine /\
 ∀ p,H p=none->Q (.ref p) (upd H p (.lst (replicate k.toNat xs).flatten))
theorem len_rep {Y:Type}(xs:List Y) k:(replicate k xs).flatten.length=k*xs.length:=by simp_all
theorem ywG:OpR X (binaryOp .Mult) yGz:=by
 intro j s Z H x y v u Q I w p h;obtain ⟨l,k,xs,rfl,rfl,o,h1,h2,hz,q⟩:=h;cases w;obtain ⟨t,rfl⟩:=p;obtain ⟨z,its,n,r,hl,e⟩:=I.lstM o;have f:its.toArray.size*k.toNat<=sizeLine:=by simp_all
 have d:¬ its.toArray.size*k.toNat>(2 ^ 63-1)/8:=by
  have:sizeLine<=(2 ^ 63-1)/8:=by decide
  omega
 have g:¬ (!Builtin.List.listFitsIndex k)=true:=by rw [fitsIndex_both h1 h2];exact Bool.false_ne_true
 have c:¬ Builtin.List.listTooLong (its.toArray.size*k.toNat)=true:=by rw [yoz f];exact Bool.false_ne_true
 have i:List.foldl (fun x1 x2=>x1++x2) #[] (replicate (if its.toArray.isEmpty=true then 0 else k.toNat) its.toArray)=(replicate k.toNat its).flatten.toArray:=by
  have f0:=fun m=>by have:=foldl_rep its m [];rw [List.nil_append] at this;exact this
  cases its with
  | nil=>simp
  | cons a r'=>grind
 refine wpAny_binaryOp_repeat_ref (rfl) ⟨_,e,rfl⟩ (fun s'=>typeIs_int s' k t) noFill_list_mul F.fills_int_mul F.slot_int_rmul repeat_list F.slot_int_index.lookup
  (call_meets F.slot_int_rmul (typeIs_int s k t) F.entry_int_rmul (F.args_int_rmul_2 _ _) (int___rmul___int_list k t l its.toArray n)
   ⟨e,rfl,⟨_,e,rfl⟩,call_meets F.slot_list_mul ⟨_,e,rfl⟩ F.entry_list_mul (F.args_list_mul_2 _ _) (AutoListH.list___mul___list_int_3 l its.toArray n k t g d c) ⟨e,?_⟩⟩)
 rw [i];exact ⟨.ref _,_,I.lnew (r.rep k.toNat) (by rw [len_rep,Nat.mul_comm];exact hz),rfl,q _ I.fresh⟩
end
end L2
namespace Att
open PySem PySem.W PySem.Calls PyProof.Rows
theorem yhZ:∀ ns vs,WellAll P h vs (ns.map WData.int)->IntsAre vs ns:=by
 intro ns
 induction ns with
 | nil =>
  intro vs w;cases w;exact .nil
 | cons n ns ih =>
  intro vs w;cases w with
  | cons a b =>
   cases a;exact .cons _ _ (ih _ b)
theorem yrc {l:OpenLaw}(m:l.most=some n) 
  (e:l.row.toRowW.claim.pre args=true) (j:WellAll P h c args) :
  ∃ a vs ns,c=[Value.ref a]/\args=[WData.list (ns.map WData.int)]/\h.get? a=some { cls:=.type "list",data:=.seq vs.toArray }/\IntsAre vs ns/\ns.length<=n:=by
 have i:=(pre_splitW e).1;have o:l.pre.holds [] _=true:=(pre_splitW e).2;obtain ⟨d,r,rfl,h1,h2⟩:=hasAllW_cons i;obtain rfl:=hasAllW_nil h2;obtain ⟨xs,rfl,k⟩:=hasW_list h1;obtain ⟨ns,rfl⟩:=items_int k;have f:ns.length<=n:=by
  have g:=by have g:=(holds_andW o).1;rw [m] at g;exact g
  have p:=condW_of g (w_not (w_lt w_lit (w_len_list (w_arg rfl))));grind
 cases j with
 | cons w1 w2 =>
  cases w2;cases w1 with
  | list ho hall=>exact ⟨_,_,ns,rfl,rfl,ho,yhZ ns _ hall,f⟩
theorem yrd (l:OpenLaw) args:l.row.toRowW.claim.post args (.bool true) args=true :=
 postW_of
  (by first|rfl|decide|simp [WShape.has,WShape.arms,WShape.armsAll])
  (w_eq_bool (w_res rfl) w_lit) rfl
theorem attach_call {l:OpenLaw}{d:DefRec}
  (L:l.most=some n) (v:d.params.defaults=[])
  (call:∀ w g c t u j o y s h a vs ns,
   Ground q e [] D w g t u c.heap->F w c.heap ->
   c.heap.get? j=some o->o.data=.func (docDef d.name d.params d.body d.scope y s h)->c.heap.CodeRec s d.name->t d.name=some (.ref j) ->
   c.heap.get? a=some { cls:=.type "list",data:=.seq vs.toArray }->IntsAre vs ns->ns.length<=n->c.gens = #[] ->
   codeAny (model l.prog w) callerA (.call (.ref j) ⟨[.ref a],[]⟩) (fun r s'=>r=.ok (.ret (.bool true))/\OldK c.heap s'.heap/\s'.os=c.os/\AllBare s'.gens) c) :
  WalkO q e D F l.row.toRowW d [] fun f vs=>PySem.call f vs:=by
 intro w g c t u G Y j o y s h Q S N O x E z P args C U m B I A R;obtain rfl:Q=.none:=Dflts.none E v;obtain rfl:S=.none:=Dflts.noKw E;obtain ⟨a,vs,ns,rfl,rfl,p,i,k⟩:=yrc L m A;refine enter_call (codeAny_mono (call w g c t u j o y s h a vs ns G Y N (fd_plain O) x z p i k P) fun r s' J=>?_);obtain ⟨rfl,h2,M,H⟩:=J;exact ⟨.inl ⟨_,_,[],rfl,fun _=>rfl,.bool true,yrd l _,fun _=>⟨List.Pairwise.nil,fun _ T=>nomatch T⟩⟩,h2,M,H⟩
end Att
namespace L2
open PySem PySem.Spec PyProof.Rows
theorem yia:∀ {vs:List Value}{ns:List Int},IntsAre vs ns->Vals (ns.map V.int) vs
 | _,_,.nil=>.nil
 | _,_,.cons n t h=>.cons ⟨t,rfl⟩ (yia h)
noncomputable def yEu (H:Hp):Prop:=∀ b,H b=none\/∃ o xs,H b=some (.frz o (.lst xs))
theorem yuh {K:Frag}{f:Shared}{vs:List Value}
  (KX:K.In f.heap) (G:f.heap.Ns mainGlobals C) (i:f.heap.Ns builtinsNs S) (Q:∀ x:Str,x≠"__name__"->S x=bootBuiltins x) (E:f.heap.NoLimit) (hg:f.gens = #[])
  (M:f.heap.get? a=some { cls:=.type "list",data:=.seq vs.toArray }) (U:IntsAre vs ns) (hl:ns.length<=sizeLine) (hr:Room k callerA)
  (F:∀ base:Heap,K.In base->base.Ns mainGlobals C->FnOk P w K C base CX k R T [x] sp) (p:∀ (s:Shared) (u:Value),BindsTo s T ⟨[u],[]⟩ [(x,u)])
  (L:∀ H:Hp,yEu H->SqL K H a (ns.map V.int)->sp [.ref a] H (fun v _=>v=.bl true) fun _ _ _=>False)
  (N:∀ H e s',CX [] H f (fun _ _ _=>False) e s'->False) :
  codeAny (model P w) callerA (.call (.ref R) ⟨[.ref a],[]⟩) (fun r s'=>r=.ok (.ret (.bool true))/\OldK f.heap s'.heap/\s'.os=f.os/\AllBare s'.gens) f:=by
 have Y:=yia U;have B:=U.length;have l:∀ H:Hp,yEu H->SqL K H a (ns.map V.int)->HOk P w H f.heap->(∀ b,H b≠none->b=a)->(H a≠none->K.lookup a=none) ->
   codeAny (model P w) callerA (.call (.ref R) ⟨[.ref a],[]⟩) (fun r s'=>r=.ok (.ret (.bool true))/\OldK f.heap s'.heap/\s'.os=f.os/\AllBare s'.gens) f:=by
  intro H Z hS y hA hK;have g:∀ {b:Addr}{o:Obj},f.heap.get? b=some o->H b=none->(ytM f.heap H).get? b=some o:=fun e n=>ytN e n
  have O:∀ {b:Addr}{o:Obj}{es:Array DictEntry}{ep:Nat},f.heap.get? b=some o->o.data=.dict es ep->H b=none:=fun {b o es ep} e d=>by grind
  have j:∀ {b:Addr}{m:Str->Option Value},f.heap.Ns b m->(ytM f.heap H).Ns b m:=fun {b m} ⟨o,es,ep,e,d,r⟩=>⟨o,es,ep,g e (O e d),d,r⟩
  have A:K.In (ytM f.heap H):=fun b o e=>g (KX b o e) (by grind)
  have hM:Mod K C (ytM f.heap H):=⟨A,j G,⟨S,j i,Q⟩,let ⟨mc,h1,h2⟩:=E;⟨mc,j h1,h2⟩⟩
  have e0:Env0 P w K C (ytM f.heap H) callerA [] f H:=⟨rfl,hM,fun b o e=>yxG e,le_of_eq (yqA _ _),trivial,fun b i=>absurd (show b∈([]:List Addr) from i) (by simp),y,.of_eq hg⟩
  refine codeAny_mono ((F _ A (j G)).run callerA [] f H ⟨[.ref a],[]⟩ [.ref a] [.ref a] _ _ hr e0 (p f (.ref a)) (.cons rfl .nil) (L H Z hS)) fun r s' h=>?_
  cases r with
  | error e=>exact (N H e s' h).elim
  | ok fl =>
   cases fl with
   | next=>exact False.elim h
   | brk=>exact False.elim h
   | cont=>exact False.elim h
   | ret u =>
    obtain ⟨v,H',os,I,W,D,r',q⟩:=h;have q':v=.bl true:=q;subst q';obtain rfl:u=Value.bool true:=r';refine ⟨rfl,OldK.of_keep fun b o e=>?_,os,I⟩;cases q:H b with
    | none=>exact W.keep b o e q (by intro z;exact absurd (show b∈([]:List Addr) from z) (by simp)) (by simp)
    | some u =>
     rcases Z b with z|⟨ob,xs,z⟩
     .rw [q] at z;cases z
     .have z2:=W.frzs b ob _ z;obtain ⟨X,_⟩:=y b _ z;obtain ⟨e2,_⟩:=D b _ z2;rw [e] at X;cases X;exact e2
 cases J:K.lookup a with
 | some o =>
  have e:=KX a o J;rw [M] at e;cases e;refine l (fun _=>none) (fun _=>.inl rfl) (.inr ⟨_,vs.toArray,_,J,rfl,rfl,rfl,by rw [size_toArray,B];exact hl,by simpa using Y⟩) (fun b u z=>by have t:(none:Option HO)=some u:=z;cases t) (fun b z=>absurd rfl z) fun z=>absurd rfl z
 | none =>
  refine l (fun b=>if b=a then some _ else none) (fun b=>?_) (.inl (.inr ⟨{ cls:=.type "list",data:=.seq vs.toArray },if_pos rfl⟩)) (fun b u z=>?_) (fun b z=>?_) fun _=>J
  .grind
  .by_cases i:b=a
   .have t:=(if_pos i).symm.trans z;cases t;subst i;exact ⟨M,by rw [length_map];exact hl,vs,_,Y,M⟩
   .have t:=(if_neg i).symm.trans z;cases t
  .by_cases i:b=a
   .exact i
   .exact absurd (if_neg i) z
theorem walk_of {l:PySem.W.OpenLaw}{n k:Nat}{q:Program}{g:List Str}{T:(Str->Option Value)->Heap->Prop}{I:World->Heap->Prop}{d:DefRec}{K:Params->Frag}{CX:World->CXT}{sp:World->Sp}{x:Str}
  (Q:l.most=some n) (C:n<=sizeLine) (z:d.params.defaults=[]) (P:Room k callerA)
  (L:∀ w h,I w h->(K w.params).In h)
  (F:∀ w j r h,(K w.params).In h->h.Ns mainGlobals j->j d.name=some (.ref r) ->
   ∃ y:FuncData,(∀ s u,BindsTo s y ⟨[u],[]⟩ [(x,u)]) /\
    ∀ base,(K w.params).In base->base.Ns mainGlobals j->FnOk l.prog w (K w.params) j base (CX w) k r y [x] (sp w))
  (t:∀ w H a (ns:List Int),ns.length<=n->yEu H->SqL (K w.params) H a (ns.map V.int)->sp w [.ref a] H (fun v _=>v=.bl true) fun _ _ _=>False)
  (A:∀ w H s e s',CX w [] H s (fun _ _ _=>False) e s'->False) :
  PySem.W.WalkO q g T I l.row.toRowW d [] fun f vs=>PySem.call f vs:=by
 refine Att.attach_call Q z fun w E m j mb r o Z W R a vs ns G Y ho X O B p i c M=>?_
 have D:=L w _ Y;obtain ⟨y,S,U⟩:=F w j r _ D G.T.g B;exact yuh D G.T.g G.T.b G.T.builtins G.T.nolimit M p i (Nat.le_trans c C) P U S (fun H J N=>t w H a ns c J N) fun H e s'=>A w H m e s'
noncomputable def inClass (s:Stmt) (j:Nat):Stmt:=match s with
 | .ClassDef _ _ _ body _ _ _ _ _ _ _=>body.getD j (.Pass ⟨0,0,0,0⟩)
 | _=>.Pass ⟨0,0,0,0⟩
noncomputable def ynf (s:Stmt):Arguments:=match s with
 | .FunctionDef _ a _ _ _ _ _ _ _ _=>a
 | _=>{ posonlyargs:=[],args:=[],vararg:=none,kwonlyargs:=[],kw_defaults:=[],kwarg:=none,defaults:=[] }
noncomputable def yfT (s:Stmt):List Stmt:=match s with
 | .FunctionDef _ _ b _ _ _ _ _ _ _=>b
 | _=>[]
noncomputable def ybT (s:Stmt):Scope:=match s with
 | .FunctionDef _ _ _ _ _ _ sc _ _ _=>sc
 | _=>{ kind:=.function,names:=[],isGenerator:=false,isCoroutine:=false }
abbrev CX0:CXT:=fun _ _ _ _ _ _=>False
abbrev E0:XK:=fun _ _ _=>False
theorem ylw:ygq CX0 X E0:=fun _ _ _ _ _ _ _ h=>h.elim
structure Fun (K:Frag) (x qual:Str) (st:Stmt) (f:Addr) (fd:FuncData):Prop where
 ex:∃ (oc:Value) (od:Option Addr) (kV doc pm:Value) (an:Option Addr) (cdv ct:Value) (osl:Array (Option Value)),
  fd=fnOf x qual (ynf st) (yfT st) (ybT st) .none kV doc pm an cdv ct/\K.lookup f=some ⟨oc,od,.func fd,osl⟩/\codeIn K cdv qual=true
 kp:keepIn K (.ref f)=true
section
variable {P:Program}{w:World}{K:Frag}{mg:Str->Option Value}{base:Heap}
theorem Fun.ok {x b:Str}{st:Stmt}{f:Addr}{j:FuncData}{N ps:List Str}{k:Nat}{sp:Sp}(F:Fun K x b st f j) (S:yeE N ps (ybT st)) (g:∀ vs H Q E,sp vs H Q E->vs.length=ps.length)
  (d:∀ c A outer s H vs Q E,Room k (A.deeper (envOfC b (ybT st) s.heap.objs.size f c))->sp vs H Q E ->
   ∃ t,PSs (yuf CX0 P w K mg base N b (ybT st) f c A outer s H E).nox (yfT st) t/\t { nx:=fun _ p=>Q .non p,rt:=Q } (start N vs) H):FnOk P w K mg base CX0 (k+1) f j ps sp:=by
 obtain ⟨v,od,kV,o,y,u,c,r,n,rfl,l,i⟩:=F.ex;refine yEr l i S g fun A outer s H vs Q E m e=>?_
 obtain ⟨t,h,q⟩:=d c A outer s H vs Q E m e;exact ⟨t,h.nox,q⟩
theorem fun_mk {x qual:Str}{st:Stmt}{f:Addr}{oc:Value}{od an:Option Addr}{osl:Array (Option Value)}{kV doc pm cdv ct:Value}(l:K.lookup f=some ⟨oc,od,.func (fnOf x qual (ynf st) (yfT st) (ybT st) .none kV doc pm an cdv ct),osl⟩)
  (c:codeIn K cdv qual=true) (k:keepIn K (.ref f)=true):Fun K x qual st f (fnOf x qual (ynf st) (yfT st) (ybT st) .none kV doc pm an cdv ct):=⟨⟨oc,od,kV,doc,pm,an,cdv,ct,osl,rfl,l,c⟩,k⟩
end
theorem yxZ (b:Room k A):A.units+1<cLine:=Nat.lt_of_le_of_lt (Nat.add_le_add_left (by decide) _) b.units
theorem ylx (h:n<=1000):n<sizeLine:=Nat.lt_of_le_of_lt h (by decide)
noncomputable def Same (H H':Hp):Prop:=∀ b o,H b=some o->H' b=some o
theorem Same.refl H:Same H H:=fun _ _ h=>h
theorem Same.trans (a:Same H f) (b:Same f e):Same H e:=fun c o h=>b c o (a c o h)
theorem Same.free (e:Same H a) (h:a l=Option.none):H l=Option.none:=by
 cases q:H l with
 | none=>rfl
 | some o =>
  rw [e l o q] at h;cases h
theorem Same.seq {K:Frag}{H c:Hp}{a:Addr}{xs:List V}(e:Same H c) (h:SqL K H a xs):SqL K c a xs:=by
 rcases h with (h|⟨o,h⟩)|h
 .exact .inl (.inl (e _ _ h))
 .exact .inl (.inr ⟨o,e _ _ h⟩)
 .exact .inr h
noncomputable def cV:V->Option Value
 | .ty n=>some (.type n)
 | .ref a=>some (.ref a)
 | _=>none
def IsI (K:Frag) (H:Hp) (x c:V) (b:Bool):Prop:=∃ t u,yov K H x t/\cV c=some u/\PySem.W.kitOne K t u=some b
theorem yng {K:Frag}{H:Hp}{i:Int}:IsI K H (.int i) (.ty "int") true:=⟨_,_,.int i,rfl,by with_unfolding_all rfl⟩
theorem yly {K:Frag}{H:Hp}{i:Int}:IsI K H (.int i) (.ty "bool") false:=⟨_,_,.int i,rfl,by with_unfolding_all rfl⟩
theorem ynh {K:Frag}{H:Hp}:IsI K H .non (.ty "int") false:=⟨_,_,.non,rfl,by with_unfolding_all rfl⟩
theorem yni {K:Frag}{H:Hp}{i:Bool}:IsI K H (.bl i) (.ty "bool") true:=⟨_,_,.bl i,rfl,by with_unfolding_all rfl⟩
theorem ynj {K:Frag}{H:Hp}{i:Str}:IsI K H (.str i) (.ty "str") true:=⟨_,_,.str i,rfl,by with_unfolding_all rfl⟩
theorem ylz {K:Frag}{H:Hp}{a:Addr}{xs:List V}(e:H a=some (.lst xs)):IsI K H (.ref a) (.ty "list") true:=⟨_,_,.lst e,rfl,by with_unfolding_all rfl⟩
theorem str_len {v:Int}(b:0<=v) {k:Nat}(c:0<k) (h:v<10 ^ k):(Str.ofString (toString v)).length<=k:=toString_length_le b c h
end L2
namespace L2
open PySem
abbrev yEv:R2:=rI0 fun i j=>.int (i+j)
abbrev yEw:R2:=rI0 fun i j=>.int (i-j)
abbrev yEx:R2:=rI CMul fun i j=>.int (i*j)
abbrev yEy:R2:=rI yGp fun i j=>.int (i/j)
abbrev yEz:R2:=rI (fun _ j=>0<j) fun i j=>.int (i%j)
abbrev yEA:R2:=rI yEo fun i j=>.int (i ^ j.toNat)
abbrev yHa:R2:=rI0 fun i j=>.bl (decide (i<j))
abbrev yHb:R2:=rI0 fun i j=>.bl (decide (i<=j))
abbrev yHc:R2:=rI0 fun i j=>.bl (decide (j<i))
abbrev yHd:R2:=rI0 fun i j=>.bl (decide (j<=i))
abbrev yEB:V->Hp->VK->Prop:=rU fun i=>.int (-i)
noncomputable def yEC:R2:=fun x y H Q=>∃ i j,x=.str i/\y=.str j/\i.length+j.length<=sizeLine/\Q (.str (i++j)) H
noncomputable def yHe:R2:=fun x y H Q=>y=.non/\Q (.bl (decide (x=.non))) H
noncomputable def yED:R2:=fun x y H Q=>y=.non/\Q (.bl (!decide (x=.non))) H
noncomputable def yEE:List V->Hp->VK->Prop:=fun xs H Q=>∃ z,xs=[.str z]/\z.length<=sizeLine/\Q (.int z.length) H
def yBk (K:Frag):List V->Hp->VK->Prop:=fun xs H Q=>∃ p ys,xs=[.ref p]/\(SqL K H p ys\/SqT K H p ys)/\Q (.int ys.length) H
noncomputable def yEF:List V->Hp->VK->Prop:=fun xs H Q=>∃ i,xs=[.int i]/\i.natAbs.log2<1920/\Q (.str (toString i)) H
def yGA (K:Frag):List V->Hp->VK->Prop:=fun xs H Q=>∃ x c b,xs=[x,c]/\IsI K H x c b/\Q (.bl b) H
theorem yef (h:H p=none) o:Same H (upd H p o):=fun b u q=>by rw [yR (ybJ q h)];exact q
section
variable {K:Frag}{Z:St}{H:Hp}{Q:VK}{ta tb tc:TE}{tA tB':TT}{t u:TS}{D:Ends}
theorem w_not {Q:Bool->Hp->Prop}:yEh tA Z H Q=tA Z H fun c H1=>Q (!c) H1:=rfl
end
noncomputable def yya (cs:List Nat):Int:=cs.foldl (fun (a:Int) (c:Nat)=>a*10+((c:Int)-48)) 0
def yBl:List V->Hp->VK->Prop:=fun xs H Q=>∃ x:Str,xs=[.str x]/\x.cps.toList≠[]/\(∀ c∈x.cps.toList,48<=c/\c<=57)/\x.length<=640/\Q (.int (yya x.cps.toList)) H
noncomputable def yGB:R2:=fun x y H Q=>∃ (c:Nat) (j:Str),x=.str ⟨#[c]⟩/\y=.str j/\Q (.bl (decide (c∈j.cps.toList))) H
noncomputable def yre:V->List V->Hp->VK->Prop:=fun x vs H Q=>∃ (z:Str) (c:Nat),x=.str z/\vs=[.str ⟨#[c]⟩]/\z.length<=1000/\c∈z.cps.toList/\Q (.int (z.cps.toList.idxOf c)) H
noncomputable def rJoin:V->List V->Hp->VK->Prop:=fun x vs H Q=>∃ (sep:Str) (p:Addr) (ts:List Str),x=.str sep/\vs=[.ref p]/\H p=some (.lst (ts.map V.str))/\sep.length<=16/\(ts.map (·.length)).sum+ts.length<=1048576/\Q (.str (Str.join sep ts)) H
noncomputable def yGC:List V->Hp->VK->Prop:=fun xs H Q=>∃ (p:Addr) (bs:List Bool),xs=[.ref p]/\H p=some (.lst (bs.map V.bl))/\Q (.bl (bs.all id)) H
noncomputable def yGD:List V->Hp->VK->Prop:=fun xs H Q=>∃ (p:Addr) (ns:List Int),xs=[.ref p]/\H p=some (.lst (ns.map V.int))/\Q (.int ns.sum) H
def yyb (K:Frag):List V->Hp->VK->Prop:=fun xs H Q=>∃ p ys,xs=[.ref p]/\(SqL K H p ys\/SqT K H p ys)/\∀ l,H l=none->Q (.ref l) (upd H l (.lst ys))
noncomputable def Its (z:Str):It:=⟨fun i _=>i<z.length,fun i H x H'=>H'=H/\∃ c,z.cps.toList[i]?=some c/\x=.str ⟨#[c]⟩,fun i _=>i=z.length⟩
def yGE (ta:TE):TI:=fun Z H R=>ta Z H fun x H1=>∃ z,x=.str z/\z.length<=sizeLine/\R (Its z) H1
def yBm (J:It) (te:TE) (inn:V->St) (D:Addr) (Q:VK) (H:Hp):Prop:=∃ W:Nat->Nat->Hp->Prop,(∃ m,W 0 m H)/\∀ i m H,W i m H ->
 (J.stop i H/\Q (.ref D) H)\/(J.go i H/\∀ x H',J.yld i H x H'->te (inn x) H' fun y H2=>∃ acc,H2 D=some (.lst acc)/\acc.length<sizeLine/\∃ m',m'<m/\W (i+1) m' (upd H2 D (.lst (acc++[y]))))
noncomputable def inner (ix:List Nat) (Z:St) (x:V):St:=some x::ix.map fun i=>(Z[i]?).getD none
def ypI (wi:TI) (ix:List Nat) (te:TE):TE:=fun Z H Q=>wi Z H fun J H1=>∀ D,H1 D=none->yBm J te (inner ix Z) D Q (upd H1 D (.lst []))
def ywH (C:Addr):TE:=fun _ H Q=>∀ x dx,H x=none->H dx=none->dx≠x->Q (.ref x) (upd (upd H dx (.own x)) x (.ins C dx []))
def ywI {O:Type}(A:O->Addr) (m:Str) (sp:O->Sp) (ta:TE):TE:=fun Z H Q=>ta Z H fun x H1=>∃ a k dx fs,x=.ref a/\H1 a=some (.ins (A k) dx fs)/\fs.lookup m=none/\sp k [x] H1 Q E0
theorem yBn {k b:Str}{v:V}{r:List _}(h:¬ k=b):List.lookup k ((b,v)::r)=List.lookup k r:=by
 have:(k == b)=false:=by simpa using h
 simp [List.lookup,this]
open PySem.Builtin PySem.Builtin.Str
theorem at_one:StrLaws.At z ⟨#[c]⟩ z.length i ↔ z.cps.toList[i]?=some c:=by
 unfold StrLaws.At subAt;have j:(⟨#[c]⟩:Str).length=1:=rfl;rw [j];have f:(z.cps.extract i (i+1) == (⟨#[c]⟩:Str).cps)=true ↔ z.cps.extract i (i+1) = #[c]:=by simp
 rw [f];constructor
 .rintro ⟨h1,h2⟩;have d:(z.cps.extract i (i+1)).toList=[c]:=by rw [h2]
  rw [Array.toList_extract,List.extract_eq_take_drop] at d;have g:((z.cps.toList.drop i).take (i+1-i))[0]?=some c:=by rw [d];rfl
  simpa using g
 .intro h;obtain ⟨b,k⟩:=List.getElem?_eq_some_iff.mp h;have hl:i<z.length:=by simpa [Str.length] using b
  refine ⟨by omega,?_⟩;apply Array.ext';rw [Array.toList_extract,List.extract_eq_take_drop];have e:i+1-i=1:=by omega
  rw [e,List.drop_eq_getElem_cons b,k];rfl
theorem yrf z c:occurrences z ⟨#[c]⟩ 0 z.length 1=[]/\c∉z.cps.toList\/∃ r,occurrences z ⟨#[c]⟩ 0 z.length 1=z.cps.toList.idxOf c::r/\c∈z.cps.toList:=by
 rcases StrLaws.occ_head z _ 1 (Nat.le_refl _) with ⟨h1,h2⟩|⟨i,r,h1,h2,l⟩
 .refine .inl ⟨h1,fun d=>?_⟩;obtain ⟨i,b,e⟩:=getElem_of_mem d;exact h2 i (at_one.mpr (List.getElem?_eq_some_iff.mpr ⟨b,e⟩))
 .have b:=at_one.mp h2;obtain ⟨j,d⟩:=List.getElem?_eq_some_iff.mp b;have g:=mem_of_getElem? b;refine .inr ⟨r,?_,g⟩;have f:=List.idxOf_lt_length_of_mem g;have k:z.cps.toList[z.cps.toList.idxOf c]?=some c:=by rw [List.getElem?_eq_getElem f,List.getElem_idxOf f]
  have e:i=z.cps.toList.idxOf c:=by
   rcases Nat.lt_trichotomy i (z.cps.toList.idxOf c) with h|h|h
   .exact absurd d (by have:=List.not_of_lt_findIdx (p:=(· == c)) (xs:=z.cps.toList) (by simpa [List.idxOf] using h);simpa using this)
   .exact h
   .exact absurd (at_one.mpr k) (l _ h)
  rw [h1,e]
end L2
namespace L2
open PySem PySem.Spec PyProof.Rows
theorem yeq {env:Env} y:∀ b:List _,
  (b.map fun (n,k)=>if k == NameKind.free && env.scope.kind == .function && env.kindOf n == some .cell then (n,NameKind.cell) else (n,k)).lookup y
   = (b.lookup y).map fun k=>if k == NameKind.free && env.scope.kind == .function && env.kindOf y == some .cell then NameKind.cell else k
 | []=>rfl
 | (n,k)::r=>by
  have f:=yeq (env:=env) y r;show List.lookup y ((if (k == NameKind.free && env.scope.kind == .function && env.kindOf n == some _)=true then (n,NameKind.cell) else (n,k))::_)=_;cases d:y == n with
  | true =>
   have e:=eq_of_beq d;subst e
   by_cases c:(k == NameKind.free && env.scope.kind == .function && env.kindOf y == some .cell)=true
   .simp_all
   .rw [if_neg c];simp_all
  | false =>
   by_cases c:(k == NameKind.free && env.scope.kind == .function && env.kindOf n == some .cell)=true
   .rw [if_pos c];simp only [lookup_cons,d];exact f
   .rw [if_neg c];simp only [lookup_cons,d];exact f
theorem yfc {env:Env}:∀ (b:List _) cs,(∀ n,(n,NameKind.free)∈b->∃ c,env.cells.lookup n=some c) ->
  ∃ f,forIn b cs (fun (x:Str×NameKind) (r:List (Str×Addr))=>if (x.2 == NameKind.free)=true then do let c <- cellOf env x.1;pure (ForInStep.yield ((x.1,c)::r)) else pure (ForInStep.yield r))=pure f /\
   (∀ y,(y,NameKind.free)∈b->f.lookup y=env.cells.lookup y)/\∀ y,(y,NameKind.free)∉b->f.lookup y=cs.lookup y
 | [],cs,_=>⟨cs,rfl,fun y h=>by simp at h,fun y _=>rfl⟩
 | (n,k)::r,cs,h=>by
  by_cases l:k=.free
  .subst l;obtain ⟨c,j⟩:=h n mem_cons_self;obtain ⟨f,e,h1,h2⟩:=yfc r ((n,c)::cs) fun y d=>h y (mem_cons_of_mem _ d)
   refine ⟨f,?_,fun y d=>?_,fun y d=>?_⟩
   .have m:cellOf env n=pure c:=by unfold cellOf;rw [j]
    simp_all
   .by_cases g:(y,NameKind.free)∈r
    .exact h1 y g
    simp_all
   .have g:=fun z=>d (mem_cons_of_mem _ z)
    rw [h2 y g];have i:(y == n)=false:=by simp_all
    simp [List.lookup,i]
  .obtain ⟨f,e,h1,h2⟩:=yfc r cs fun y d=>h y (mem_cons_of_mem _ d)
   refine ⟨f,?_,fun y d=>?_,fun y d=>?_⟩
   .simp_all
   .rcases mem_cons.mp d with z|z
    .simp_all
    .exact h1 y z
   simp_all
noncomputable def cxC (X:Cx) (scope:Scope) (cl:List (Str×Addr)) (C:Addr) (N:List Str) (s₃:Shared) (H₃:Hp) (fp:List Addr) (pins:List (Addr×Obj)):Cx :=
 { prog:=X.prog,w:=X.w,K:=X.K,mg:=X.mg,base:=X.base,A:=X.A,N:=N,s₀:=s₃,H₀:=H₃,env:=compEnvC scope cl C X.env,outer:=X.stack,stack:=X.stack,ex:=fp,fn:=fun _=>false,calm:=X.calm,pn:=X.pn++pins,xe:=fun _ _=>False }
noncomputable def FrOk (X:Cx) (scope:Scope):List Nat->List Str->Prop
 | [],[]=>True
 | i::is,y::ys=>X.N[i]?=some y/\scope.names.lookup y=some .free/\X.env.kindOf y=some .cell/\FrOk X scope is ys
 | _,_=>False
theorem FrOk.len:∀ {a:List Nat}{ys:List Str},FrOk X scope a ys->a.length=ys.length
 | [],[],_=>rfl
 | _::a,_::ys,h=>by rw [length_cons,length_cons,FrOk.len h.2.2.2]
theorem FrOk.get:∀ {is:List Nat}{ys:List Str}{j:Nat}{y:Str},FrOk X scope is ys->ys[j]?=some y->∃ i,is[j]?=some i/\X.N[i]?=some y/\scope.names.lookup y=some .free/\X.env.kindOf y=some .cell
 | [],[],_,_,_,e=>by simp at e
 | [],_::_,_,_,h,_=>h.elim
 | _::_,[],_,_,h,_=>h.elim
 | i::is,z::ys,0,y,h,e=>by simp at e;subst e;exact ⟨i,rfl,h.1,h.2.1,h.2.2.1⟩
 | i::is,z::ys,j+1,y,h,e=>by obtain ⟨k,h1,h2⟩:=FrOk.get (j:=j) h.2.2.2 (by simpa using e);exact ⟨k,by simpa using h1,h2⟩
theorem yui {P:Program}{w:World}{K:Frag}{N:Expr}{r:String}(j:r = "str_ascii_iterator"\/r = "str_iterator") (z:Str) (t:Tok) (g:Addr):Turn P w K N (Its z) [g] g (fun i h=>h.IsStrIter g r z t i) where
 mem:=by simp
 obj:=fun i h st b l=>by
  have e:b=g:=by simpa using l
  subst e;obtain ⟨o,e,c,d⟩:=st;simp_all
 keep:=fun i h h' st k=>by obtain ⟨o,e,c,d⟩:=st;exact ⟨o,k g (by simp) o e,c,d⟩
 item:=by
  intro X L G M F i m s Z H E I B st n;subst L G M;obtain ⟨f0,A,Q,C,y,v⟩:=B g (by simp);have n:i<z.length:=n;obtain ⟨ch,hz⟩:∃ ch,z.cps[i]?=some ch:=⟨_,Array.getElem?_eq_getElem (show i<z.cps.size from n)⟩
  have p:∀ h',h'.IsStrIter g r z t (i+1)->Heap.SameBut g s.heap h'->∃ u,some (Value.str ⟨#[ch]⟩ s.toks)=some u /\
    wpAny (model X.prog X.w) X.A (letOwnedTupleGo N (.ref g) u) (fun _ s2=>∃ x D,Inv X m Z D s2/\RelV x u/\(Its z).yld i H x D/\s2.heap.IsStrIter g r z t (i+1)/\∀ b∈[g],D b=none) E { s with heap:=h',toks:=s.toks+1 }:=fun h' f q=>by
   have O:=I.turned (t':=s.toks+1) (fun b o l e=>(q.2 b l).trans e) f0 A C y v;obtain ⟨o,e,c,d⟩:=id f;refine ⟨_,rfl,yqE e c d (by rcases j with rfl|rfl<;>decide) ⟨.str ⟨#[ch]⟩,H,O,⟨_,rfl⟩,⟨rfl,_,by simpa using hz,rfl⟩,f,fun b l=>(B b l).1⟩⟩
  rcases j with rfl|rfl
  .exact wpAny_pyNext_ascii_item st hz fun h' f q=>p h' f q
  .exact wpAny_pyNext_wide_item st hz fun h' f q=>p h' f q
 done:=by
  intro X L G M F i m s Z H E I B st n;subst L G M;obtain ⟨f0,A,Q,C,y,v⟩:=B g (by simp);have n:i=z.length:=n;have hz:z.cps[i]?=none:=by simp [n,Str.length]
  rcases j with rfl|rfl
  .exact wpAny_pyNext_ascii_end (I.ok.hd F) st hz fun h' J=>⟨rfl,I.turned (t':=s.toks) (fun b o l e=>J b o l e) f0 A C y v⟩
  .exact wpAny_pyNext_wide_end (I.ok.hd F) st hz fun h' J=>⟨rfl,I.turned (t':=s.toks) (fun b o l e=>J b o l e) f0 A C y v⟩
 self:=fun _ _ _ _ _ st h=>by
  rcases j with rfl|rfl
  .exact wpAny_pyIter_striter_ascii st h
  .exact wpAny_pyIter_striter_wide st h
section
variable {X:Cx}{tg:Expr}
theorem yBo (hl:PE X l tl):PI X tg l (yGE tl):=by
 intro c s Z H R I h;refine thn (hl c s Z H _ I h) fun v s1 ⟨x,m,i,k,p⟩=>?_
 obtain ⟨z,e,hz,q⟩:=p;subst e;obtain ⟨t,rfl⟩:=k;have d:∀ f,(f = "str_ascii_iterator"\/f = "str_iterator")->PIE X c Z tg R _ { s1 with heap:=s1.heap.push { cls:=.type f,data:=.fields _ } }:=fun f g=>by
  refine ⟨s1.heap.objs.size,_,_,_,m,rfl,i.kept fun b o e=>Heap.get?_push_of_some _ e,yui g z t _,⟨_,Heap.get?_push_size _ rfl,rfl,rfl⟩,fun b n=>?_,q⟩;have e:=by simpa using n
  subst e;exact i.fpOk (Nat.le_refl _) (i.hok.fresh (Nat.le_refl _))
 cases j:z.cps.all _
 .exact wpAny_pyIter_wide j (d _ (.inr rfl))
 .exact wpAny_pyIter_ascii j (d _ (.inl rfl))
theorem ykc:∀ {bs:List Bool}{us:List Value},Vals (bs.map V.bl) us->us=bs.map Value.bool
 | [],_,.nil=>rfl
 | b::bs,_,.cons r t=>by rw [r,ykc t];rfl
theorem yoB (hc:X.calm=true):yfR X (.builtin "all") yGC:=by
 intro pins s Z H xs us Q I r h;obtain ⟨p,bs,rfl,hp,q⟩:=h;obtain ⟨u,rfl,rx⟩:=vals1 r;cases rx;obtain ⟨its,n,rv,e,hz⟩:=I.lst hp;have eb:=ykc rv;subst eb;have hl:s.heap.IsList p (bs.map Value.bool).toArray:=⟨_,e,rfl,n,rfl⟩
 have hlt:p<s.heap.objs.size:=Heap.lt_size e;refine call_all_walk (wpAny_pyIter_list hl ?_);refine ⟨s.heap.objs.size,[s.heap.objs.size,p],[s.heap.objs.size],(bs.map Value.bool).toArray.size,_,_,fun i=>(bs[i]?).getD true,rfl,Walks.list (A:=X.A.in1) (I.ok.hd hc) _ p (ne_of_lt hlt) _,
  ⟨⟨_,Heap.get?_push_size _ rfl,rfl,rfl⟩,hl.push _⟩,fun i v s' Q' E' hP hQ=>?_,fun h' tk hk=>?_⟩
 .have hP:(bs.map Value.bool)[i]?=some v:=by simpa using hP
  rw [getElem?_map] at hP;cases eb:bs[i]? with
  | none=>rw [eb] at hP;cases hP
  | some b =>
   rw [eb] at hP;cases hP;simp only [eb,Option.getD_some] at hQ;exact wpAny_truthy_bool hQ
 .have ea:((List.range (bs.map Value.bool).toArray.size).all fun i=>(bs[i]?).getD true)=bs.all id:=by rw [size_toArray,length_map];exact LSm.range_all bs
  rw [ea];exact ⟨.bl _,H,I.kept (t':=tk) fun b o eo=>hk b o (fun hm=>by rw [List.mem_singleton.mp hm] at eo;exact absurd (Heap.lt_size eo) (lt_irrefl _)) (Heap.get?_push_of_some _ eo),rfl,q⟩
theorem yuj (i:X.calm=true):yfR X (.builtin "sum") yGD:=by
 intro c s Z H xs us Q I r h;obtain ⟨p,ns,rfl,hp,q⟩:=h;obtain ⟨u,rfl,k⟩:=vals1 r;cases k;obtain ⟨its,n,l,e,hz⟩:=I.lst hp;have d:=intsAre_of l;have hl:s.heap.IsList p its.toArray:=⟨_,e,rfl,n,rfl⟩
 obtain ⟨xs,f⟩:=d.allInts.items;have b:=f ▸ hl;refine sum_intListG (I.ok.hd i) b fun h' o t' g=>?_
 have j:ns=xs.toList.map (·.1):=by rw [<- nums_intItems,<- f];exact (d.numsOf).symm
 have m:preSum (numAt xs) xs.size=ns.sum:=by rw [preSum_eq,List.take_of_length_le (by simp),j]
 rw [m];exact ⟨.int ns.sum,H,I.kept g,⟨_,rfl⟩,q⟩
theorem yrg:∀ {ts:List Str}{us:List Value},Vals (ts.map V.str) us->StrsAre us ts
 | [],_,.nil=>.nil
 | y::ts,_,.cons r t=>by
  obtain ⟨k,e⟩:=(r)
  rw [e];exact .cons y k (yrg t)
theorem yyc:MtR X "str.join" rJoin:=by
 intro b s Z H x xs v us Q I d f h;obtain ⟨sep,p,ts,rfl,rfl,hp,h1,h2,q⟩:=h;obtain ⟨t,rfl⟩:=d;obtain ⟨u,rfl,c⟩:=vals1 f;cases c;obtain ⟨its,n,r,e,hz⟩:=I.lst hp;have hl:s.heap.IsList p its.toArray:=⟨_,e,rfl,n,rfl⟩
 refine join_listW hl (yrg r) h1 h2 fun t' k=>⟨.str _,H,I.tok k,⟨t',?_⟩,q⟩
 rw [show Txt.join sep ts=Str.join sep ts from StrLaws.glued_eq_join sep ts]
theorem ylA:OpR X (compareOp .In) yGB:=by
 intro b s Z H x y v u Q I f d h;obtain ⟨c,j,rfl,rfl,q⟩:=h;refine yqO b s Z H _ _ v u Q I f d ⟨_,_,rfl,rfl,?_⟩;have e:(!(Builtin.Str.occurrences j ⟨#[c]⟩ 0 j.length 1).isEmpty)=decide (c∈j.cps.toList):=by
  rcases yrf j c with ⟨h1,h2⟩|⟨r,h1,h2⟩
  .rw [h1];simp [h2]
  .rw [h1];simp [h2]
 rw [e];exact q
theorem yuk (y:makesIn X.K C=true) (z:findIn X.K (.ref C) "__init__" = some (some (.builtin "object.__init__"))) (n:keepIn X.K (.ref C)=true)
  (u:Gl X x) (j:X.mg x=some (.ref C)) (k:(x == ("__debug__":Str))=false:=by decide):PE X (.Call (.Name x p) [] [] pos) (ywH C):=by
 intro l s Z H Q I h;refine wpAny_Call_Name_kw (yhV I u j ?_ k);refine PySem.W.callWith_K0 I.kIn n (wpAny_call ?_);have m:=Inv.made (C:=C) I;have q:=h (s.heap.objs.size+1) s.heap.objs.size (I.hok.fresh (Nat.le_succ _)) (I.hok.fresh (Nat.le_refl _)) (ne_of_lt (Nat.lt_succ_self _));have i:=I.kIn;obtain ⟨c,g,d,t,os⟩:=s;have Y:=PySem.W.makes_of (M:=model X.prog X.w) i y;refine PySem.W.make_core Y (PySem.W.looks_findIn i z) (fun f=>PySem.W.Looks.of_pure (PySem.W.oi_bind f)) (.inr ⟨rfl,rfl⟩) ?_;have v:=by have:=Heap.get?_push_size (h:=c.push emptyDict) (o:=instObj C c.objs.size) rfl;rwa [Heap.size_push] at this
 have w:PySem.W.Looks (model X.prog X.w) _ (typeOf (.ref (c.objs.size+1))) (.ref C):=(PySem.W.Looks.ld v).andThen .now;have r:PySem.W.Looks (model X.prog X.w) _ (isInstance (.ref (c.objs.size+1)) (.type "object")) true:=w.andThen (Y.top.keeps fun b o e=>Heap.get?_push_of_some _ (Heap.get?_push_of_some _ e));refine codeAny_call_builtin PySem.W.oi_plain PySem.W.entry_oi (@PySem.W.check_slot (model X.prog X.w) _ _ _ "object.__init__" "object" "__init__" (.ref (c.objs.size+1)) [] [] _ PySem.W.oi_kind PySem.W.oi_split r (PySem.W.oi_args (.ref (c.objs.size+1))) ?_);show wpAny _ _ (Builtin.«object.__init__» ⟨[.ref (c.objs.size+1)],[]⟩) _ _ _;rw [PySem.W.oi_run];exact wpAny_pure (And.intro rfl ⟨.ref _,_,m,rfl,q⟩)
def ynk {O:Type}(P:Program) (w:World) (K:Frag) (mg:Str->Option Value) (base:Heap) (k:Nat) (A:O->Addr) (m:Str) (sp:O->Sp):Prop :=
 ∀ c:O,Cls K (A c)/\((∀ vs H Q E,¬ sp c vs H Q E)\/∃ f fd ps,Meth K (A c) m f/\FnOk P w K mg base CX0 k f fd ps (sp c)/\Binds K fd ps [])
theorem yrh {O:Type}{A:O->Addr}{m:Str}{sp:O->Sp}{k:Nat}{o:Expr}{i:TE}{d pos:Pos}{pl:Sem Bool}(z:PE X o i) (G:ynk X.prog X.w X.K X.mg X.base k A m sp) (r:Room k X.A)
  (v:eval (.Call (.Attribute o m d) [] [] pos) X.env=(do
   let n <- eval o X.env
   standAt d.atName
   let (f,first) <- holding [n] (getMethod n m pl)
   callWith pos f first (backTo pos (starEach [] X.env)) (backToKw pos (keywordEach [] X.env))):=by rfl):PE X (.Call (.Attribute o m d) [] [] pos) (ywI A m sp i):=by
 intro e s Z H Q I h;refine PySem.W.methodCall_KW (thn (z e s Z H _ I h) fun u s1 ⟨x,E,g,t,a,c,J,fs,w,C,l,q⟩=>?_) v;subst w;obtain rfl:u=Value.ref a:=t;obtain ⟨p,B|⟨f,D,ps,j,F,y⟩⟩:=G c
 .exact (B _ _ _ _ q).elim
 refine ygQ g C p j l ?_;exact PySem.W.callWith_K0 g.kIn j.kp (ylo (us:=[.ref a]) (vs:=[.ref a]) F r y .nil ylw g (.cons rfl .nil) q)
end
noncomputable def ExO (D a:Addr):HO:=.ext fun h=>∃ ox,PySem.W.InstAt h a ox D none
noncomputable def xAd (K:Frag) (n:Str):Addr:=match nsIn K mainGlobals n with|some (some (.ref D))=>D|_=>0
section
variable {X:Cx}
theorem ybm:yfR X (.builtin "isinstance") (yGA X.K):=by
 intro d s Z H xs us Q I r h;obtain ⟨x,c,b,rfl,⟨t,i,g,f,l⟩,q⟩:=h;obtain ⟨u,n,rfl,k,j⟩:=vals2 r;have e:n=i:=by cases c<;>first|(cases f;exact j)|cases f
 subst e;exact yqS I k g l fun m=>⟨.bl b,H,I.tok m,rfl,q⟩
theorem yjA:∀ (cs:List Nat) a,(∀ c∈cs,48<=c/\c<=57)->(cs.foldl (fun e c=>e*10+(c-48)) a:Nat)=cs.foldl (fun (a:Int) (c:Nat)=>a*10+(c-48)) a
 | [],_,_=>rfl
 | c::cs,a,h=>by have g:=h c mem_cons_self;rw [List.foldl_cons,List.foldl_cons,yjA cs _ fun d f=>h d (mem_cons_of_mem _ f)];congr 1;omega
theorem ylB:yfR X (.type "int") yBl:=by intro c s Z H xs us Q I r h;obtain ⟨z,rfl,b,d,hl,q⟩:=h;obtain ⟨u,rfl,t,rfl⟩:=vals1 r;have e:=PySem.intText_digits d b (by omega);have f:(PySem.NumText.digitsVal z.cps.toList:Nat)=yya z.cps.toList:=yjA z.cps.toList 0 d;rw [f] at e;exact PySem.W.KIN.call_text e hl ⟨.int _,H,I.tok _,⟨_,rfl⟩,q⟩
end
section
variable {X:Cx}
theorem yyd (b:Gl X x) (d:X.mg x=some (.int n t)) (c:(x == "__debug__")=false:=by decide):PE X (.Name x pos) (tC (.int n)):=ymY b d ⟨t,rfl⟩ c
theorem yye (b:Gl X x) (d:X.mg x=some (.str n t)) (c:(x == "__debug__")=false:=by decide):PE X (.Name x pos) (tC (.str n)):=ymY b d ⟨t,rfl⟩ c
theorem ynl (c:Gl X x) (e:X.mg x=some (.ref a)) (d:(x == "__debug__")=false:=by decide):PE X (.Name x pos) (tC (.ref a)):=ymY c e rfl d
theorem yBp {x:Str}{n:String}{pos:Pos}(b:Gl X x) (f:X.mg x=none) (c:bootBuiltins x=some (.type n)) (e:x≠"__name__":=by decide) (d:(x == "__debug__")=false:=by decide):PE X (.Name x pos) (tC (.ty n)):=yxI b f c rfl e d
end
theorem ynm {K:Frag}{H:Hp}{i:Int}:IsI K H (.int i) (.ty "str") false:=⟨_,_,.int i,rfl,by with_unfolding_all rfl⟩
theorem ylC {K:Frag}{H:Hp}{i:Int}:IsI K H (.int i) (.ty "list") false:=⟨_,_,.int i,rfl,by with_unfolding_all rfl⟩
theorem ykd {K:Frag}{H:Hp}{i:Int}:IsI K H (.int i) (.ty "tuple") false:=⟨_,_,.int i,rfl,by with_unfolding_all rfl⟩
theorem ylD {K:Frag}{H:Hp}{i:Int}:IsI K H (.int i) (.ty "dict") false:=⟨_,_,.int i,rfl,by with_unfolding_all rfl⟩
theorem ypJ {K:Frag}{H:Hp}{i:Bool}:IsI K H (.bl i) (.ty "int") true:=⟨_,_,.bl i,rfl,by with_unfolding_all rfl⟩
theorem ypK {K:Frag}{H:Hp}{i:Bool}:IsI K H (.bl i) (.ty "str") false:=⟨_,_,.bl i,rfl,by with_unfolding_all rfl⟩
theorem ynn {K:Frag}{H:Hp}{i:Bool}:IsI K H (.bl i) (.ty "list") false:=⟨_,_,.bl i,rfl,by with_unfolding_all rfl⟩
theorem ylE {K:Frag}{H:Hp}{i:Bool}:IsI K H (.bl i) (.ty "tuple") false:=⟨_,_,.bl i,rfl,by with_unfolding_all rfl⟩
theorem yno {K:Frag}{H:Hp}{i:Bool}:IsI K H (.bl i) (.ty "dict") false:=⟨_,_,.bl i,rfl,by with_unfolding_all rfl⟩
theorem ynp {K:Frag}{H:Hp}{i:Str}:IsI K H (.str i) (.ty "int") false:=⟨_,_,.str i,rfl,by with_unfolding_all rfl⟩
theorem ylF {K:Frag}{H:Hp}{i:Str}:IsI K H (.str i) (.ty "bool") false:=⟨_,_,.str i,rfl,by with_unfolding_all rfl⟩
theorem ylG {K:Frag}{H:Hp}{i:Str}:IsI K H (.str i) (.ty "list") false:=⟨_,_,.str i,rfl,by with_unfolding_all rfl⟩
theorem yke {K:Frag}{H:Hp}{i:Str}:IsI K H (.str i) (.ty "tuple") false:=⟨_,_,.str i,rfl,by with_unfolding_all rfl⟩
theorem ylH {K:Frag}{H:Hp}{i:Str}:IsI K H (.str i) (.ty "dict") false:=⟨_,_,.str i,rfl,by with_unfolding_all rfl⟩
theorem ylI {K:Frag}{H:Hp}:IsI K H .non (.ty "bool") false:=⟨_,_,.non,rfl,by with_unfolding_all rfl⟩
theorem ynq {K:Frag}{H:Hp}:IsI K H .non (.ty "str") false:=⟨_,_,.non,rfl,by with_unfolding_all rfl⟩
theorem ylJ {K:Frag}{H:Hp}:IsI K H .non (.ty "list") false:=⟨_,_,.non,rfl,by with_unfolding_all rfl⟩
theorem ykf {K:Frag}{H:Hp}:IsI K H .non (.ty "tuple") false:=⟨_,_,.non,rfl,by with_unfolding_all rfl⟩
theorem ylK {K:Frag}{H:Hp}:IsI K H .non (.ty "dict") false:=⟨_,_,.non,rfl,by with_unfolding_all rfl⟩
theorem ynr {K:Frag}{H:Hp}{a:Addr}{xs:List V}(e:H a=some (.lst xs)):IsI K H (.ref a) (.ty "int") false:=⟨_,_,.lst e,rfl,by with_unfolding_all rfl⟩
theorem ylL {K:Frag}{H:Hp}{a:Addr}{xs:List V}(e:H a=some (.lst xs)):IsI K H (.ref a) (.ty "bool") false:=⟨_,_,.lst e,rfl,by with_unfolding_all rfl⟩
theorem yns {K:Frag}{H:Hp}{a:Addr}{xs:List V}(e:H a=some (.lst xs)):IsI K H (.ref a) (.ty "str") false:=⟨_,_,.lst e,rfl,by with_unfolding_all rfl⟩
theorem ykg {K:Frag}{H:Hp}{a:Addr}{xs:List V}(e:H a=some (.lst xs)):IsI K H (.ref a) (.ty "tuple") false:=⟨_,_,.lst e,rfl,by with_unfolding_all rfl⟩
theorem ylM {K:Frag}{H:Hp}{a:Addr}{xs:List V}(e:H a=some (.lst xs)):IsI K H (.ref a) (.ty "dict") false:=⟨_,_,.lst e,rfl,by with_unfolding_all rfl⟩
theorem ykh {K:Frag}(e:(∃ xs,H a=some (.tup xs))\/∃ o,K.lookup a=some o/\o.cls=.type "tuple"):IsI K H (.ref a) (.ty "tuple") true:=e.elim (fun ⟨_,e⟩=>⟨_,_,.tup e,rfl,by with_unfolding_all rfl⟩) fun ⟨_,e,c⟩=>⟨_,_,.kt e c,rfl,by with_unfolding_all rfl⟩
theorem ynt {K:Frag}(e:(∃ xs,H a=some (.tup xs))\/∃ o,K.lookup a=some o/\o.cls=.type "tuple"):IsI K H (.ref a) (.ty "int") false:=e.elim (fun ⟨_,e⟩=>⟨_,_,.tup e,rfl,by with_unfolding_all rfl⟩) fun ⟨_,e,c⟩=>⟨_,_,.kt e c,rfl,by with_unfolding_all rfl⟩
theorem ylN {K:Frag}(e:(∃ xs,H a=some (.tup xs))\/∃ o,K.lookup a=some o/\o.cls=.type "tuple"):IsI K H (.ref a) (.ty "bool") false:=e.elim (fun ⟨_,e⟩=>⟨_,_,.tup e,rfl,by with_unfolding_all rfl⟩) fun ⟨_,e,c⟩=>⟨_,_,.kt e c,rfl,by with_unfolding_all rfl⟩
theorem ynu {K:Frag}(e:(∃ xs,H a=some (.tup xs))\/∃ o,K.lookup a=some o/\o.cls=.type "tuple"):IsI K H (.ref a) (.ty "str") false:=e.elim (fun ⟨_,e⟩=>⟨_,_,.tup e,rfl,by with_unfolding_all rfl⟩) fun ⟨_,e,c⟩=>⟨_,_,.kt e c,rfl,by with_unfolding_all rfl⟩
theorem ylO {K:Frag}(e:(∃ xs,H a=some (.tup xs))\/∃ o,K.lookup a=some o/\o.cls=.type "tuple"):IsI K H (.ref a) (.ty "list") false:=e.elim (fun ⟨_,e⟩=>⟨_,_,.tup e,rfl,by with_unfolding_all rfl⟩) fun ⟨_,e,c⟩=>⟨_,_,.kt e c,rfl,by with_unfolding_all rfl⟩
theorem ylP {K:Frag}(e:(∃ xs,H a=some (.tup xs))\/∃ o,K.lookup a=some o/\o.cls=.type "tuple"):IsI K H (.ref a) (.ty "dict") false:=e.elim (fun ⟨_,e⟩=>⟨_,_,.tup e,rfl,by with_unfolding_all rfl⟩) fun ⟨_,e,c⟩=>⟨_,_,.kt e c,rfl,by with_unfolding_all rfl⟩
theorem yul {K:Frag}{C:Addr}:PySem.W.kitOne K (.ref C) (.ref C)=some true:=by unfold PySem.W.kitOne;simp_all
theorem yum {K:Frag}{C d:Addr}{b:Bool}(f:mroIn K d (.type "object")=some true) (g:typeIn K (.ref d)=some (.type "type")) (hs:subIn K (.ref C) (.ref d)=some b):PySem.W.kitCls K (.ref C) (.ref d)=some b:=by
 unfold PySem.W.kitCls;have h1:(PySem.W.clsIn K d).isSome=true:=by
  unfold mroIn at f;cases e:PySem.W.clsIn K d with
  | none=>rw [e] at f;cases f
  | some c=>rfl
 have h2:(typeIn K (.ref d) == some (.type "type"))=true:=by rw [g];simp
 simp_all
theorem yun {K:Frag}{C b:Addr}(e:(C == b)=false) (d:mroIn K b (.type "object")=some true) (c:typeIn K (.ref b)=some (.type "type")) (hs:subIn K (.ref C) (.ref b)=some false):PySem.W.kitOne K (.ref C) (.ref b)=some false:=by
 unfold PySem.W.kitOne;have:¬ (Value.ref C == Value.ref b)=true:=by simp_all
 rw [if_neg this];exact yum d c hs
end L2
namespace PX
open PySem L2
structure Ck where
 K:Frag
 A:Nat->Addr
inductive PV where
 | non|bl (b:Bool)|int (i:Int)|str (s:Str)|ty (n:String)|cls (k:Nat)
 | scr (ns:List Int)
 | lst (xs:List PV)|tup (xs:List PV)
 | ins (k:Nat) (ns:List Str) (xs:List PV)
 | loc (n:Nat)
 | exc (n:Str)|xcl (n:Str)
inductive Nd where
 | lst (xs:List PV)|dct (ks:List Key) (xs:List PV)|fz (ks:List Key) (xs:List PV)|ins (k:Nat) (ns:List Str) (xs:List PV)|dead
abbrev AH:=List Nd
inductive PVar where|no|val (x:PV)|own (d:Nd)
abbrev PSt:=List PVar
inductive Out where|nx (ρ:PSt)|rt (x:PV)|bk (ρ:PSt)|ct (ρ:PSt)
noncomputable abbrev XE:=PSt->AH->Option (PV×AH)
noncomputable abbrev XT:=PSt->AH->Option (Bool×AH)
noncomputable abbrev XA:=PSt->AH->Option (List PV×AH)
noncomputable abbrev XO:=PSt->AH->Option (Nd×AH)
noncomputable abbrev XS:=PSt->AH->Option (Out×AH)
noncomputable abbrev Fn:=List PV->AH->Option (PV×AH)
def KTp (K:Frag) (a:Addr) (xs:List V):Prop:=∃ (o:Obj) (its:Array Value) (n:Nat),K.lookup a=some o/\o.cls=.type "tuple"/\o.data=.seq its n/\its.size<=sizeLine/\Vals xs its.toList
def TpAt (K:Frag) (F:Hp) (a:Addr) (xs:List V):Prop:=F a=some (.tup xs)\/KTp K a xs
theorem TpAt.mono (s:Same F c) (h:TpAt K F a xs):TpAt K c a xs:=h.elim (fun h=>.inl (s _ _ h)) .inr
mutual
noncomputable def Rep (K:Ck) (F:Hp) (m:List Addr):PV->V->Prop
 | .non,v=>v=.non
 | .bl b,v=>v=.bl b
 | .int i,v=>v=.int i
 | .str s,v=>v=.str s
 | .ty n,v=>v=.ty n
 | .cls k,v=>v=.ref (K.A k)
 | .scr ns,v=>∃ a,v=.ref a/\SqL K.K F a (ns.map V.int)
 | .lst xs,v=>∃ a vs,v=.ref a/\F a=some (.lst vs)/\RepL K F m xs vs
 | .tup xs,v=>∃ a vs,v=.ref a/\TpAt K.K F a vs/\RepL K F m xs vs
 | .ins k ns xs,v=>∃ a dx vs,v=.ref a/\F a=some (.ins (K.A k) dx (ns.zip vs))/\vs.length=ns.length/\RepL K F m xs vs
 | .loc n,v=>∃ a,v=.ref a/\m[n]?=some a
 | .exc n,v=>∃ a,v=.ref a/\F a=some (ExO (xAd K.K n) a)
 | .xcl n,v=>v=.ref (xAd K.K n)
noncomputable def RepL (K:Ck) (F:Hp) (m:List Addr):List PV->List V->Prop
 | [],vs=>vs=[]
 | x::xs,vs=>∃ v r,vs=v::r/\Rep K F m x v/\RepL K F m xs r
end
section
variable {K:Ck}{F F' H H':Hp}{m m':List Addr}
theorem yeF {n:Nat}{a:Addr}(p:m <+: m') (h:m[n]?=some a):m'[n]?=some a:=by obtain ⟨r,rfl⟩:=p;rw [getElem?_append_left (List.getElem?_eq_some_iff.mp h).1];exact h
mutual
theorem Rep.mono (s:Same F F') (p:m <+: m'):∀ (x:PV) (v:V),Rep K F m x v->Rep K F' m' x v
 | .non,_,h=>h
 | .bl _,_,h=>h
 | .int _,_,h=>h
 | .str _,_,h=>h
 | .ty _,_,h=>h
 | .cls _,_,h=>h
 | .scr _,_,⟨a,e,h⟩=>⟨a,e,s.seq h⟩
 | .lst xs,_,⟨a,vs,e,h,r⟩=>⟨a,vs,e,s _ _ h,RepL.mono s p xs vs r⟩
 | .tup xs,_,⟨a,vs,e,h,r⟩=>⟨a,vs,e,h.mono s,RepL.mono s p xs vs r⟩
 | .ins _ _ xs,_,⟨a,dx,vs,e,h,l,r⟩=>⟨a,dx,vs,e,s _ _ h,l,RepL.mono s p xs vs r⟩
 | .loc _,_,⟨a,e,h⟩=>⟨a,e,yeF p h⟩
 | .exc _,_,⟨a,e,h⟩=>⟨a,e,s _ _ h⟩
 | .xcl _,_,h=>h
theorem RepL.mono (s:Same F F') (p:m <+: m'):∀ (xs:List PV) (vs:List V),RepL K F m xs vs->RepL K F' m' xs vs
 | [],_,h=>h
 | x::xs,_,⟨v,r,e,h,l⟩=>⟨v,r,e,Rep.mono s p x v h,RepL.mono s p xs r l⟩
end
theorem RepL.len:∀ {xs:List PV}{vs:List V},RepL K F m xs vs->vs.length=xs.length
 | [],_,h=>by rw [h];rfl
 | x::xs,_,⟨v,r,e,h,l⟩=>by rw [e,length_cons,length_cons,RepL.len l]
theorem RepL.get:∀ {xs:List PV}{vs:List V}{i:Nat}{x:PV},RepL K F m xs vs->xs[i]?=some x->∃ v,vs[i]?=some v/\Rep K F m x v
 | x::xs,_,0,y,⟨v,r,e,h,l⟩,q=>by simp at q;subst q;subst e;exact ⟨v,rfl,h⟩
 | x::xs,_,i+1,y,⟨v,r,e,h,l⟩,q=>by subst e;obtain ⟨w,h1,h2⟩:=RepL.get (i:=i) l (by simpa using q);exact ⟨w,by simpa using h1,h2⟩
theorem RepL.get' {xs:List PV}{vs:List V}{i:Nat}{v:V}(h:RepL K F m xs vs) (e:vs[i]?=some v):∃ x,xs[i]?=some x/\Rep K F m x v:=by have hl:=h.len;have hi:i<vs.length:=(List.getElem?_eq_some_iff.mp e).1;have hx:xs[i]?=some xs[i]:=List.getElem?_eq_getElem (by omega);obtain ⟨w,h1,h2⟩:=h.get hx;rw [e] at h1;cases h1;exact ⟨_,hx,h2⟩
theorem RepL.app:∀ {xs ys:List PV}{vs us:List V},RepL K F m xs vs->RepL K F m ys us->RepL K F m (xs++ys) (vs++us)
 | [],_,_,_,h,k=>by rw [h];exact k
 | x::xs,ys,_,us,⟨v,r,e,h,l⟩,k=>by subst e;exact ⟨v,_,rfl,h,RepL.app l k⟩
theorem RepL.snoc (h:RepL K F m xs vs) (k:Rep K F m x v):RepL K F m (xs++[x]) (vs++[v]):=h.app ⟨v,[],rfl,k,rfl⟩
theorem RepL.drop:∀ {xs:List PV}{vs:List V}(n:Nat),RepL K F m xs vs->RepL K F m (xs.drop n) (vs.drop n)
 | _,_,0,h=>by simpa using h
 | [],_,n+1,h=>by rw [show _=[] from h];rfl
 | x::xs,_,n+1,⟨v,r,e,h,l⟩=>by subst e;simpa using RepL.drop n l
theorem RepL.take:∀ {xs:List PV}{vs:List V} n,RepL K F m xs vs->RepL K F m (xs.take n) (vs.take n)
 | _,_,0,h=>rfl
 | [],_,n+1,h=>by rw [h];rfl
 | x::xs,_,n+1,⟨v,r,e,h,l⟩=>by subst e;exact ⟨v,_,rfl,h,RepL.take n l⟩
theorem RepL.set:∀ {xs:List PV}{vs:List V}{x:PV}{v:V}(i:Nat),RepL K F m xs vs->Rep K F m x v->RepL K F m (xs.set i x) (vs.set i v)
 | [],_,_,_,_,h,_=>by rw [show _=[] from h];rfl
 | y::xs,_,x,v,0,⟨w,r,e,h,l⟩,k=>by subst e;exact ⟨v,r,rfl,k,l⟩
 | y::xs,_,x,v,i+1,⟨w,r,e,h,l⟩,k=>by subst e;exact ⟨w,r.set i v,rfl,h,RepL.set i l k⟩
theorem RepL.of_ints:∀ (ns:List Int),RepL K F m (ns.map PV.int) (ns.map V.int)
 | []=>rfl
 | n::ns=>⟨_,_,rfl,rfl,RepL.of_ints ns⟩
end
def NdAt (K:Ck) (F H:Hp) (m:List Addr):Nd->Addr->Prop
 | .dead,a=>∃ o,H a=some o
 | .lst xs,a=>F a=none/\∃ vs,H a=some (.lst vs)/\RepL K F m xs vs
 | .dct ks xs,a=>F a=none/\∃ vs,H a=some (.dK (ks.zip vs))/\vs.length=ks.length/\RepL K F m xs vs
 | .fz ks xs,a=>F a=none/\∃ o vs,H a=some (.frz o (.dK (ks.zip vs)))/\vs.length=ks.length/\RepL K F m xs vs
 | .ins k ns xs,a=>F a=none/\∃ dx vs,H a=some (.ins (K.A k) dx (ns.zip vs))/\vs.length=ns.length/\RepL K F m xs vs
structure Wd where
 F:Hp
 H:Hp
 m:List Addr
 h:AH
structure WOk (K:Ck) (W:Wd):Prop where
 le:Same W.F W.H
 len:W.m.length=W.h.length
 nd:W.m.Nodup
 at_:∀ (n:Nat) (d:Nd) (a:Addr),W.h[n]?=some d->W.m[n]?=some a->NdAt K W.F W.H W.m d a
structure Le (K:Ck) (W W':Wd):Prop where
 ok:WOk K W'
 fs:Same W.F W'.F
 pre:W.m <+: W'.m
 keep:∀ b o,W.H b=some o->b∉W.m->W'.H b=some o
 new:∀ b o,W.H b=some o->b∉W.m->W.F b=none->W'.F b=none
 mn:∀ b∈W'.m,b∉W.m->W.H b=none
 fz:∀ (n:Nat) (ks:List Key) (xs:List PV),W.h[n]?=some (.fz ks xs)->W'.h[n]?=some (.fz ks xs)/\∀ a,W.m[n]?=some a->W'.H a=W.H a
theorem Le.refl (h:WOk K W):Le K W W:=⟨h,Same.refl _,prefix_refl _,fun _ _ e _=>e,fun _ _ _ _ e=>e,fun _ h h'=>absurd h h',fun _ _ _ e=>⟨e,fun _ _=>rfl⟩⟩
theorem Le.trans (a:Le K W g) (b:Le K g h):Le K W h where
 ok:=b.ok
 fs:=a.fs.trans b.fs
 pre:=a.pre.trans b.pre
 keep:=fun c o e n=>b.keep c o (a.keep c o e n) fun z=>by rw [a.mn c z n] at e;cases e
 new:=fun c o e n f=>b.new c o (a.keep c o e n) (fun z=>by rw [a.mn c z n] at e;cases e) (a.new c o e n f)
 mn:=fun c z n=>by
  by_cases i:c∈g.m
  .exact a.mn c i n
  .have:=b.mn c z i
   cases e:W.H c with
   | none=>rfl
   | some o=>rw [a.keep c o e n] at this;cases this
 fz:=fun n ks xs e=>by obtain ⟨p,k⟩:=a.fz n ks xs e;obtain ⟨l,m⟩:=b.fz n ks xs p;exact ⟨l,fun c j=>(m c (yeF a.pre j)).trans (k c j)⟩
abbrev ycO (K:Ck) (W:Wd) (x:PV) (v:V):Prop:=Rep K W.F W.m x v
abbrev ycL (K:Ck) (W:Wd) (x:List PV) (v:List V):Prop:=RepL K W.F W.m x v
theorem Le.rep (l:Le K W a) (h:ycO K W x v):ycO K a x v:=Rep.mono l.fs l.pre x v h
theorem Le.repL (l:Le K W a) (h:ycL K W x v):ycL K a x v:=RepL.mono l.fs l.pre x v h
theorem NdAt.mono (s:Same F g) (p:m <+: m') (b:∀ o,H a=some o->i a=some o) (c:F a=none->g a=none) (h:NdAt K F H m d a):NdAt K g i m' d a:=by
 cases d with
 | dead=>obtain ⟨o,e⟩:=h;exact ⟨o,b _ e⟩
 | lst xs=>obtain ⟨f,vs,e,r⟩:=h;exact ⟨c f,vs,b _ e,RepL.mono s p _ _ r⟩
 | dct ks xs=>obtain ⟨f,vs,e,l,r⟩:=h;exact ⟨c f,vs,b _ e,l,RepL.mono s p _ _ r⟩
 | fz ks xs=>obtain ⟨f,o,vs,e,l,r⟩:=h;exact ⟨c f,o,vs,b _ e,l,RepL.mono s p _ _ r⟩
 | ins C ns xs=>obtain ⟨f,j,vs,e,l,r⟩:=h;exact ⟨c f,j,vs,b _ e,l,RepL.mono s p _ _ r⟩
theorem NdAt.some (h:NdAt K F H m d a):∃ o,H a=some o:=by
 cases d with
 | dead=>exact h
 | lst xs=>obtain ⟨f,vs,e,r⟩:=h;exact ⟨_,e⟩
 | dct ks xs=>obtain ⟨f,vs,e,r⟩:=h;exact ⟨_,e⟩
 | fz ks xs=>obtain ⟨f,o,vs,e,r⟩:=h;exact ⟨_,e⟩
 | ins C ns xs=>obtain ⟨f,b,vs,e,r⟩:=h;exact ⟨_,e⟩
structure Good (K:Ck) (W0 W:Wd) (ρ:PSt) (Z:St):Prop where
 le:Le K W0 W
 len:Z.length=ρ.length
 val:∀ (i:Nat) (x:PV),ρ[i]?=some (.val x)->∃ v,Z[i]?=some (some v)/\ycO K W x v
 own:∀ (i:Nat) (d:Nd),ρ[i]?=some (.own d)->∃ p,Z[i]?=some (some (.ref p))/\p∉W.m/\W0.H p=none/\d≠.dead/\NdAt K W.F W.H W.m d p
 ne:∀ (i j:Nat) (d d':Nd),i≠j->ρ[i]?=some (.own d)->ρ[j]?=some (.own d')->Z[i]?≠Z[j]?
theorem Good.ok (g:Good K a W ρ Z):WOk K W:=g.le.ok
theorem Good.step (g:Good K j W ρ Z) (l:Le K W b):Good K j b ρ Z where
 le:=g.le.trans l
 len:=g.len
 val:=fun i x e=>let ⟨v,h1,h2⟩:=g.val i x e;⟨v,h1,l.rep h2⟩
 own:=fun i d e=>by
  obtain ⟨p,h1,h2,k,m,h⟩:=g.own i d e;obtain ⟨o,c⟩:=h.some;have n:p∉b.m:=fun z=>by rw [l.mn p z h2] at c;cases c
  refine ⟨p,h1,n,k,m,h.mono l.fs l.pre (fun o e=>l.keep p o e h2) fun f=>l.new p o c h2 f⟩
 ne:=g.ne
theorem WOk.some (w:WOk K W) (h:a∈W.m):∃ o,W.H a=some o:=by
 obtain ⟨n,c,e⟩:=getElem_of_mem h;have hl:n<W.h.length:=by rw [<- w.len];exact c
 exact (w.at_ n _ a (List.getElem?_eq_getElem hl) (by simp_all)).some
theorem Le.fresh (l:Le K W W') (h:W'.H p=none):W.H p=none:=by
 cases e:W.H p with
 | none=>rfl
 | some o =>
  by_cases hm:p∈W.m
  .obtain ⟨o,q⟩:=l.ok.some (l.pre.subset hm);rw [h] at q;cases q
  .rw [l.keep p o e hm] at h;cases h
theorem WOk.out (w:WOk K W) (h:W.H p=none):p∉W.m:=fun z=>by obtain ⟨o,q⟩:=w.some z;rw [h] at q;cases q
theorem WOk.ff (w:WOk K W) (h:W.H p=none):W.F p=none:=Same.free w.le h
structure Lf (K:Ck) (W W':Wd):Prop where
 fs:Same W.F W'.F
 pre:W.m <+: W'.m
 fz:∀ (n:Nat) (ks:List Key) (xs:List PV),W.h[n]?=some (.fz ks xs)->W'.h[n]?=some (.fz ks xs)/\∀ a,W.m[n]?=some a->W'.H a=W.H a
theorem Le.lf (l:Le K W a):Lf K W a:=⟨l.fs,l.pre,l.fz⟩
theorem Lf.refl:Lf K W W:=⟨Same.refl _,prefix_refl _,fun _ _ _ e=>⟨e,fun _ _=>rfl⟩⟩
theorem Lf.trans (a:Lf K W g) (b:Lf K g h):Lf K W h:=⟨a.fs.trans b.fs,a.pre.trans b.pre,fun n ks xs e=>by obtain ⟨j,l⟩:=a.fz n ks xs e;obtain ⟨i,k⟩:=b.fz n ks xs j;exact ⟨i,fun c f=>(k c (yeF a.pre f)).trans (l c f)⟩⟩
theorem Lf.rep (l:Lf K W a) (h:ycO K W x v):ycO K a x v:=Rep.mono l.fs l.pre x v h
def ycb (K:Ck) (t:TE) (e:XE):Prop:=∀ (W0 W:Wd) (ρ:PSt) (Z:St) (Q:VK) (x:PV) (h':AH),Good K W0 W ρ Z->e ρ W.h=some (x,h') ->
 (∀ v W',W'.h=h'->Le K W W'->ycO K W' x v->Q v W'.H)->t Z W.H Q
def ylQ (K:Ck) (t:TT) (e:XT):Prop:=∀ (W0 W:Wd) (ρ:PSt) (Z:St) (Q:Bool->Hp->Prop) (x:Bool) (h':AH),Good K W0 W ρ Z->e ρ W.h=some (x,h') ->
 (∀ W',W'.h=h'->Le K W W'->Q x W'.H)->t Z W.H Q
def ymQ (K:Ck) (t:TA) (e:XA):Prop:=∀ (W0 W:Wd) (ρ:PSt) (Z:St) (Q:List V->Hp->Prop) (x:List PV) (h':AH),Good K W0 W ρ Z->e ρ W.h=some (x,h') ->
 (∀ v W',W'.h=h'->Le K W W'->ycL K W' x v->Q v W'.H)->t Z W.H Q
def ylR (K:Ck) (t:TE) (e:XO):Prop:=∀ (W0 W:Wd) (ρ:PSt) (Z:St) (Q:VK) (d:Nd) (h':AH),Good K W0 W ρ Z->e ρ W.h=some (d,h') ->
 (∀ p W',W'.h=h'->Le K W W'->p∉W'.m->W.H p=none->d≠.dead->NdAt K W'.F W'.H W'.m d p->Q (.ref p) W'.H)->t Z W.H Q
def Ends.Ok (K:Ck) (W0 W:Wd) (D:Ends) (h':AH):Out->Prop
 | .nx ρ'=>∀ W' Z',W'.h=h'->Lf K W W'->Good K W0 W' ρ' Z'->D.nx Z' W'.H
 | .bk ρ'=>∀ W' Z',W'.h=h'->Lf K W W'->Good K W0 W' ρ' Z'->D.bk Z' W'.H
 | .ct ρ'=>∀ W' Z',W'.h=h'->Lf K W W'->Good K W0 W' ρ' Z'->D.ct Z' W'.H
 | .rt x=>∀ W' v,W'.h=h'->Le K W0 W'->ycO K W' x v->D.rt v W'.H
def yeZ (K:Ck) (t:TS) (s:XS):Prop:=∀ (W0 W:Wd) (ρ:PSt) (Z:St) (D:Ends) (o:Out) (h':AH),Good K W0 W ρ Z->s ρ W.h=some (o,h')->Ends.Ok K W0 W D h' o->t D Z W.H
noncomputable def ob {Y J:Type}(o:Option (Y×AH)) (f:Y->AH->Option J):Option J:=o.bind fun q=>f q.1 q.2
theorem yk {Y J:Type}{o:Option (Y×AH)}{f:Y->AH->Option J}{b:J}(h:ob o f=some b):∃ x h',o=some (x,h')/\f x h'=some b:=by obtain ⟨⟨x,h'⟩,e,k⟩:=Option.bind_eq_some_iff.mp h;exact ⟨x,h',e,k⟩
variable {K:Ck}
noncomputable def ye (i:Nat):XE:=fun ρ h=>match ρ[i]? with|some (.val x)=>some (x,h)|_=>none
def xC (x:PV):XE:=fun _ h=>some (x,h)
noncomputable abbrev P2:=PV->PV->AH->Option (PV×AH)
noncomputable abbrev P2O:=PV->PV->AH->Option (Nd×AH)
def xOp (p:P2) (a b:XE):XE:=fun ρ h=>ob (a ρ h) fun x h1=>ob (b ρ h1) fun y h2=>p x y h2
def ypL (p:P2O) (a b:XE):XO:=fun ρ h=>ob (a ρ h) fun x h1=>ob (b ρ h1) fun y h2=>p x y h2
def xUn (p:PV->AH->Option (PV×AH)) (a:XE):XE:=fun ρ h=>ob (a ρ h) fun x h1=>p x h1
noncomputable def oB (x:PV) (h:AH):Option (Bool×AH):=match x with|.bl b=>some (b,h)|_=>none
def yfH (p p':P2) (a b c:XE):XE:=fun ρ h=>ob (a ρ h) fun x h1=>ob (b ρ h1) fun y h2=>ob (p x y h2) fun z h3=>ob (oB z h3) fun k h3=>if k=true then ob (c ρ h3) fun w h4=>p' y w h4 else some (.bl false,h3)
def yv (a:XE):XT:=fun ρ h=>ob (a ρ h) oB
def yjh (a b:XE):XE:=fun ρ h=>ob (a ρ h) fun x h1=>ob (oB x h1) fun k h1=>if k=true then b ρ h1 else some (.bl false,h1)
def yyf (a:XE):XE:=fun ρ h=>ob (a ρ h) fun x h1=>ob (oB x h1) fun k h1=>some (.bl (!k),h1)
def ywJ (a b:XT):XT:=fun ρ h=>ob (a ρ h) fun k h1=>if k=true then b ρ h1 else some (false,h1)
def xOr (a b:XT):XT:=fun ρ h=>ob (a ρ h) fun k h1=>if k=true then some (true,h1) else b ρ h1
def ynv (a:XT):XT:=fun ρ h=>ob (a ρ h) fun k h1=>some (!k,h1)
def xIf (c:XT) (a b:XE):XE:=fun ρ h=>ob (c ρ h) fun k h1=>if k=true then a ρ h1 else b ρ h1
def yh:XA:=fun _ h=>some ([],h)
def yb (a:XE) (r:XA):XA:=fun ρ h=>ob (a ρ h) fun x h1=>ob (r ρ h1) fun xs h2=>some (x::xs,h2)
def yfa (a:XA):XE:=fun ρ h=>ob (a ρ h) fun xs h1=>if xs.length<=1000 then some (.tup xs,h1) else none
def ycl (a:XA):XO:=fun ρ h=>ob (a ρ h) fun xs h1=>if xs.length<=1000 then some (.lst xs,h1) else none
def xFz (e:XO):XE:=fun ρ h=>ob (e ρ h) fun d h1=>match d with|.lst xs=>some (.lst xs,h1)|.ins k ns xs=>some (.ins k ns xs,h1)|_=>none
def ydl (e:XO):XE:=fun ρ h=>ob (e ρ h) fun d h1=>some (.loc h1.length,h1++[d])
def yT (f:Fn) (a:XA):XE:=fun ρ h=>ob (a ρ h) f
def xCB (p:List PV->AH->Option (PV×AH)) (a:XA):XE:=fun ρ h=>ob (a ρ h) p
def yea (p:List PV->AH->Option (Nd×AH)) (a:XA):XO:=fun ρ h=>ob (a ρ h) p
noncomputable abbrev PM:=PV->List PV->AH->Option (PV×AH)
def xBM (c:PV->AH->Bool) (p:PM) (o:XE) (a:XA):XE:=fun ρ h=>ob (o ρ h) fun x h1=>if c x h1=true then ob (a ρ h1) fun xs h2=>p x xs h2 else none
def yfU (e:XE):PSt->AH->Option (Option Int×AH):=fun ρ h=>ob (e ρ h) fun x h1=>match x with|.int i=>some (some i,h1)|_=>none
noncomputable def yfV:PSt->AH->Option (Option Int×AH):=fun _ h=>some (none,h)
def yqt (p:PV->Option Int->Option Int->AH->Option (Nd×AH)) (e:XE) (lo hi:PSt->AH->Option (Option Int×AH)):XO:=fun ρ h=>ob (e ρ h) fun x h1=>ob (lo ρ h1) fun l h2=>ob (hi ρ h2) fun u h3=>p x l u h3
def ycw (K:Ck) (r:R2) (p:P2):Prop:=∀ (W:Wd) (x y:PV) (v u:V) (Q:VK) (z:PV) (h':AH),WOk K W->ycO K W x v->ycO K W y u->p x y W.h=some (z,h')->(∀ w W',W'.h=h'->Le K W W'->ycO K W' z w->Q w W'.H)->r v u W.H Q
def ypM (K:Ck) (W:Wd) (d:Nd) (h':AH) (Q:VK):Prop:=∀ p W',W'.h=h'->Le K W W'->p∉W'.m->W.H p=none->d≠.dead->NdAt K W'.F W'.H W'.m d p->Q (.ref p) W'.H
def yoC (K:Ck) (r:R2) (p:P2O):Prop:=∀ (W:Wd) (x y:PV) (v u:V) (Q:VK) (d:Nd) (h':AH),WOk K W->ycO K W x v->ycO K W y u->p x y W.h=some (d,h')->ypM K W d h' Q->r v u W.H Q
def yyg (K:Ck) (r:V->Hp->VK->Prop) (p:PV->AH->Option (PV×AH)):Prop:=∀ (W:Wd) (x:PV) (v:V) (Q:VK) (z:PV) (h':AH),WOk K W->ycO K W x v->p x W.h=some (z,h')->(∀ w W',W'.h=h'->Le K W W'->ycO K W' z w->Q w W'.H)->r v W.H Q
def yib (K:Ck) (r:List V->Hp->VK->Prop) (p:List PV->AH->Option (PV×AH)):Prop:=∀ (W:Wd) (xs:List PV) (vs:List V) (Q:VK) (z:PV) (h':AH),WOk K W->ycL K W xs vs->p xs W.h=some (z,h')->(∀ w W',W'.h=h'->Le K W W'->ycO K W' z w->Q w W'.H)->r vs W.H Q
def yri (K:Ck) (r:List V->Hp->VK->Prop) (p:List PV->AH->Option (Nd×AH)):Prop:=∀ (W:Wd) (xs:List PV) (vs:List V) (Q:VK) (d:Nd) (h':AH),WOk K W->ycL K W xs vs->p xs W.h=some (d,h')->ypM K W d h' Q->r vs W.H Q
def yji (K:Ck) (T:String) (c:PV->AH->Bool) (r:V->List V->Hp->VK->Prop) (p:PM):Prop :=
 (∀ (W:Wd) (x:PV) (v:V),WOk K W->ycO K W x v->c x W.h=true->tyV K.K T v W.H) /\
 ∀ (W:Wd) (x:PV) (v:V) (xs:List PV) (vs:List V) (Q:VK) (z:PV) (h':AH),WOk K W->ycO K W x v->ycL K W xs vs->p x xs W.h=some (z,h')->(∀ w W',W'.h=h'->Le K W W'->ycO K W' z w->Q w W'.H)->r v vs W.H Q
theorem yyh i:ycb K (yqs i) (ye i):=by
 intro c W ρ Z Q x h' g e q;unfold ye at e;split at e
 .rename_i y b;cases e;obtain ⟨v,h1,h2⟩:=g.val i _ b;exact ⟨v,h1,q v W rfl (.refl g.ok) h2⟩
 .cases e
theorem ypN (h:∀ W,ycO K W x v):ycb K (tC v) (xC x):=by intro b W ρ Z Q y h' g e q;cases e;exact q v W rfl (.refl g.ok) (h W)
theorem yrj:ycb K (tC (.int i)) (xC (.int i)):=ypN fun _=>rfl
theorem yrk:ycb K (tC (.str i)) (xC (.str i)):=ypN fun _=>rfl
theorem yBq:ycb K (tC (.bl i)) (xC (.bl i)):=ypN fun _=>rfl
theorem yyi:ycb K (tC .non) (xC .non):=ypN fun _=>rfl
theorem yBr:ycb K (tC (.ty n)) (xC (.ty n)):=ypN fun _=>rfl
theorem yyj:ycb K (tC (.ref (K.A k))) (xC (.cls k)):=ypN fun _=>rfl
section
variable {ta tb tc:TE}{ea eb ec:XE}{t:TA}{e:XA}
theorem yoD (o:ycw K r p) (a:ycb K ta ea) (b:ycb K tb eb):ycb K (tOp r ta tb) (xOp p ea eb):=by
 intro h W ρ Z Q z h' g e q;obtain ⟨x,h1,A,D⟩:=yk e;obtain ⟨y,h2,l,E⟩:=yk D;refine a h W ρ Z _ x h1 g A fun v F j f m=>?_
 subst j;refine b h F ρ Z _ y h2 (g.step f) l fun u s k d r2=>?_
 subst k;exact o s x y v u Q z h' d.ok (d.rep m) r2 E fun w B C i n=>q w B C (f.trans (d.trans i)) n
theorem ygR {Q:VK}(l:Le K W b) (q:ypM K W d h' Q):ypM K b d h' Q:=fun p c e l' n f=>q p c e (l.trans l') n (l.fresh f)
theorem yyk (o:yoC K r p) (a:ycb K ta ea) (b:ycb K tb eb):ylR K (tOp r ta tb) (ypL p ea eb):=by
 intro h W ρ Z Q z h' g e q;obtain ⟨x,h1,m,n⟩:=yk e;obtain ⟨y,h2,A,l⟩:=yk n;refine a h W ρ Z _ x h1 g m fun v k s f i=>?_
 subst s;refine b h k ρ Z _ y h2 (g.step f) A fun u j w d r2=>?_
 subst w;exact o j x y v u Q z h' d.ok (d.rep i) r2 l (ygR (f.trans d) q)
theorem yBs {r} {p} (o:yyg K r p) (a:ycb K ta ea):ycb K (tUn r ta) (xUn p ea):=by
 intro i W ρ Z Q z h' g e q;obtain ⟨x,h1,s,m⟩:=yk e;refine a i W ρ Z _ x h1 g s fun v k n c d=>?_
 subst n;exact o k x v Q z h' c.ok d m fun w f h j l=>q w f h (c.trans j) l
theorem yki (e:oB x h=some (k,h')):x=.bl k/\h'=h:=by unfold oB at e;grind
theorem ylS (o:ycw K r p) (X:ycw K s D) (a:ycb K ta ea) (b:ycb K tb eb) (c:ycb K tc ec):ycb K (yqP r s ta tb tc) (yfH p D ea eb ec):=by
 intro m W ρ d Q z h' g e q;obtain ⟨x,h1,T,F⟩:=yk e;obtain ⟨y,h2,e2,f2⟩:=yk F;obtain ⟨z',h3,e3,f3⟩:=yk f2;obtain ⟨k,I,j,i⟩:=yk f3;obtain ⟨rfl,rfl⟩:=yki j;refine a m W ρ d _ x h1 g T fun v W1 G C J=>?_
 subst G;refine b m W1 ρ d _ y h2 (g.step C) e2 fun u O H h r2=>?_
 subst H;refine o O x y v u _ _ _ h.ok (h.rep J) r2 e3 fun w n R A N=>⟨k,N,?_⟩
 subst R;have l:=C.trans (h.trans A);cases k with
 | false =>
  rw [if_neg (by decide)] at i ⊢;cases i;exact q _ n rfl l rfl
 | true =>
  obtain ⟨B,S,Z,M⟩:=yk i;refine c m n ρ d _ B S (g.step l) Z fun Y P w4 f r4=>?_
  subst w4;exact X P y B u Y Q z h' f.ok ((A.trans f).rep r2) r4 M fun w W5 E L U=>q w W5 E (l.trans (f.trans L)) U
theorem yhM (a:ycb K ta ea):ylQ K (yxO ta) (yv ea):=by intro d W ρ Z Q k h' g e q;obtain ⟨x,h1,l,i⟩:=yk e;obtain ⟨rfl,rfl⟩:=yki i;exact a d W ρ Z _ _ _ g l fun v f j h c=>⟨k,c,q f j h⟩
theorem yBt (a:ycb K ta ea):ylQ K (tB ta) (yv ea):=yhM a
theorem yuo (a:ycb K ta ea) (b:ycb K tb eb):ycb K (yAR ta tb) (yjh ea eb):=by
 intro i W ρ Z Q z h' g e q;obtain ⟨x,h1,u,p⟩:=yk e;obtain ⟨k,n,f,h⟩:=yk p;obtain ⟨rfl,rfl⟩:=yki f;refine a i W ρ Z _ _ _ g u fun v j r d l=>⟨k,l,?_⟩
 subst r;cases k with
 | false =>
  cases h;exact q _ j rfl d rfl
 | true =>
  exact b i j ρ Z _ z h' (g.step d) h fun v o s m r2=>q v o s (d.trans m) r2
theorem yup (a:ycb K ta ea):ycb K (yAS ta) (yyf ea):=by intro h W ρ Z Q z h' g e q;obtain ⟨x,h1,f,m⟩:=yk e;obtain ⟨k,o,c,j⟩:=yk m;obtain ⟨rfl,rfl⟩:=yki c;cases j;exact a h W ρ Z _ _ _ g f fun v i n l d=>⟨k,d,q _ i n l rfl⟩
section
variable {tA tB':TT}{eA eB:XT}
theorem yyl (a:ylQ K tA eA) (b:ylQ K tB' eB):ylQ K (yGh tA tB') (ywJ eA eB):=by
 intro d W ρ Z Q z h' g e q;obtain ⟨k,h1,l,m⟩:=yk e;refine a d W ρ Z _ _ _ g l fun j n f=>?_
 subst n;cases k with
 | false =>
  grind
 | true =>
  exact b d j ρ Z _ z h' (g.step f) m fun i o h=>q i o (f.trans h)
theorem yBu (a:ylQ K tA eA) (b:ylQ K tB' eB):ylQ K (tOr tA tB') (xOr eA eB):=by
 intro d W ρ Z Q z h' g e q;obtain ⟨k,h1,l,m⟩:=yk e;refine a d W ρ Z _ _ _ g l fun j n f=>?_
 subst n;cases k with
 | true =>
  grind
 | false =>
  exact b d j ρ Z _ z h' (g.step f) m fun i o h=>q i o (f.trans h)
theorem yym (a:ylQ K tA eA):ylQ K (yEh tA) (ynv eA):=by intro W0 W ρ Z Q z h' g e q;obtain ⟨k,h1,e1,f1⟩:=yk e;cases f1;exact a W0 W ρ Z _ _ _ g e1 fun W1 w1 l1=>q W1 w1 l1
theorem yBv (c:ylQ K tA eA) (a:ycb K ta ea) (b:ycb K tb eb):ycb K (tIf tA ta tb) (xIf eA ea eb):=by
 intro j W ρ Z Q z h' g e q;obtain ⟨k,h1,o,m⟩:=yk e;refine c j W ρ Z _ _ _ g o fun n p f=>?_
 subst p;cases k with
 | true =>
  exact a j n ρ Z _ z h' (g.step f) m fun v i l h r2=>q v i l (f.trans h) r2
 | false =>
  exact b j n ρ Z _ z h' (g.step f) m fun v i l h r2=>q v i l (f.trans h) r2
end
theorem ykj:ymQ K ywC yh:=by intro b W ρ Z Q z h' g e q;cases e;exact q [] W rfl (.refl g.ok) rfl
theorem yuq (a:ycb K ta ea) (r:ymQ K t e):ymQ K (yna ta t) (yb ea e):=by
 intro W0 W ρ Z Q z h' g e q;obtain ⟨x,h1,e1,f1⟩:=yk e;obtain ⟨xs,h2,e2,f2⟩:=yk f1;cases f2;refine a W0 W ρ Z _ x h1 g e1 fun v W1 w1 l1 r1=>?_
 subst w1;exact r W0 W1 ρ Z _ xs _ (g.step l1) e2 fun vs W2 w2 l2 r2=>q (v::vs) W2 w2 (l1.trans l2) ⟨v,vs,rfl,l2.rep r1,r2⟩
def yyn (W:Wd) (p:Addr) (o:HO):Wd:=⟨upd W.F p o,upd W.H p o,W.m,W.h⟩
theorem yrl (w:WOk K W) (h:W.H p=none):Le K W (yyn W p o):=by
 have k:=w.out h;have q:=w.ff h;have m:=yef q o;refine ⟨⟨?_,w.len,w.nd,fun n d a i g=>?_⟩,m,prefix_refl _,fun b u e _=>yef h o b u e,fun b u e _ f=>?_,fun b z n=>absurd z n,fun n ks xs i=>⟨i,fun a g=>yR fun z=>k (z ▸ mem_of_getElem? g)⟩⟩
 .intro b u e;show upd W.H p o b=some u
  by_cases j:b=p
  .subst j;rw [show (yyn W b o).F b=upd W.F b o b from rfl,yP] at e;rw [yP];exact e
  .rw [show (yyn W p o).F b=upd W.F p o b from rfl,yR j] at e;rw [yR j];exact w.le _ _ e
 .have l:a≠p:=fun z=>k (z ▸ mem_of_getElem? g)
  exact (w.at_ n d a i g).mono m (prefix_refl _) (fun u e=>by rw [show (yyn W p o).H a=upd W.H p o a from rfl,yR l];exact e) fun f=>(yR l).trans f
 .have:=ybJ e h
  rw [show (yyn W p o).F b=upd W.F p o b from rfl,yR this];exact f
def yic (W:Wd) (p:Addr) (o:HO):Wd:=⟨W.F,upd W.H p o,W.m,W.h⟩
theorem ydE (w:WOk K W) (h:W.H p=none):Le K W (yic W p o):=by
 have j:=w.out h;refine ⟨⟨?_,w.len,w.nd,fun n d a g i=>?_⟩,Same.refl _,prefix_refl _,fun b u e _=>yef h o b u e,fun b u e _ f=>f,fun b z n=>absurd z n,fun n ks xs g=>⟨g,fun a i=>yR fun z=>j (z ▸ mem_of_getElem? i)⟩⟩
 .exact fun b u e=>yef h o b u (w.le _ _ e)
 .exact (w.at_ n d a g i).mono (Same.refl _) (prefix_refl _) (fun u e=>yef h o _ _ e) id
theorem small (h:n<=1000):n<=sizeLine:=le_of_lt (ylx h)
theorem yyo (a:ymQ K t e):ycb K (yGr t) (yfa e):=by
 intro i W ρ Z Q z h' g e q;obtain ⟨xs,h1,l,c⟩:=yk e;split at c
 .rename_i hl;cases c;refine a i W ρ Z _ xs _ g l fun vs j k f d=>⟨small (by rw [d.len];exact hl),fun p hp=>?_⟩
  have h:=yrl (o:=.tup vs) f.ok hp;exact q _ (yyn j p _) k (f.trans h) ⟨p,vs,rfl,.inl yP,h.repL d⟩
 .cases c
theorem yyp (a:ymQ K t e):ylR K (yGs t) (ycl e):=by
 intro l W ρ Z Q z h' g e q;obtain ⟨xs,h1,j,d⟩:=yk e;split at d
 .rename_i hl;cases d;refine a l W ρ Z _ xs _ g j fun vs h k c f=>⟨small (by rw [f.len];exact hl),fun p hp=>?_⟩
  have i:=ydE (o:=.lst vs) c.ok hp;exact q p (yic h p _) k (c.trans i) (c.ok.out hp) (c.fresh hp) (fun z=>by cases z) ⟨c.ok.ff hp,vs,yP,f⟩
 .cases d
def yur (W:Wd) (p:Addr) (o:HO):Wd:=⟨upd W.F p o,W.H,W.m,W.h⟩
theorem yrm (w:WOk K W) (h:W.H p=some o) (l:p∉W.m) (m:W.F p=none):WOk K (yur W p o)/\Same W.F (upd W.F p o):=by
 have i:=yef m o;refine ⟨⟨?_,w.len,w.nd,fun n d a q j=>?_⟩,i⟩
 .intro b u e
  by_cases g:b=p
  .subst g;rw [show (yur W b o).F b=upd W.F b o b from rfl,yP] at e;cases e;exact h
  .rw [show (yur W p o).F b=upd W.F p o b from rfl,yR g] at e;exact w.le _ _ e
 .have k:a≠p:=fun z=>l (z ▸ mem_of_getElem? j)
  exact (w.at_ n d a q j).mono i (prefix_refl _) (fun u e=>e) fun f=>(yR k).trans f
theorem ynw (l:Le K W c) (h:c.H p=some o) (j:p∉c.m) (g:c.F p=none) (d:W.H p=none):Le K W (yur c p o):=by obtain ⟨k,i⟩:=yrm l.ok h j g;refine ⟨k,l.fs.trans i,l.pre,l.keep,fun b u e n f=>?_,l.mn,l.fz⟩;have:=ybJ e d;rw [show (yur c p o).F b=upd c.F p o b from rfl,yR this];exact l.new b u e n f
theorem ywK (a:ylR K ta o):ycb K ta (xFz o):=by
 intro u W ρ Z Q z h' g e q;obtain ⟨d,h1,v,h⟩:=yk e;refine a u W ρ Z _ d h1 g v fun p l m k n j w f=>?_
 split at h
 .cases h;obtain ⟨c,vs,hp,r⟩:=f;have i:=ynw k hp n c j;exact q _ (yur l p _) m i ⟨p,vs,rfl,yP,RepL.mono (yef c _) (prefix_refl _) _ _ r⟩
 .cases h;obtain ⟨c,s,vs,hp,hl,r⟩:=f;have i:=ynw k hp n c j;exact q _ (yur l p _) m i ⟨p,s,vs,rfl,yP,hl,RepL.mono (yef c _) (prefix_refl _) _ _ r⟩
 .cases h
theorem yyq (a:ylR K ta o):ycb K ta (ydl o):=by
 intro W0 W ρ Z Q z h' g e q;obtain ⟨d,h1,e1,f1⟩:=yk e;cases f1;refine a W0 W ρ Z _ d h1 g e1 fun p W1 w1 l1 hm hn hd at_=>?_
 subst w1;have pre:W1.m <+: W1.m++[p]:=List.prefix_append _ _;refine q (.ref p) ⟨W1.F,W1.H,W1.m++[p],W1.h++[d]⟩ rfl ⟨⟨l1.ok.le,?_,?_,fun n d' a e1 e2=>?_⟩,l1.fs,l1.pre.trans pre,l1.keep,l1.new,fun b z n=>?_,fun n ks xs e1=>⟨by have:=(l1.fz n ks xs e1).1;show (W1.h++[d])[n]?=_;rw [getElem?_append_left (List.getElem?_eq_some_iff.mp this).1];exact this,(l1.fz n ks xs e1).2⟩⟩ ⟨p,rfl,?_⟩
 .show (W1.m++[p]).length=(W1.h++[d]).length;rw [length_append,length_append,l1.ok.len];rfl
 .show (W1.m++[p]).Nodup;rw [List.nodup_append];refine ⟨l1.ok.nd,by simp,?_⟩;intro a ha b hb;simp at hb;subst hb;exact fun z=>hm (z ▸ ha)
 .have e1:(W1.h++[d])[n]?=some d':=e1;have e2:(W1.m++[p])[n]?=some a:=e2
  by_cases hlt:n<W1.h.length
  .rw [getElem?_append_left hlt] at e1;rw [getElem?_append_left (by rw [l1.ok.len];exact hlt)] at e2;exact (l1.ok.at_ n d' a e1 e2).mono (Same.refl _) pre (fun _ f1=>f1) id
  .rw [getElem?_append_right (by omega)] at e1;rw [getElem?_append_right (by rw [l1.ok.len];omega)] at e2;rw [l1.ok.len] at e2;cases hk:n-W1.h.length with
   | zero =>
    rw [hk] at e1 e2;simp at e1 e2;subst e1 e2;exact at_.mono (Same.refl _) pre (fun _ f1=>f1) id
   | succ k=>rw [hk] at e1;simp at e1
 .have z:b∈W1.m++[p]:=z;rcases List.mem_append.mp z with z|z
  .exact l1.mn b z n
  .simp at z;subst z;exact hn
 .show (W1.m++[p])[W1.h.length]?=some p;rw [<- l1.ok.len];simp
def spE (K:Ck) (n:Nat) (f:Fn):Sp:=fun vs H Q _=>∃ (W:Wd) (xs:List PV) (x:PV) (h':AH),W.H=H/\WOk K W/\ycL K W xs vs/\xs.length=n/\f xs W.h=some (x,h')/\∀ v W',W'.h=h'->Le K W W'->ycO K W' x v->Q v W'.H
theorem yus (a:ymQ K t e) (l:∀ ρ h xs h',e ρ h=some (xs,h')->xs.length=n):ycb K (yub (spE K n f) [] r t) (yT f e):=by
 intro o W ρ Z Q z h' g j q;obtain ⟨xs,h1,d,m⟩:=yk j;refine a o W ρ Z _ xs h1 g d fun vs p s c i=>?_
 subst s;rw [append_nil];exact ⟨p,xs,z,h',rfl,c.ok,i,l _ _ _ _ d,m,fun v w u k r2=>q v w u (c.trans k) r2⟩
theorem ynx:∀ ρ h xs h',yh ρ h=some (xs,h')->xs.length=0:=fun ρ h xs h' e=>by cases e;rfl
theorem yut (l:∀ ρ h xs h',e ρ h=some (xs,h')->xs.length=n):∀ ρ h xs h',yb ea e ρ h=some (xs,h')->xs.length=n+1:=fun ρ h xs h' q=>by obtain ⟨x,h1,c,q⟩:=yk q;obtain ⟨ys,h2,b,q⟩:=yk q;grind
theorem ywL {r} {p} (o:yib K r p) (a:ymQ K t e):ycb K (tCB r t) (xCB p e):=by
 intro j W ρ Z Q z h' g f q;obtain ⟨xs,h1,h,i⟩:=yk f;refine a j W ρ Z _ xs h1 g h fun vs k m c d=>?_
 subst m;exact o k xs vs Q z h' c.ok d i fun v s n l r2=>q v s n (c.trans l) r2
theorem yyr {r} {p} (o:yri K r p) (a:ymQ K t e):ylR K (tCB r t) (yea p e):=by
 intro h W ρ Z Q z h' g j q;obtain ⟨xs,h1,l,f⟩:=yk j;refine a h W ρ Z _ xs h1 g l fun vs i k c d=>?_
 subst k;exact o i xs vs Q z h' c.ok d f (ygR c q)
theorem ywM {c} {r} {p} (o:yji K T c r p) (b:ycb K ta ea) (a:ymQ K t e):ycb K (tBM K.K T r ta t) (xBM c p ea e):=by
 intro l W ρ Z Q z h' g n q;obtain ⟨x,h1,A,i⟩:=yk n;split at i
 .rename_i D;obtain ⟨xs,h2,G,F⟩:=yk i;refine b l W ρ Z _ x h1 g A fun v m k f j=>⟨o.1 m x v f.ok j (by rw [k];exact D),?_⟩
  subst k;refine a l m ρ Z _ xs h2 (g.step f) G fun vs y E h r2=>?_
  subst E;exact o.2 y x v xs vs Q z h' h.ok (h.rep j) r2 F fun w B C s u=>q w B C (f.trans (h.trans s)) u
 .cases i
theorem yys {c} {r} {p} (o:yji K T c r p) (b:ycb K ta ea):ycb K (yEt K.K T r ta) (xBM c p ea yh):=ywM o b ykj
end
def yAw (K:Ck) (t:TO) (e:PSt->AH->Option (Option Int×AH)):Prop:=∀ (W0 W:Wd) (ρ:PSt) (Z:St) (Q:Option Int->Hp->Prop) (x:Option Int) (h':AH),Good K W0 W ρ Z->e ρ W.h=some (x,h') ->
 (∀ W',W'.h=h'->Le K W W'->Q x W'.H)->t Z W.H Q
theorem ypO:yAw K yqV yfV:=by intro b W ρ Z Q z h' g e q;cases e;exact q W rfl (.refl g.ok)
theorem yuu (a:ycb K f d):yAw K (yBi f) (yfU d):=by
 intro n W ρ Z Q z h' g e q;obtain ⟨x,h1,l,c⟩:=yk e;split at c
 .rename_i i;cases c;exact a n W ρ Z _ _ _ g l fun v j m k h=>⟨i,h,q j m k⟩
 .cases c
def yoE (K:Ck) (r:V->Option Int->Option Int->Hp->VK->Prop) (p:PV->Option Int->Option Int->AH->Option (Nd×AH)):Prop:=∀ (W:Wd) (x:PV) (v:V) (lo hi:Option Int) (Q:VK) (d:Nd) (h':AH),WOk K W->ycO K W x v->p x lo hi W.h=some (d,h')->ypM K W d h' Q->r v lo hi W.H Q
theorem yrn {r} {p} {s m} (o:yoE K r p) (a:ycb K t k) (b:yAw K tl s) (c:yAw K n m):ylR K (tSl r t tl n) (yqt p k s m):=by
 intro h W ρ Z Q z h' g e q;obtain ⟨x,h1,D,G⟩:=yk e;obtain ⟨l,h2,F,J⟩:=yk G;obtain ⟨u,C,y,w⟩:=yk J;refine a h W ρ Z _ x h1 g D fun v L I j A=>?_
 subst I;refine b h L ρ Z _ l h2 (g.step j) F fun B M f=>?_
 subst M;refine c h B ρ Z _ u C (g.step (j.trans f)) y fun E H i=>?_
 subst H;exact o E x v l u Q z h' i.ok ((f.trans i).rep A) w (ygR (j.trans (f.trans i)) q)
end PX
namespace PX
open PySem L2
variable {K:Ck}
def yN:XS:=fun ρ h=>some (.nx ρ,h)
def yl (s u:XS):XS:=fun ρ h=>ob (s ρ h) fun o h1=>match o with|.nx ρ'=>u ρ' h1|.rt x=>some (.rt x,h1)|.bk ρ'=>some (.bk ρ',h1)|.ct ρ'=>some (.ct ρ',h1)
def yW (e:XE):XS:=fun ρ h=>ob (e ρ h) fun _ h1=>some (.nx ρ,h1)
def yQ (e:XE):XS:=fun ρ h=>ob (e ρ h) fun x h1=>some (.rt x,h1)
def yby (c:XT) (s u:XS):XS:=fun ρ h=>ob (c ρ h) fun k h1=>if k=true then s ρ h1 else u ρ h1
abbrev XG:=PV->PSt->Option PSt
noncomputable abbrev XGs:=List PV->PSt->Option PSt
noncomputable def yq (i:Nat):XG:=fun x ρ=>some (ρ.set i (.val x))
def yDQ:XGs:=fun xs ρ=>match xs with|[]=>some ρ|_=>none
noncomputable def ypP (g:XG) (r:XGs):XGs:=fun xs ρ=>match xs with|[]=>none|x::xs=>(g x ρ).bind fun ρ'=>r xs ρ'
noncomputable def yBw (n:Nat) (g:XGs):XG:=fun x ρ=>match x with|.tup xs=>if xs.length=n then g xs ρ else none|_=>none
def ybu (e:XE) (g:XG):XS:=fun ρ h=>ob (e ρ h) fun x h1=>(g x ρ).bind fun ρ'=>some (.nx ρ',h1)
def yid (e:XO) (i:Nat):XS:=fun ρ h=>ob (e ρ h) fun d h1=>some (.nx (ρ.set i (.own d)),h1)
noncomputable def yuv:PVar->PVar
 | .own (.lst xs)=>.val (.lst xs)
 | .own (.ins k ns xs)=>.val (.ins k ns xs)
 | v=>v
def yny (i:Nat) (ρ:PSt):PSt:=ρ.modify i yuv
def ytF (i:Nat) (s:XS):XS:=fun ρ h=>s (yny i ρ) h
def yfW (i:Nat) (e:XE):XS:=fun ρ h=>match ρ[i]? with
 | some (.own (.lst xs))=>ob (e ρ h) fun x h1=>if xs.length<100000 then some (.nx (ρ.set i (.own (.lst (xs++[x])))),h1) else none
 | _=>none
def yhN (g:XG) (s:XS):List PV->PSt->AH->Option (Out×AH)
 | [],ρ,h=>some (.nx ρ,h)
 | x::xs,ρ,h=>(g x ρ).bind fun ρ1=>ob (s ρ1 h) fun o h1=>match o with|.nx ρ'=>yhN g s xs ρ' h1|.ct ρ'=>yhN g s xs ρ' h1|.bk ρ'=>some (.nx ρ',h1)|.rt y=>some (.rt y,h1)
def yjd (it:XA) (g:XG) (s:XS):XS:=fun ρ h=>ob (it ρ h) fun xs h1=>yhN g s xs ρ h1
def whl (c:XT) (s:XS):Nat->PSt->AH->Option (Out×AH)
 | 0,_,_=>none
 | n+1,ρ,h=>ob (c ρ h) fun k h1=>if k=true then ob (s ρ h1) fun o h2=>(match o with|.nx ρ'=>whl c s n ρ' h2|.ct ρ'=>whl c s n ρ' h2|.bk ρ'=>some (.nx ρ',h2)|.rt y=>some (.rt y,h2)) else some (.nx ρ,h1)
def yfI (fuel:Nat) (c:XT) (s:XS):XS:=fun ρ h=>whl c s fuel ρ h
def ybp (N:Nat) (s:XS):Fn:=fun xs h=>ob (s (xs.map .val++replicate (N-xs.length) .no) h) fun o h1=>match o with|.rt x=>some (x,h1)|.nx _=>some (.non,h1)|_=>none
noncomputable def yyt (ρ:PSt) (i:Nat):PVar:=match ρ[i]? with|some (.val y)=>.val y|_=>.no
def yfC (ix:List Nat) (ρ:PSt) (x:PV):PSt:=.val x::ix.map (yyt ρ)
def yll (e:XE) (inn:PV->PSt):List PV->AH->Option (List PV×AH)
 | [],h=>some ([],h)
 | x::xs,h=>ob (e (inn x) h) fun y h1=>ob (yll e inn xs h1) fun ys h2=>some (y::ys,h2)
def yet (it:XA) (ix:List Nat) (e:XE):XO:=fun ρ h=>ob (it ρ h) fun xs h1=>if xs.length<=100000 then ob (yll e (yfC ix ρ) xs h1) fun ys h2=>some (.lst ys,h2) else none
theorem Ends.Ok.from_ (l:Lf K W f) (k:Ends.Ok K d W D h' o):Ends.Ok K d f D h' o:=by
 cases o with
 | nx ρ=>exact fun c b e l' g=>k c b e (l.trans l') g
 | bk ρ=>exact fun c b e l' g=>k c b e (l.trans l') g
 | ct ρ=>exact fun c b e l' g=>k c b e (l.trans l') g
 | rt x=>exact k
section
variable {ta tb:TE}{ea eb:XE}{t u:TS}{s s':XS}{tA:TT}{eA:XT}
theorem yuw:yeZ K yAW yN:=by intro a W ρ Z D o h' g e q;cases e;exact q W Z rfl .refl g
theorem yyu (a:yeZ K t s) (b:yeZ K u s'):yeZ K (yEj t u) (yl s s'):=by
 intro h W ρ Z D o h' g e q;obtain ⟨o1,h1,i,d⟩:=yk e;refine a h W ρ Z _ o1 h1 g i ?_;cases o1 with
 | nx ρ'=>exact fun j f w l g'=>b h j ρ' f D o h' g' (by rw [w];exact d) (q.from_ l)
 | rt x=>cases d;exact q
 | bk ρ'=>cases d;exact q
 | ct ρ'=>cases d;exact q
theorem yux (a:ycb K ta ea):yeZ K (yqD ta) (yW ea):=by intro j W ρ Z D o h' g e q;obtain ⟨x,h1,d,i⟩:=yk e;cases i;exact a j W ρ Z _ x _ g d fun v f h c k=>q f Z h c.lf (g.step c)
theorem yyv (a:ycb K ta ea):yeZ K (yGi ta) (yQ ea):=by intro d W ρ Z D o h' g e q;obtain ⟨x,h1,k,i⟩:=yk e;cases i;exact a d W ρ Z _ x _ g k fun v f j h c=>q f v j (g.le.trans h) c
theorem yyw (c:ylQ K tA eA) (a:yeZ K t s) (b:yeZ K u s'):yeZ K (yGj tA t u) (yby eA s s'):=by
 intro h W ρ Z D o h' g e q;obtain ⟨k,h1,l,j⟩:=yk e;refine c h W ρ Z _ k h1 g l fun i m f=>?_
 subst m;cases k with
 | true =>
  exact a h i ρ Z D o h' (g.step f) j (q.from_ f.lf)
 | false =>
  exact b h i ρ Z D o h' (g.step f) j (q.from_ f.lf)
theorem Good.set (g:Good K W0 W ρ Z) (i:Nat) (r:ycO K W x v):Good K W0 W (ρ.set i (.val x)) (Z.set i (some v)) where
 le:=g.le
 len:=by simp [g.len]
 val:=fun j y e=>by
  by_cases hj:i=j
  .subst hj
   by_cases hl:i<ρ.length
   .rw [getElem?_set_self hl] at e;cases e;exact ⟨v,getElem?_set_self (by rw [g.len];exact hl),r⟩
   .rw [getElem?_eq_none (by simp;omega)] at e;cases e
  .rw [getElem?_set_ne hj] at e;obtain ⟨w,h1,h2⟩:=g.val j y e;exact ⟨w,by rw [getElem?_set_ne hj];exact h1,h2⟩
 own:=fun j d e=>by
  by_cases hj:i=j
  .subst hj
   by_cases hl:i<ρ.length
   .rw [getElem?_set_self hl] at e;cases e
   .rw [getElem?_eq_none (by simp;omega)] at e;cases e
  .rw [getElem?_set_ne hj] at e;obtain ⟨p,h1,h2⟩:=g.own j d e;exact ⟨p,by rw [getElem?_set_ne hj];exact h1,h2⟩
 ne:=fun j k d d' hjk e1 e2=>by
  have f:∀ {j:Nat}{d:Nd},(ρ.set i (.val x))[j]?=some (.own d)->i≠j/\ρ[j]?=some (.own d):=fun {j d} e=>by
   by_cases hj:i=j
   .subst hj
    by_cases hl:i<ρ.length
    .rw [getElem?_set_self hl] at e;cases e
    .rw [getElem?_eq_none (by simp;omega)] at e;cases e
   .rw [getElem?_set_ne hj] at e;exact ⟨hj,e⟩
  obtain ⟨a1,a2⟩:=f e1;obtain ⟨b1,b2⟩:=f e2;rw [getElem?_set_ne a1,getElem?_set_ne b1];exact g.ne j k d d' hjk a2 b2
theorem Good.setO (g:Good K W0 W ρ Z) (i:Nat) (hm:p∉W.m) (h0:W0.H p=none) (hd:d≠.dead) (at_:NdAt K W.F W.H W.m d p)
  (ne:∀ j d',i≠j->ρ[j]?=some (.own d')->Z[j]?≠some (some (.ref p))):Good K W0 W (ρ.set i (.own d)) (Z.set i (some (.ref p))) where
 le:=g.le
 len:=by simp [g.len]
 val:=fun j y e=>by
  by_cases hj:i=j
  .subst hj
   by_cases hl:i<ρ.length
   .rw [getElem?_set_self hl] at e;cases e
   .rw [getElem?_eq_none (by simp;omega)] at e;cases e
  .rw [getElem?_set_ne hj] at e;obtain ⟨w,h1,h2⟩:=g.val j y e;exact ⟨w,by rw [getElem?_set_ne hj];exact h1,h2⟩
 own:=fun j d' e=>by
  by_cases hj:i=j
  .subst hj
   by_cases hl:i<ρ.length
   .rw [getElem?_set_self hl] at e;cases e;exact ⟨p,getElem?_set_self (by rw [g.len];exact hl),hm,h0,hd,at_⟩
   .rw [getElem?_eq_none (by simp;omega)] at e;cases e
  .rw [getElem?_set_ne hj] at e;obtain ⟨p,h1,h2⟩:=g.own j d' e;exact ⟨p,by rw [getElem?_set_ne hj];exact h1,h2⟩
 ne:=fun j k d1 d2 hjk e1 e2=>by
  have self:∀ {j:Nat}{d':Nd},i=j->(ρ.set i (.own d))[j]?=some (.own d')->(Z.set i (some (.ref p)))[j]?=some (some (.ref p)):=fun {j d'} hj e=>by
   subst hj
   by_cases hl:i<ρ.length
   .exact getElem?_set_self (by rw [g.len];exact hl)
   .rw [getElem?_eq_none (by simp;omega)] at e;cases e
  by_cases hj:i=j
  .have hk:i≠k:=fun z=>hjk (hj.symm.trans z)
   rw [self hj e1,getElem?_set_ne hk];rw [getElem?_set_ne hk] at e2;exact (ne k d2 hk e2).symm
  .rw [getElem?_set_ne hj];rw [getElem?_set_ne hj] at e1
   by_cases hk:i=k
   .rw [self hk e2];exact ne j d1 hj e1
   .rw [getElem?_set_ne hk] at e2 ⊢;exact g.ne j k d1 d2 hjk e1 e2
def ypQ (K:Ck) (g:TG) (y:XG):Prop:=∀ (W0 W:Wd) (ρ ρ':PSt) (Z:St) (x:PV) (v:V) (Q:St->Hp->Prop),Good K W0 W ρ Z->ycO K W x v->y x ρ=some ρ'->(∀ Z',Good K W0 W ρ' Z'->Q Z' W.H)->g v Z W.H Q
def ypR (K:Ck) (g:TGs) (y:XGs):Prop:=∀ (W0 W:Wd) (ρ ρ':PSt) (Z:St) (x:List PV) (v:List V) (Q:St->Hp->Prop),Good K W0 W ρ Z->ycL K W x v->y x ρ=some ρ'->(∀ Z',Good K W0 W ρ' Z'->Q Z' W.H)->g v Z W.H Q
theorem yie i:ypQ K (ypB i) (yq i):=by intro b W ρ ρ' Z x v Q g r e q;cases e;exact q _ (g.set i r)
theorem yuy:ypR K yGl yDQ:=by
 intro W0 W ρ ρ' Z x v Q g r e q;cases x with
 | nil=>cases e;exact ⟨r,q _ g⟩
 | cons _ _=>cases e
theorem yro (a:ypQ K g y) (b:ypR K f ys):ypR K (yAY g f) (ypP y ys):=by
 intro h W ρ ρ' Z x v Q j r e q;cases x with
 | nil=>cases e
 | cons x xs =>
  obtain ⟨v1,vs,rfl,i,r2⟩:=r;obtain ⟨ρ1,l,k⟩:=Option.bind_eq_some_iff.mp e;exact ⟨v1,vs,rfl,a h W ρ ρ1 Z x v1 _ j i l fun d g'=>b h W ρ1 ρ' d xs vs Q g' r2 k q⟩
theorem yuz (b:ypR K gs ys):ypQ K (yGm K.K n gs) (yBw n ys):=by
 intro W0 W ρ ρ' Z x v Q g r e q;unfold yBw at e;split at e
 .rename_i xs;split at e
  .rename_i hl;obtain ⟨a,vs,rfl,hs,rs⟩:=r;exact ⟨a,vs,rfl,(hs.elim (fun h=>SqT.of (g.ok.le _ _ h)) .inr),by rw [rs.len];exact hl,b W0 W ρ ρ' Z xs vs Q g rs e q⟩
  .cases e
 .cases e
theorem yrp (a:ycb K ta ea) (b:ypQ K g y):yeZ K (yww ta g) (ybu ea y):=by intro h W ρ Z D o h' f e q;obtain ⟨x,h1,r,n⟩:=yk e;obtain ⟨ρ',m,l⟩:=Option.bind_eq_some_iff.mp n;cases l;exact a h W ρ Z _ x _ f r fun v j p i k=>b h j ρ ρ' Z x v _ (f.step i) k m fun d g'=>q j d p i.lf g'
theorem yuA i (a:ylR K ta o):yeZ K (yww ta (ypB i)) (yid o i):=by
 intro l W ρ Z D o h' c e q;obtain ⟨d,h1,n,v⟩:=yk e;cases v;refine a l W ρ Z _ d _ c n fun p r w g h x m f=>q r _ w g.lf ((c.step g).setO i h (c.le.fresh x) m f fun j d' y e hs=>?_)
 obtain ⟨z,h1,h2,_,_,k⟩:=c.own j d' e;rw [h1] at hs;have ⟨o,A⟩:=k.some;grind
theorem Good.frz {W0 W:Wd}{ρ:PSt}{Z:St}(g:Good K W0 W ρ Z) (i:Nat):∃ W',W'.h=W.h/\W'.H=W.H/\Lf K W W'/\Good K W0 W' (yny i ρ) Z:=by
 unfold yny;cases e:ρ[i]? with
 | none=>exact ⟨W,rfl,rfl,.refl,by rw [List.modify_eq_self (by simpa using e)];exact g⟩
 | some v =>
  have hl:i<ρ.length:=(List.getElem?_eq_some_iff.mp e).1;have em:ρ.modify i yuv=ρ.set i (yuv v):=by
   apply List.ext_getElem?;intro j;rw [List.getElem?_modify,List.getElem?_set]
   by_cases hj:i=j
   .subst hj;obtain ⟨_,ev⟩:=List.getElem?_eq_some_iff.mp e;simp [hl,ev]
   .simp [hj]
  have same:yuv v=v->∃ W',W'.h=W.h/\W'.H=W.H/\Lf K W W'/\Good K W0 W' (ρ.modify i yuv) Z:=fun z=>⟨W,rfl,rfl,.refl,by
   rw [em,z];have:ρ.set i v=ρ:=by
    apply List.ext_getElem?;intro j
    by_cases hj:i=j
    .subst hj;rw [getElem?_set_self hl,e]
    .rw [getElem?_set_ne hj]
   rw [this];exact g⟩
  have go:∀ (d:Nd) (x:PV) (p:Addr) (o:HO),v=.own d->yuv v=.val x->Z[i]?=some (some (.ref p))->p∉W.m->W0.H p=none->W.H p=some o->W.F p=none->(∀ (F':Hp),Same W.F F'->F' p=some o->Rep K F' W.m x (.ref p)) ->
    ∃ W',W'.h=W.h/\W'.H=W.H/\Lf K W W'/\Good K W0 W' (ρ.modify i yuv) Z:=fun d x p o hv hx hs hm h0 hp hf hr=>by
   obtain ⟨k,sF⟩:=yrm (K:=K) g.ok hp hm hf;have lf:Lf K W (yur W p o):=⟨sF,prefix_refl _,fun _ _ _ e=>⟨e,fun _ _=>rfl⟩⟩
   refine ⟨yur W p o,rfl,rfl,lf,⟨ynw g.le hp hm hf h0,by rw [List.length_modify];exact g.len,fun j y e'=>?_,fun j d' e'=>?_,fun j1 j2 d1 d2 hj e1 e2=>?_⟩⟩
   .rw [em,hx] at e'
    by_cases hj:i=j
    .subst hj;rw [getElem?_set_self hl] at e';cases e';exact ⟨_,hs,hr _ sF yP⟩
    .rw [getElem?_set_ne hj] at e';obtain ⟨w,a1,a2⟩:=g.val j y e';exact ⟨w,a1,lf.rep a2⟩
   .rw [em,hx] at e'
    by_cases hj:i=j
    .subst hj;rw [getElem?_set_self hl] at e';cases e'
    .rw [getElem?_set_ne hj] at e';obtain ⟨q,a1,a2,a3,a4,a5⟩:=g.own j d' e';have hq:q≠p:=fun z=>g.ne j i d' d (fun z=>hj z.symm) e' (hv ▸ e) (by rw [a1,hs,z])
     exact ⟨q,a1,a2,a3,a4,a5.mono sF (prefix_refl _) (fun _ e=>e) fun f=>(yR hq).trans f⟩
   .rw [em,hx] at e1 e2;have f:∀ {j:Nat}{d:Nd},(ρ.set i (.val x))[j]?=some (.own d)->ρ[j]?=some (.own d):=fun {j d} e=>by
     by_cases hj:i=j
     .subst hj;rw [getElem?_set_self hl] at e;cases e
     .rw [getElem?_set_ne hj] at e;exact e
    exact g.ne j1 j2 d1 d2 hj (f e1) (f e2)
  cases v with
  | no=>exact same rfl
  | val x=>exact same rfl
  | own d =>
   obtain ⟨p,a1,a2,a3,a4,a5⟩:=g.own i d e;cases d with
   | lst xs =>
    obtain ⟨hf,vs,hp,r⟩:=a5;exact go _ (.lst xs) p _ rfl rfl a1 a2 a3 hp hf fun F' s hF=>⟨p,vs,rfl,hF,RepL.mono s (prefix_refl _) _ _ r⟩
   | dct ks xs=>exact same rfl
   | fz ks xs=>exact same rfl
   | ins k ns xs =>
    obtain ⟨hf,dx,vs,hp,hl,r⟩:=a5;exact go _ (.ins k ns xs) p _ rfl rfl a1 a2 a3 hp hf fun F' s hF=>⟨p,dx,vs,rfl,hF,hl,RepL.mono s (prefix_refl _) _ _ r⟩
   | dead=>exact same rfl
theorem yyx i (a:yeZ K t s):yeZ K t (ytF i s):=by intro d W ρ Z D o h' g e q;obtain ⟨h,f,c,l,g'⟩:=g.frz i;rw [<- c];exact a d h _ Z D o h' g' (by rw [f];exact e) (q.from_ l)
end
end PX
namespace PX
open PySem L2
variable {K:Ck}
section
variable {ta tb:TE}{ea eb:XE}{t u:TS}{s s':XS}{tA:TT}{eA:XT}
def ywN (W:Wd) (p:Addr) (o:HO):Wd:=⟨W.F,upd W.H p o,W.m,W.h⟩
theorem yyy (w:WOk K W) (h:p∉W.m) (j:W.F p=none):WOk K (ywN W p o):=by
 refine ⟨fun b u e=>?_,w.len,w.nd,fun n d a g f=>?_⟩
 .have:=ybJ e j
  exact (yR this).trans (w.le _ _ e)
 .have i:a≠p:=fun z=>h (z ▸ mem_of_getElem? f)
  exact (w.at_ n d a g f).mono (Same.refl _) (prefix_refl _) (fun u e=>(yR i).trans e) id
theorem yrq (l:Le K W d) (g:p∉d.m) (i:d.F p=none) (j:W.H p=none):Le K W (ywN d p o) :=
 ⟨yyy l.ok g i,l.fs,l.pre,fun b u e n=>(yR (ybJ e j)).trans (l.keep b u e n),l.new,l.mn,fun n ks xs f=>⟨(l.fz n ks xs f).1,fun a h=>(yR fun (z:a=p)=>g (z ▸ mem_of_getElem? (yeF l.pre h))).trans ((l.fz n ks xs f).2 a h)⟩⟩
theorem yrr (l:Le K W c) (f:p∉c.m):Lf K W (ywN c p o) :=
 ⟨l.fs,l.pre,fun n ks xs e=>⟨(l.fz n ks xs e).1,fun a d=>(yR fun (z:a=p)=>f (z ▸ mem_of_getElem? (yeF l.pre d))).trans ((l.fz n ks xs e).2 a d)⟩⟩
theorem Good.mut (g:Good K W0 W ρ Z) (e:ρ[i]?=some (.own d)) (hs:Z[i]?=some (some (.ref p))) (hm:p∉W.m) (h0:W0.H p=none) (hf:W.F p=none) (hd:d'≠.dead)
  (at_:NdAt K W.F (upd W.H p o) W.m d' p):Good K W0 (ywN W p o) (ρ.set i (.own d')) Z:=by
 have hl:i<ρ.length:=(List.getElem?_eq_some_iff.mp e).1;refine ⟨yrq g.le hm hf h0,by rw [length_set];exact g.len,fun j y e'=>?_,fun j d1 e'=>?_,fun j1 j2 d1 d2 hj e1 e2=>?_⟩
 .by_cases hj:i=j
  .subst hj;rw [getElem?_set_self hl] at e';cases e'
  .rw [getElem?_set_ne hj] at e';exact g.val j y e'
 .by_cases hj:i=j
  .subst hj;rw [getElem?_set_self hl] at e';cases e';exact ⟨p,hs,hm,h0,hd,at_⟩
  .rw [getElem?_set_ne hj] at e';obtain ⟨q,a1,a2,a3,a4,a5⟩:=g.own j d1 e';have hq:q≠p:=fun z=>g.ne j i d1 d (fun z=>hj z.symm) e' e (by rw [a1,hs,z])
   exact ⟨q,a1,a2,a3,a4,a5.mono (Same.refl _) (prefix_refl _) (fun u e=>(yR hq).trans e) id⟩
 .have f:∀ {j:Nat}{d1:Nd},(ρ.set i (.own d'))[j]?=some (.own d1)->∃ d2,ρ[j]?=some (.own d2):=fun {j d1} e'=>by
   by_cases hj:i=j
   .subst hj;exact ⟨d,e⟩
   .rw [getElem?_set_ne hj] at e';exact ⟨_,e'⟩
  obtain ⟨_,f1⟩:=f e1;obtain ⟨_,f2⟩:=f e2;exact g.ne j1 j2 _ _ hj f1 f2
theorem big (h:n<100000):n<sizeLine:=lt_of_lt_of_le h (by decide)
theorem yyz (h:n<=100000):n<=sizeLine:=Nat.le_trans h (by decide)
theorem yuB (i:Nat) (a:ycb K ta ea):yeZ K (yqD (tBM K.K "list" yne (yqs i) (yna ta ywC))) (yfW i ea):=by
 intro W0 W ρ Z D o h' g e q;unfold yfW at e;split at e
 .rename_i xs0 hx;obtain ⟨x,h1,e1,f1⟩:=yk e;split at f1
  .rename_i hlen;cases f1;obtain ⟨p,a1,a2,a3,a4,hf,vs,hp,r⟩:=g.own i _ hx;refine ⟨.ref p,a1,.inl ⟨rfl,_,SqL.of hp⟩,?_⟩;refine a W0 W ρ Z _ x _ g e1 fun v W1 w1 l1 r1=>⟨p,vs,v,rfl,rfl,l1.keep _ _ hp a2,by rw [r.len];exact big hlen,?_⟩
   have g1:=g.step l1;obtain ⟨p',b1,b2,b3,b4,b5,vs',b6,b7⟩:=g1.own i _ hx;rw [a1] at b1;cases b1;rw [l1.keep _ _ hp a2] at b6;cases b6;exact q (ywN W1 p (.lst (vs++[v]))) Z w1 (yrr l1 b2) (g1.mut hx a1 b2 b3 b5 (fun z=>by cases z) ⟨b5,_,yP,b7.snoc r1⟩)
  .cases f1
 .cases e
structure ItOk (K:Ck) (W:Wd) (J:It) (xs:List PV):Prop where
 go:∀ (i:Nat) (W':Wd),Lf K W W'->WOk K W'->i<xs.length->J.go i W'.H
 yld:∀ (i:Nat) (W':Wd) (v:V) (H2:Hp),Lf K W W'->WOk K W'->i<xs.length->J.yld i W'.H v H2->H2=W'.H/\∃ x,xs[i]?=some x/\ycO K W' x v
 stop:∀ (W':Wd),Lf K W W'->WOk K W'->J.stop xs.length W'.H
def SndI (K:Ck) (wi:TI) (e:XA):Prop:=∀ (W0 W:Wd) (ρ:PSt) (Z:St) (R:It->Hp->Prop) (xs:List PV) (h':AH),Good K W0 W ρ Z->e ρ W.h=some (xs,h')->(∀ J W',W'.h=h'->Le K W W'->ItOk K W' J xs->R J W'.H)->wi Z W.H R
def xIL (e:XE):XA:=fun ρ h=>ob (e ρ h) fun x h1=>match x with|.lst xs=>some (xs,h1)|.scr ns=>some (ns.map .int,h1)|_=>none
noncomputable def sgn (c:Nat):PV:=.str ⟨#[c]⟩
def xIS (e:XE):XA:=fun ρ h=>ob (e ρ h) fun x h1=>match x with|.str z=>if z.length<=100000 then some (z.cps.toList.map sgn,h1) else none|_=>none
noncomputable def ymR (lo:Int) (n:Nat):List PV:=(List.range n).map fun (k:Nat)=>.int (lo+(k:Int))
def yhz (a:XA):XA:=fun ρ h=>ob (a ρ h) fun xs h1=>match xs with|[.int j]=>if -1000000000<=j/\j<=1000000000 then some (ymR 0 j.toNat,h1) else none|_=>none
theorem yfX (w:WOk K W) (h:SqL K.K W.F a vs):SqL K.K W.H a vs:=Same.seq w.le h
theorem ydF (w:WOk K W) (h:TpAt K.K W.F a vs):SqT K.K W.H a vs:=h.elim (fun h=>SqT.of (w.le _ _ h)) .inr
theorem yrs (a:ycb K ta ea):SndI K (ytU K.K ta) (xIL ea):=by
 intro W0 W ρ Z R xs h' g e q;obtain ⟨x,h1,e1,f1⟩:=yk e;refine a W0 W ρ Z _ x h1 g e1 fun v W1 w1 l1 r1=>?_
 have key:∀ (a:Addr) (vs:List V),v=.ref a->SqL K.K W1.F a vs->RepL K W1.F W1.m xs vs->h1=h'->∃ a,v=.ref a/\(∃ xs,SqL K.K W1.H a xs)/\R (Itl K.K a) W1.H:=fun a vs ev hs rs eh=>by
  subst eh;refine ⟨a,ev,⟨vs,yfX l1.ok hs⟩,q _ W1 w1 l1 ⟨fun i W' l w hi=>?_,fun i W' v' H2 l w hi hy=>?_,fun W' l w=>?_⟩⟩
  .obtain ⟨v',h1,_⟩:=rs.get (List.getElem?_eq_getElem hi);exact ⟨vs,v',yfX w (Same.seq l.fs hs),h1⟩
  .obtain ⟨h1,h2⟩:=hy;have:=h2 vs (yfX w (Same.seq l.fs hs));obtain ⟨x,h3,h4⟩:=rs.get' this;exact ⟨h1,x,h3,l.rep h4⟩
  .exact ⟨vs,yfX w (Same.seq l.fs hs),by rw [rs.len];exact Nat.le_refl _⟩
 split at f1
 .cases f1;obtain ⟨a,vs,ev,hs,rs⟩:=r1;exact key a vs ev (SqL.of hs) rs rfl
 .rename_i ns;cases f1;obtain ⟨a,ev,hs⟩:=r1;exact key a _ ev hs (RepL.of_ints ns) rfl
 .cases f1
theorem yuC (a:ycb K ta ea):SndI K (yGE ta) (xIS ea):=by
 intro n W ρ Z R xs h' g e q;obtain ⟨x,h1,m,d⟩:=yk e;refine a n W ρ Z _ x h1 g m fun v o p k h=>?_
 split at d
 .rename_i z;split at d
  .rename_i hz;cases d;have hl:z.length=z.cps.toList.length:=by simp [Str.length]
   refine ⟨z,h,yyz hz,q _ o p k ⟨fun i f l w y=>?_,fun i f A B l w y r=>?_,fun f l w=>?_⟩⟩
   .show i<z.length;simp_all
   .obtain ⟨h1,c,h2,j⟩:=r;exact ⟨h1,sgn c,by rw [getElem?_map,h2];rfl,j⟩
   .show _=z.length;rw [hl];simp
  .cases d
 .cases d
theorem yBx W d n:ItOk K W (Itr d n) (ymR d n):=by
 refine ⟨fun i c l w b=>?_,fun i c f g l w b e=>?_,fun c l w=>?_⟩
 .show i<n;simpa [ymR] using b
 .obtain ⟨h1,h2⟩:=e;have b:=by simpa [ymR] using b
  exact ⟨h1,.int _,by simp [ymR,b],h2⟩
 .show n<=_;simp [ymR]
theorem yrt {t:TA}(a:ymQ K t e):SndI K (yBc t) (yhz e):=by
 intro n W ρ Z R xs h' g e q;obtain ⟨ys,h1,h,c⟩:=yk e;split at c
 .rename_i j;split at c
  .cases c;refine a n W ρ Z _ _ _ g h fun vs d l i f=>?_
   obtain ⟨v,r,rfl,m,k⟩:=f;obtain rfl:r=[]:=k;exact ⟨j,by rw [m],by omega,by omega,q _ d l i (yBx d 0 _)⟩
  .cases c
 .cases c
structure yyA (K:Ck) (W:Wd) (J:It) (xs:List PV):Prop where
 go:∀ (i:Nat) (W':Wd),Lf K W W'->WOk K W'->i<xs.length->J.go i W'.H
 yld:∀ (i:Nat) (W':Wd) (v:V) (H2:Hp),Lf K W W'->WOk K W'->i<xs.length->J.yld i W'.H v H2->∃ W2,W2.H=H2/\W2.h=W'.h/\Le K W' W2/\∃ x,xs[i]?=some x/\ycO K W2 x v
 stop:∀ (W':Wd),Lf K W W'->WOk K W'->J.stop xs.length W'.H
def yBy (K:Ck) (wi:TI) (e:XA):Prop:=∀ (W0 W:Wd) (ρ:PSt) (Z:St) (R:It->Hp->Prop) (xs:List PV) (h':AH),Good K W0 W ρ Z->e ρ W.h=some (xs,h')->(∀ J W',W'.h=h'->Le K W W'->yyA K W' J xs->R J W'.H)->wi Z W.H R
noncomputable def FNext (P:PSt->AH->Prop) (o:Out) (h':AH) (o1:Out) (h:AH):Prop:=match o1 with
 | .nx ρ=>P ρ h|.ct ρ=>P ρ h|.bk ρ=>some (Out.nx ρ,h)=some (o,h')|.rt y=>some (Out.rt y,h)=some (o,h')
theorem yru {J:It}(b:ypQ K g y) (c:yeZ K t s) (n:Nat) (P:Nat->PSt->AH->Prop) (gd:Good K W0 W1 ρ Y) (q1:Ends.Ok K W0 W1 D h' o) (p0:P 0 ρ W1.h)
  (go:∀ i W' ρ',Lf K W1 W'->WOk K W'->i<n->P i ρ' W'.h->J.go i W'.H/\∃ x ρ1 o1 h2,y x ρ'=some ρ1/\s ρ1 W'.h=some (o1,h2)/\FNext (P (i+1)) o h' o1 h2/\∀ v H2,J.yld i W'.H v H2->∃ W2,W2.H=H2/\W2.h=W'.h/\Le K W' W2/\ycO K W2 x v)
  (st:∀ W' ρ',Lf K W1 W'->WOk K W'->P n ρ' W'.h->J.stop n W'.H/\some (Out.nx ρ',W'.h)=some (o,h')) :
  ∃ Z:Nat->Nat->St->Hp->Prop,(∃ m,Z 0 m Y W1.H)/\∀ i m Y H,Z i m Y H ->
   (J.stop i H/\D.nx Y H)\/(J.go i H/\∃ N:St->Hp->Prop,(∀ Y' H',N Y' H'->∃ m',m'<m/\Z (i+1) m' Y' H')/\∀ x H',J.yld i H x H'->g x Y H' fun Y2 H2=>t { D with nx:=N,ct:=N,bk:=D.nx } Y2 H2):=by
 refine ⟨fun i m Y H=>m=n-i/\i<=n/\∃ W' ρ',W'.H=H/\Lf K W1 W'/\Good K W0 W' ρ' Y/\P i ρ' W'.h,⟨_,rfl,zero_le _,W1,ρ,rfl,.refl,gd,p0⟩,?_⟩;rintro i m Y _ ⟨rfl,hi,W',ρ',rfl,l,g',p⟩
 by_cases hlt:i<n
 .obtain ⟨g1,x,ρ1,o1,h2,k1,k2,f,hy⟩:=go i W' ρ' l g'.ok hlt p;refine .inr ⟨g1,fun Y H=>∃ W' ρ',W'.H=H/\Lf K W1 W'/\Good K W0 W' ρ' Y/\P (i+1) ρ' W'.h,fun _ _ z=>⟨_,Nat.sub_succ_lt_self n i hlt,rfl,hlt,z⟩,fun v H2 z=>?_⟩;obtain ⟨Wz,rfl,eh,lz,rx⟩:=hy v H2 z;refine b W0 Wz ρ' ρ1 Y _ v _ (g'.step lz) rx k1 fun Y2 g2=>c W0 Wz ρ1 Y2 _ o1 h2 g2 (eh ▸ k2) ?_
  have l:=l.trans lz.lf;cases o1 with
  | nx ρ2=>exact fun W2 Y3 w2 l2 g3=>⟨W2,ρ2,rfl,l.trans l2,g3,w2 ▸ f⟩
  | ct ρ2=>exact fun W2 Y3 w2 l2 g3=>⟨W2,ρ2,rfl,l.trans l2,g3,w2 ▸ f⟩
  | bk ρ2=>cases f;exact fun W2 Y3 w2 l2 g3=>q1 W2 Y3 w2 (l.trans l2) g3
  | rt x=>cases f;exact q1
 .cases Nat.le_antisymm hi (Nat.le_of_not_lt hlt);obtain ⟨z1,z2⟩:=st W' ρ' l g'.ok p;cases z2;exact .inl ⟨z1,q1 W' Y rfl l g'⟩
theorem FNext.of {P:PSt->AH->Prop}{F:PSt->AH->Option (Out×AH)}{o o1:Out}{h h':AH}(f:(match o1 with|.nx ρ'=>F ρ' h|.ct ρ'=>F ρ' h|.bk ρ'=>some (.nx ρ',h)|.rt y=>some (.rt y,h))=some (o,h')) (e:∀ ρ,F ρ h=some (o,h')->P ρ h):FNext P o h' o1 h:=by cases o1<;>first|exact e _ f|exact f
theorem yrv (b:ypQ K g y) (c:yeZ K t s) (gd:Good K W0 W1 ρ Y) (q1:Ends.Ok K W0 W1 D h' o) (J1:yyA K W1 J xs) (f1:yhN y s xs ρ W1.h=some (o,h')) :
  ∃ Z:Nat->Nat->St->Hp->Prop,(∃ m,Z 0 m Y W1.H)/\∀ i m Y H,Z i m Y H ->
   (J.stop i H/\D.nx Y H)\/(J.go i H/\∃ N:St->Hp->Prop,(∀ Y' H',N Y' H'->∃ m',m'<m/\Z (i+1) m' Y' H')/\∀ x H',J.yld i H x H'->g x Y H' fun Y2 H2=>t { D with nx:=N,ct:=N,bk:=D.nx } Y2 H2):=by
 refine yru b c xs.length (fun i ρ h=>yhN y s (xs.drop i) ρ h=some (o,h')) gd q1 f1 (fun i W' ρ' l w hlt f=>?_) fun W' ρ' l w f=>⟨J1.stop W' l w,by rw [List.drop_length] at f;exact f⟩
 rw [List.drop_eq_getElem_cons hlt] at f;obtain ⟨ρ1,k1,f⟩:=Option.bind_eq_some_iff.mp f;obtain ⟨o1,h2,k2,f3⟩:=yk f;refine ⟨J1.go i W' l w hlt,_,ρ1,o1,h2,k1,k2,.of f3 fun _=>id,fun v H2 hy=>?_⟩;obtain ⟨Wz,e1,eh,lz,x,hx,rx⟩:=J1.yld i W' v H2 l w hlt hy;rw [List.getElem?_eq_getElem hlt] at hx;cases hx;exact ⟨Wz,e1,eh,lz,rx⟩
theorem ItOk.z (j:ItOk K W J xs):yyA K W J xs:=⟨j.go,fun i W' v H2 l w hi hy=>by obtain ⟨rfl,z⟩:=j.yld i W' v H2 l w hi hy;exact ⟨W',rfl,rfl,.refl w,z⟩,j.stop⟩
theorem yuD (a:yBy K wi it) (b:ypQ K g y) (c:yeZ K t s):yeZ K (yBd wi g t) (yjd it y s):=by intro W0 W ρ Z D o h' gd e q;obtain ⟨xs,h1,e1,f1⟩:=yk e;exact a W0 W ρ Z _ xs h1 gd e1 fun J W1 w1 l1 J1=>yrv b c (gd.step l1) (q.from_ l1.lf) J1 (w1 ▸ f1)
theorem SndI.z (a:SndI K wi it):yBy K wi it:=fun W0 W ρ Z R xs h g e q=>a W0 W ρ Z R xs h g e fun J W' w l j=>q J W' w l j.z
theorem yyB (a:SndI K wi it) (b:ypQ K g y) (c:yeZ K t s):yeZ K (yBd wi g t) (yjd it y s):=yuD a.z b c
theorem yrw n (c:ylQ K tA eA) (a:yeZ K t s):yeZ K (ywy tA t) (yfI n eA s):=by
 intro y W ρ Z D o h' F e q;refine ⟨fun m Z H=>∃ g ρ',g.H=H/\Lf K W g/\Good K y g ρ' Z/\whl eA s m ρ' g.h=some _,⟨n,W,ρ,rfl,.refl,F,e⟩,?_⟩;rintro m Z _ ⟨g,ρ',rfl,l,g',f⟩;cases m with
 | zero=>cases f
 | succ m =>
  obtain ⟨k,h1,E,r⟩:=yk f;refine c y g ρ' Z _ k h1 g' E fun A C v=>?_
  subst C;cases k with
  | false =>
   rw [if_neg (by decide)] at r ⊢;cases r;exact q A Z rfl (l.trans v.lf) (g'.step v)
  | true =>
   rw [if_pos rfl] at r ⊢;obtain ⟨o1,h2,k2,w⟩:=yk r;refine ⟨_,fun B G z=>⟨m,Nat.lt_succ_self _,z⟩,?_⟩;refine a y A ρ' Z _ o1 h2 (g'.step v) k2 ?_;have l':=l.trans v.lf;cases o1 with
   | nx ρ2=>exact fun h d i p j=>⟨h,ρ2,rfl,l'.trans p,j,by rw [i];exact w⟩
   | ct ρ2=>exact fun h d i p j=>⟨h,ρ2,rfl,l'.trans p,j,by rw [i];exact w⟩
   | bk ρ2=>cases w;exact fun h d i p j=>q h d i (l'.trans p) j
   | rt x=>cases w;exact q
theorem yhO (g:Good K c W ρ Z) (l:Le K W b) ix {x:PV}{v:V}(r:ycO K b x v):Good K b b (yfC ix ρ x) (inner ix Z v) where
 le:=.refl l.ok
 len:=by simp [yfC,inner]
 val:=fun j y e=>by
  cases j with
  | zero=>simp [yfC] at e;subst e;exact ⟨v,rfl,r⟩
  | succ j =>
   have e:(ix.map (yyt ρ))[j]?=some _:=e;rw [getElem?_map] at e;cases ei:ix[j]? with
   | none=>simp_all
   | some i =>
    rw [ei] at e;have e:=Option.some.inj e;unfold yyt at e;split at e
    .rename_i z hz;cases e;obtain ⟨w,h1,h2⟩:=g.val i _ hz;exact ⟨w,by show (ix.map _)[j]?=_;simp_all,l.rep h2⟩
    .cases e
 own:=fun j d e=>by
  cases j with
  | zero=>simp [yfC] at e
  | succ j =>
   have e:(ix.map (yyt ρ))[j]?=some _:=e;rw [getElem?_map] at e;cases ei:ix[j]? with
   | none=>simp_all
   | some i =>
    rw [ei] at e;have e:=Option.some.inj e;unfold yyt at e;split at e<;>cases e
 ne:=fun j k d d' _ e _=>by
  cases j with
  | zero=>simp [yfC] at e
  | succ j =>
   have e:(ix.map (yyt ρ))[j]?=some _:=e;rw [getElem?_map] at e;cases ei:ix[j]? with
   | none=>simp_all
   | some i =>
    rw [ei] at e;have e:=Option.some.inj e;unfold yyt at e;split at e<;>cases e
def ywO (J:It) (tc:TT) (te:TE) (inn:V->St) (D:Addr) (Q:VK) (H:Hp):Prop:=∃ W:Nat->Nat->Hp->Prop,(∃ m,W 0 m H)/\∀ i m H,W i m H ->
 (J.stop i H/\Q (.ref D) H)\/(J.go i H/\∀ x H',J.yld i H x H'->tc (inn x) H' fun b H1=>if b=true then te (inn x) H1 fun y H2=>∃ acc,H2 D=some (.lst acc)/\acc.length<sizeLine/\∃ m',m'<m/\W (i+1) m' (upd H2 D (.lst (acc++[y]))) else ∃ m',m'<m/\W (i+1) m' H1)
def yjB (wi:TI) (ix:List Nat) (tc:TT) (te:TE):TE:=fun Z H Q=>wi Z H fun J H1=>∀ D,H1 D=none->ywO J tc te (inner ix Z) D Q (upd H1 D (.lst []))
def yAx (c:XT) (e:XE) (inn:PV->PSt):List PV->AH->Option (List PV×AH)
 | [],h=>some ([],h)
 | x::xs,h=>ob (c (inn x) h) fun b h1=>if b=true then ob (e (inn x) h1) fun y h2=>ob (yAx c e inn xs h2) fun ys h3=>some (y::ys,h3) else yAx c e inn xs h1
def ywP (J:It) (ST:V->Hp->VK->(Hp->Prop)->Prop) (D:Addr) (Q:VK) (H:Hp):Prop:=∃ W:Nat->Nat->Hp->Prop,(∃ m,W 0 m H)/\∀ i m H,W i m H ->
 (J.stop i H/\Q (.ref D) H)\/(J.go i H/\∀ x H',J.yld i H x H'->ST x H' (fun y H2=>∃ acc,H2 D=some (.lst acc)/\acc.length<sizeLine/\∃ m',m'<m/\W (i+1) m' (upd H2 D (.lst (acc++[y])))) fun H1=>∃ m',m'<m/\W (i+1) m' H1)
theorem ynz {J:It}{ST:V->Hp->VK->(Hp->Prop)->Prop}{D:Addr}{Q:VK}{W1:Wd}(n:Nat) {zs:List PV}(P:Nat->AH->List PV->Prop) (w:WOk K W1) (hn:n<=100000) (hD:W1.H D=none) (p0:P 0 W1.h zs)
  (go:∀ i W' rest,Le K W1 W'->i<n->P i W'.h rest->J.go i W'.H/\∀ v H2,J.yld i W'.H v H2->∀ (k:VK) (g:Hp->Prop),(∀ u y r W2,Le K W' W2->rest=y::r->ycO K W2 y u->P (i+1) W2.h r->k u W2.H)->(∀ W2,Le K W' W2->P (i+1) W2.h rest->g W2.H)->ST v H2 k g)
  (st:∀ W' rest,Le K W1 W'->P n W'.h rest->rest=[]/\J.stop n W'.H)
  (q:∀ W' acc,Le K W1 W'->P n W'.h []->D∉W'.m->W'.F D=none->W'.H D=some (.lst acc)->ycL K W' zs acc->Q (.ref D) W'.H):ywP J ST D Q (upd W1.H D (.lst [])):=by
 refine ⟨fun i m H=>m=n-i/\i<=n/\∃ W' acc done rest,W'.H=H/\Le K W1 W'/\D∉W'.m/\W'.F D=none/\W'.H D=some (.lst acc)/\ycL K W' done acc/\done.length<=i/\zs=done++rest/\P i W'.h rest,⟨_,rfl,zero_le _,yic W1 D (.lst []),[],[],zs,rfl,ydE w hD,w.out hD,w.ff hD,yP,rfl,Nat.le_refl _,rfl,p0⟩,?_⟩;rintro i m _ ⟨rfl,hi,W',acc,done,rest,rfl,l,n1,n2,hd,rd,ld,ez,p⟩
 by_cases hlt:i<n
 .obtain ⟨g1,g2⟩:=go i W' rest l hlt p;have nm:∀ {W2},Le K W' W2->D∉W2.m:=fun l2 z=>by rw [l2.mn D z n1] at hd;cases hd
  refine .inr ⟨g1,fun v H2 hy=>g2 v H2 hy _ _ (fun u y r W2 l2 er r2 p2=>?_) fun W2 l2 p2=>?_⟩
  .have nf:=l2.new D _ hd n1 n2;exact ⟨acc,l2.keep _ _ hd n1,by rw [rd.len];exact big (by omega),_,Nat.sub_succ_lt_self n i hlt,rfl,hlt,ywN W2 D (.lst (acc++[u])),_,done++[y],r,rfl,yrq (l.trans l2) (nm l2) nf hD,nm (W2:=W2) l2,nf,yP,(l2.repL rd).snoc r2,by rw [length_append];exact Nat.succ_le_succ ld,by rw [ez,er,append_assoc];rfl,p2⟩
  .exact ⟨_,Nat.sub_succ_lt_self n i hlt,rfl,hlt,W2,acc,done,rest,rfl,l.trans l2,nm l2,l2.new D _ hd n1 n2,l2.keep _ _ hd n1,l2.repL rd,Nat.le_succ_of_le ld,ez,p2⟩
 .cases Nat.le_antisymm hi (Nat.le_of_not_lt hlt);obtain ⟨rfl,g⟩:=st W' rest l p;rw [append_nil] at ez;exact .inl ⟨g,q W' acc l p n1 n2 hd (ez ▸ rd)⟩
theorem yrx {ta:TE}{ea:XE}{tA:TT}{eA:XT}{wi:TI}{it:XA}(B:Nat->Prop) [DecidablePred B] (hB:∀ n,B n->n<=100000) (ix:List Nat) (a:SndI K wi it) (c:ylQ K tA eA) (b:ycb K ta ea):ylR K (yjB wi ix tA ta) (fun ρ h=>ob (it ρ h) fun xs h1=>if B xs.length then ob (yAx eA ea (yfC ix ρ) xs h1) fun ys h2=>some (.lst ys,h2) else none):=by
 intro W0 W ρ Z Q d h' gd e q;obtain ⟨xs,h1,e1,f1⟩:=yk e;split at f1
 .rename_i hlen;obtain ⟨zs,h2,e2,f2⟩:=yk f1;cases f2;refine a W0 W ρ Z _ xs h1 gd e1 fun J W1 w1 l1 J1 D hD=>ynz (ST:=fun v H k g=>tA (inner ix Z v) H fun b H1=>if b=true then ta (inner ix Z v) H1 k else g H1) xs.length (fun i h r=>yAx eA ea (yfC ix ρ) (xs.drop i) h=some (r,h')) l1.ok (hB _ hlen) hD (w1 ▸ e2) (fun i W' r l hlt f=>?_) (fun W' r l f=>?_) fun W' acc l f n1 n2 hd rd=>?_
  .refine ⟨J1.go i W' l.lf l.ok hlt,fun v H2 hy k g hk hg=>?_⟩;obtain ⟨rfl,x,hx,rx⟩:=J1.yld i W' v H2 l.lf l.ok hlt hy;rw [List.getElem?_eq_getElem hlt] at hx;cases hx;rw [List.drop_eq_getElem_cons hlt] at f;obtain ⟨k0,h0,k00,f0⟩:=yk f;refine c W' W' _ _ _ k0 h0 (yhO gd (l1.trans l) ix rx) k00 fun W2 w2 l2=>?_
   subst w2;cases k0 with
   | false=>exact hg W2 l2 f0
   | true =>
    rw [if_pos rfl] at f0 ⊢;obtain ⟨y,h3,k1,f3⟩:=yk f0;obtain ⟨ys,h4,k2,f4⟩:=yk f3;cases f4;exact b W2 W2 _ _ _ y h3 (yhO gd (l1.trans (l.trans l2)) ix (l2.rep rx)) k1 fun w W3 w3 l3 r3=>hk w y ys W3 (l2.trans l3) rfl r3 (w3 ▸ k2)
  .rw [List.drop_length] at f;cases f;exact ⟨rfl,J1.stop W' l.lf l.ok⟩
  .rw [List.drop_length] at f;cases f;exact q D W' rfl (l1.trans l) n1 (l1.fresh hD) (fun z=>by cases z) ⟨n2,acc,hd,rd⟩
 .cases f1
theorem ywQ:∀ {xs:List PV}{h:AH},yAx (fun _ h=>some (true,h)) e inn xs h=yll e inn xs h
 | [],_=>rfl
 | x::xs,h=>by unfold yAx yll;simp only [ywQ];rfl
theorem yoF {ta:TE}{ea:XE}(ix:List Nat) (a:SndI K wi it) (b:ycb K ta ea):ylR K (ypI wi ix ta) (yet it ix ea):=by have:=yrx (tA:=fun _ H k=>k true H) (eA:=fun _ h=>some (true,h)) (· <= 100000) (fun _ h=>h) ix a (fun _ W _ _ _ _ _ g e q=>by cases e;exact q W rfl (.refl g.le.ok)) b;simp only [ywQ] at this;exact this
theorem yBz {Q:VK}(h:ywP J (fun v H k _=>te (inn v) H k) D Q H):yBm J te inn D Q H:=h
theorem ygS (w:WOk K W) {N:List Str}(r:ycL K W xs vs):Good K W W (xs.map .val++replicate (N.length-xs.length) .no) (L2.start N vs) where
 le:=.refl w
 len:=by simp [L2.start,r.len]
 val:=fun j y e=>by
  by_cases b:j<xs.length
  .rw [getElem?_append_left (by simpa using b),getElem?_map,List.getElem?_eq_getElem b] at e;cases e;obtain ⟨v,h1,h2⟩:=r.get (List.getElem?_eq_getElem b);refine ⟨v,?_,h2⟩;unfold L2.start;rw [getElem?_append_left (by simp [r.len,b]),getElem?_map,h1];rfl
  .rw [getElem?_append_right (by simp;omega),getElem?_replicate] at e;split at e<;>cases e
 own:=fun j d e=>by
  by_cases b:j<xs.length
  .rw [getElem?_append_left (by simpa using b),getElem?_map,List.getElem?_eq_getElem b] at e;cases e
  .rw [getElem?_append_right (by simp;omega),getElem?_replicate] at e;split at e<;>cases e
 ne:=fun j k d d' _ e _=>by
  by_cases b:j<xs.length
  .rw [getElem?_append_left (by simpa using b),getElem?_map,List.getElem?_eq_getElem b] at e;cases e
  .rw [getElem?_append_right (by simp;omega),getElem?_replicate] at e;split at e<;>cases e
theorem yuE {N:List Str}{Q:VK}(a:yeZ K t s) (h:spE K n (ybp N.length s) vs H Q E):t ⟨fun _ k=>Q .non k,Q,bk,ct⟩ (L2.start N vs) H:=by
 obtain ⟨W,xs,x,h',rfl,w,r,_,e,q⟩:=h;obtain ⟨o,h1,m,c⟩:=yk e;refine a W W _ _ _ o h1 (ygS w r) m ?_;cases o with
 | rt y=>cases c;exact fun f v d l i=>q v f d l i
 | nx ρ=>cases c;exact fun f j d _ g=>q _ f d g.le rfl
 | bk ρ=>cases c
 | ct ρ=>cases c
theorem yyC {Q:VK}(h:spE K n f vs H Q E):vs.length=n:=by obtain ⟨W,xs,x,h',rfl,w,r,hn,_⟩:=h;rw [r.len,hn]
end
end PX
namespace PX
open PySem L2
variable {K:Ck}
noncomputable def oI (g:Int->Int->PV):P2:=fun x y h=>match x,y with|.int i,.int j=>some (g i j,h)|_,_=>none
noncomputable def oIc (C:Int->Int->Prop) [∀ i j,Decidable (C i j)] (g:Int->Int->PV):P2:=fun x y h=>match x,y with|.int i,.int j=>if C i j then some (g i j,h) else none|_,_=>none
abbrev yeG:P2:=oI fun i j=>.int (i+j)
abbrev yoG:P2:=oI fun i j=>.int (i-j)
noncomputable def MulOk (i j:Int):Prop:=(-18446744073709551616<i/\i<18446744073709551616)\/(-18446744073709551616<j/\j<18446744073709551616)
instance (i j:Int):Decidable (MulOk i j):=by unfold MulOk;infer_instance
noncomputable def yry (i j:Int):Prop:=(0<=i/\i<18446744073709551616)/\0<=j/\j<=1000000
instance (i j:Int):Decidable (yry i j):=by unfold yry;infer_instance
abbrev ynA:P2:=oIc MulOk fun i j=>.int (i*j)
abbrev oDiv:P2:=oIc (fun _ j=>0<j/\j<1073741824) fun i j=>.int (i/j)
abbrev oMod:P2:=oIc (fun _ j=>0<j) fun i j=>.int (i%j)
abbrev yEG:P2:=oIc yry fun i j=>.int (i ^ j.toNat)
abbrev oLt:P2:=oI fun i j=>.bl (decide (i<j))
abbrev oLe:P2:=oI fun i j=>.bl (decide (i<=j))
abbrev oGt:P2:=oI fun i j=>.bl (decide (j<i))
abbrev oGe:P2:=oI fun i j=>.bl (decide (j<=i))
noncomputable abbrev yBA:PV->AH->Option (PV×AH):=fun x h=>match x with|.int i=>some (.int (-i),h)|_=>none
theorem yAy (h:∀ (W:Wd) i j,ycO K W (g i j) (gV i j)):ycw K (rI0 gV) (oI g):=by
 intro W x y v u Q z h' w rx ry e q;unfold oI at e;split at e
 .rename_i i j;cases e;exact ⟨i,j,rx,ry,q _ W rfl (.refl w) (h W i j)⟩
 .cases e
theorem yuF {C:Int->Int->Prop} [∀ i j,Decidable (C i j)] {b:Int->Int->Prop}{g:Int->Int->PV}{d:Int->Int->V}(f:∀ i j,C i j->b i j) (h:∀ W i j,ycO K W (g i j) (d i j)):ycw K (rI b d) (oIc C g):=by
 intro W x y v u Q z h' w l k e q;unfold oIc at e;split at e
 .rename_i i j;split at e
  .rename_i c;cases e;exact ⟨i,j,l,k,f i j c,q _ W rfl (.refl w) (h W i j)⟩
  .cases e
 .cases e
theorem ydy:ycw K yEv yeG:=yAy fun _ _ _=>rfl
theorem yjj:ycw K yEw yoG:=yAy fun _ _ _=>rfl
theorem ylT:ycw K yEx ynA:=yuF (fun i j h=>by exact h) fun _ _ _=>rfl
theorem yfd:ycw K yEy oDiv:=yuF (fun i j h=>h) fun _ _ _=>rfl
theorem ycJ:ycw K yEz oMod:=yuF (fun i j h=>h) fun _ _ _=>rfl
theorem yBB:ycw K yEA yEG:=yuF (fun i j h=>by unfold yEo;unfold yry at h;omega) fun _ _ _=>rfl
theorem yqu:ycw K yHa oLt:=yAy fun _ _ _=>rfl
theorem ytG:ycw K yHb oLe:=yAy fun _ _ _=>rfl
theorem yBC:ycw K yHc oGt:=yAy fun _ _ _=>rfl
theorem yHf:ycw K yHd oGe:=yAy fun _ _ _=>rfl
theorem yyD:yyg K yEB yBA:=by
 intro W x v Q z h' w b e q;unfold yBA at e;split at e
 .rename_i i;cases e;exact ⟨i,b,q _ W rfl (.refl w) rfl⟩
 .cases e
noncomputable def sv:PV->Option V
 | .non=>some .non
 | .bl b=>some (.bl b)
 | .int i=>some (.int i)
 | .str s=>some (.str s)
 | _=>none
theorem yfJ (e:sv x=some u) (r:ycO K W x v):v=u:=by cases x<;>cases e<;>exact r
def oEq:P2:=fun x y h=>match sv x,sv y with|some v,some u=>if yDO v u=true then some (.bl (decide (v=u)),h) else none|_,_=>none
def oNe:P2:=fun x y h=>match sv x,sv y with|some v,some u=>if yDO v u=true then some (.bl (!decide (v=u)),h) else none|_,_=>none
theorem ydb:ycw K rEq oEq:=by
 intro W x y v u Q z h' w rx ry e q;unfold oEq at e;split at e
 .rename_i v' u' e1 e2;obtain rfl:=yfJ e1 rx;obtain rfl:=yfJ e2 ry;split at e
  .rename_i c;cases e;exact ⟨c,q _ W rfl (.refl w) rfl⟩
  .cases e
 .cases e
theorem yDR:ycw K rNe oNe:=by
 intro W x y v u Q z h' w f d e q;unfold oNe at e;split at e
 .rename_i h i b g;obtain rfl:=yfJ b f;obtain rfl:=yfJ g d;split at e
  .rename_i c;cases e;exact ⟨c,q _ W rfl (.refl w) rfl⟩
  .cases e
 .cases e
noncomputable def isN:PV->Bool
 | .non=>true
 | _=>false
def yyE:P2:=fun x y h=>match y with|.non=>some (.bl (isN x),h)|_=>none
def yuG:P2:=fun x y h=>match y with|.non=>some (.bl (!isN x),h)|_=>none
theorem yrz (r:ycO K W x v):decide (v=.non)=isN x:=by
 cases x with
 | non=>rw [r];rfl
 | bl b=>rw [r];rfl
 | int b=>rw [r];rfl
 | str b=>rw [r];rfl
 | ty b=>rw [r];rfl
 | cls b=>rw [r];rfl
 | scr b=>obtain ⟨a,e,_⟩:=r;rw [e];rfl
 | lst b=>obtain ⟨a,_,e,_⟩:=r;rw [e];rfl
 | tup b=>obtain ⟨a,_,e,_⟩:=r;rw [e];rfl
 | ins k n b=>obtain ⟨a,_,_,e,_⟩:=r;rw [e];rfl
 | loc n=>obtain ⟨a,e,_⟩:=r;rw [e];rfl
 | exc n=>obtain ⟨a,e,_⟩:=r;rw [e];rfl
 | xcl n=>rw [r];rfl
theorem yuH:ycw K yHe yyE:=by
 intro W x y v u Q z h' w c b e q;unfold yyE at e;split at e
 .cases e;exact ⟨b,by rw [yrz c];exact q _ W rfl (.refl w) rfl⟩
 .cases e
theorem yBD:ycw K yED yuG:=by
 intro W x y v u Q z h' w c b e q;unfold yuG at e;split at e
 .cases e;exact ⟨b,by rw [yrz c];exact q _ W rfl (.refl w) rfl⟩
 .cases e
noncomputable def ybn:P2:=fun x y h=>match x,y with|.str i,.str j=>if i.length+j.length<=100000 then some (.str (i++j),h) else none|_,_=>none
theorem ybi:ycw K yEC ybn:=by
 intro W x y v u Q z h' w d b e q;unfold ybn at e;split at e
 .rename_i i j;split at e
  .rename_i c;cases e;exact ⟨i,j,d,b,yyz c,q _ W rfl (.refl w) rfl⟩
  .cases e
 .cases e
noncomputable def yDS:P2:=fun x y h=>match x,y with|.str s,.str j=>(match s.cps.toList with|[c]=>some (.bl (decide (c∈j.cps.toList)),h)|_=>none)|_,_=>none
theorem one_sign {s:Str}(h:s.cps.toList=[c]):s=⟨#[c]⟩:=by obtain ⟨⟨l⟩⟩:=s;have:l=[c]:=h;rw [this]
theorem yBE:ycw K yGB yDS:=by
 intro W x y v u Q z h' w rx ry e q;unfold yDS at e;split at e
 .rename_i s j;split at e
  .rename_i c hc;cases e;exact ⟨c,j,by rw [<- one_sign hc];exact rx,ry,q _ W rfl (.refl w) rfl⟩
  .cases e
 .cases e
def ybd:P2:=fun x y h=>match y with
 | .int i=>(match x with
  | .lst xs=>(match atI xs i with|some v=>some (v,h)|none=>none)
  | .scr ns=>(match atI ns i with|some v=>some (.int v,h)|none=>none)
  | .loc n=>(match h[n]? with|some (.lst xs)=>(match atI xs i with|some v=>some (v,h)|none=>none)|_=>none)
  | _=>none)
 | _=>none
def ybF:P2:=fun x y h=>match x,y with|.tup xs,.int i=>(match atI xs i with|some v=>some (v,h)|none=>none)|_,_=>none
def ytH:P2:=fun x y h=>match x,y with|.str s,.int i=>(match atI s.cps.toList i with|some c=>if s.length<=100000 then some (sgn c,h) else none|none=>none)|_,_=>none
theorem RepL.at (r:RepL K F m xs vs) (e:atI xs i=some x):∃ v,atI vs i=some v/\Rep K F m x v:=by unfold atI at e ⊢;rw [r.len];obtain ⟨j,b,a⟩:=Option.bind_eq_some_iff.mp e;rw [b];exact r.get a
theorem WOk.loc (w:WOk K W) (e:W.h[n]?=Option.some d) (r:ycO K W (.loc n) v):∃ a,v=.ref a/\W.m[n]?=Option.some a/\NdAt K W.F W.H W.m d a:=by obtain ⟨a,c,h⟩:=r;exact ⟨a,c,h,w.at_ n d a e h⟩
theorem ybq:ycw K (yGt K.K) ybd:=by
 intro W x y v u Q z h' w h d e q;unfold ybd at e;split at e
 .rename_i i;split at e
  .split at e
   .rename_i y c;cases e;obtain ⟨a,vs,ev,hs,f⟩:=h;obtain ⟨g,h1,h2⟩:=f.at c;exact ⟨a,vs,i,g,ev,d,SqL.of (w.le _ _ hs),h1,q _ W rfl (.refl w) h2⟩
   .cases e
  .rename_i ns;split at e
   .rename_i y c;cases e;obtain ⟨a,ev,hs⟩:=h;refine ⟨a,_,i,_,ev,d,yfX w hs,?_,q _ W rfl (.refl w) rfl⟩;unfold atI at c ⊢;rw [length_map];obtain ⟨j,k,n⟩:=Option.bind_eq_some_iff.mp c;rw [k];show (ns.map V.int)[j]?=_;simp_all
   .cases e
  .split at e
   .rename_i xs l;split at e
    .rename_i y c;cases e;obtain ⟨a,ev,o,m,vs,hp,f⟩:=w.loc l h;obtain ⟨g,h1,h2⟩:=f.at c;exact ⟨a,vs,i,g,ev,d,SqL.of hp,h1,q _ W rfl (.refl w) h2⟩
    .cases e
   .cases e
  .cases e
 .cases e
theorem yX:ycw K (yGu K.K) ybF:=by
 intro W x y v u Q z h' w rx ry e q;unfold ybF at e;split at e
 .rename_i xs i;split at e
  .rename_i y hy;cases e;obtain ⟨a,vs,ev,hs,rs⟩:=rx;obtain ⟨v',h1,h2⟩:=rs.at hy;exact ⟨a,vs,i,v',ev,ry,ydF w hs,h1,q _ W rfl (.refl w) h2⟩
  .cases e
 .cases e
theorem yuI:ycw K yGv ytH:=by
 intro W x y v u Q z h' w rx ry e q;unfold ytH at e;split at e
 .rename_i s i;split at e
  .rename_i c hc;split at e
   .rename_i hl;cases e;exact ⟨s,i,c,rx,ry,yyz hl,hc,q _ W rfl (.refl w) rfl⟩
   .cases e
  .cases e
 .cases e
def yqv {Y:Type}(xs:List Y) (lo hi:Option Int):List Y:=(xs.drop (HT.sIx xs.length 0 lo)).take (HT.sIx xs.length xs.length hi-HT.sIx xs.length 0 lo)
noncomputable def listOf (x:PV) (h:AH):Option (List PV):=match x with|.lst xs=>some xs|.scr ns=>some (ns.map .int)|.loc n=>(match h[n]? with|some (.lst xs)=>some xs|_=>none)|_=>none
theorem yfv (w:WOk K W) (e:listOf x W.h=some xs) (r:ycO K W x v):∃ a vs,v=.ref a/\SqL K.K W.H a vs/\ycL K W xs vs:=by
 unfold listOf at e;split at e
 .cases e;obtain ⟨a,vs,ev,hs,rs⟩:=r;exact ⟨a,vs,ev,SqL.of (w.le _ _ hs),rs⟩
 .rename_i ns;cases e;obtain ⟨a,ev,hs⟩:=r;exact ⟨a,_,ev,yfX w hs,RepL.of_ints ns⟩
 .rename_i n;split at e
  .rename_i ys hn;cases e;obtain ⟨a,ev,hm,hf,vs,hp,rs⟩:=w.loc hn r;exact ⟨a,vs,ev,SqL.of hp,rs⟩
  .cases e
 .cases e
noncomputable def ybr (x:PV) (h:AH):Option (List PV):=match x with|.lst xs=>some xs|.loc n=>(match h[n]? with|some (.lst xs)=>some xs|_=>none)|_=>none
theorem ybg (w:WOk K W) (e:ybr x W.h=some xs) (r:ycO K W x v):∃ a vs,v=.ref a/\W.H a=some (.lst vs)/\ycL K W xs vs:=by
 unfold ybr at e;split at e
 .cases e;obtain ⟨a,vs,ev,hs,c⟩:=r;exact ⟨a,vs,ev,w.le _ _ hs,c⟩
 .split at e
  .rename_i ys d;cases e;obtain ⟨a,ev,f,g,vs,hp,c⟩:=w.loc d r;exact ⟨a,vs,ev,hp,c⟩
  .cases e
 .cases e
theorem yAz (w:WOk K W) (hp:W.H p=none) (r:ycL K W xs vs) {Q:VK}(q:ypM K W (.lst xs) W.h Q):Q (.ref p) (upd W.H p (.lst vs)) :=
 q p (yic W p _) rfl (ydE w hp) (w.out hp) hp (fun z=>by cases z) ⟨w.ff hp,vs,yP,r⟩
def ytI:PV->Option Int->Option Int->AH->Option (Nd×AH):=fun x lo hi h=>match listOf x h with|some xs=>some (.lst (yqv xs lo hi),h)|none=>none
theorem yBF:yoE K (yGw K.K) ytI:=by
 intro W x v f i Q d h' w h e q;unfold ytI at e;split at e
 .rename_i xs g;cases e;obtain ⟨a,vs,ev,hs,c⟩:=yfv w g h;refine ⟨a,vs,ev,hs,fun p hp=>yAz w hp ?_ q⟩;have:=(c.drop (HT.sIx xs.length 0 f)).take (HT.sIx xs.length xs.length i-HT.sIx xs.length 0 f);unfold yqv yDP;rw [c.len];exact this
 .cases e
def ymS:P2O:=fun x y h=>match ybr x h,ybr y h with|some xs,some ys=>if xs.length+ys.length<=100000 then some (.lst (xs++ys),h) else none|_,_=>none
theorem yrA:yoC K yGy ymS:=by
 intro W x y v u Q d h' w rx ry e q;unfold ymS at e;split at e
 .rename_i xs ys hx hy;split at e
  .rename_i hl;cases e;obtain ⟨a,vs,ev,hs,rs⟩:=ybg w hx rx;obtain ⟨b,us,eu,ht,ru⟩:=ybg w hy ry;refine ⟨a,b,vs,us,ev,eu,hs,ht,by rw [rs.len,ru.len];exact yyz hl,fun p hp=>yAz w hp (rs.app ru) q⟩
  .cases e
 .cases e
noncomputable def repL {Y:Type}(k:Nat) (xs:List Y):List Y:=(replicate k xs).flatten
theorem RepL.rep (r:RepL K F m xs vs):∀ k,RepL K F m (repL k xs) (repL k vs)
 | 0=>rfl
 | k+1=>by show RepL K F m _ _;exact r.app (RepL.rep r k)
def yBG:P2O:=fun x y h=>match ybr x h,y with|some xs,.int k=>if -1000000<=k/\k<=100000/\xs.length*k.toNat<=100000 then some (.lst (repL k.toNat xs),h) else none|_,_=>none
theorem yBH:yoC K yGz yBG:=by
 intro W x y v u Q d h' w rx ry e q;unfold yBG at e;split at e
 .rename_i xs k hx;split at e
  .rename_i hl;cases e;obtain ⟨a,vs,ev,hs,rs⟩:=ybg w hx rx;refine ⟨a,k,vs,ev,ry,hs,by omega,by omega,by rw [rs.len];exact yyz hl.2.2,fun p hp=>yAz w hp (rs.rep _) q⟩
  .cases e
 .cases e
noncomputable def yrB (x:PV) (h:AH):Option Nat:=match x with|.tup xs=>some xs.length|.lst xs=>some xs.length|.scr ns=>some ns.length|.loc n=>(match h[n]? with|some (.lst xs)=>some xs.length|_=>none)|_=>none
def ydP:List PV->AH->Option (PV×AH):=fun xs h=>match xs with|[x]=>(match yrB x h with|some n=>some (.int n,h)|none=>none)|_=>none
noncomputable def ynB:List PV->AH->Option (PV×AH):=fun xs h=>match xs with|[.str z]=>if z.length<=100000 then some (.int z.length,h) else none|_=>none
theorem ynC (r:ycL K W [x] vs):∃ v,vs=[v]/\ycO K W x v:=by obtain ⟨v,a,e,h,l⟩:=r;exact ⟨v,by rw [e,l],h⟩
theorem yHg (r:ycL K W [x,y] vs):∃ v u,vs=[v,u]/\ycO K W x v/\ycO K W y u:=by obtain ⟨v,b,e,h,l⟩:=r;obtain ⟨u,a,h2⟩:=ynC l;exact ⟨v,u,by rw [e,a],h,h2⟩
theorem yeT:yib K (yBk K.K) ydP:=by
 intro W xs vs Q z h' w r e q;unfold ydP at e;split at e
 .rename_i x;split at e
  .rename_i n hn;cases e;obtain ⟨v,rfl,rx⟩:=ynC r;have fin:∀ (ys:List V),ys.length=n->Q (.int ys.length) W.H:=fun ys hl=>by rw [hl];exact q _ W rfl (.refl w) rfl
   unfold yrB at hn;split at hn
   .cases hn;obtain ⟨a,us,rfl,hs,rs⟩:=rx;exact ⟨a,us,rfl,.inr (ydF w hs),fin _ rs.len⟩
   .rename_i ys;cases hn;obtain ⟨a,us,rfl,hs,rs⟩:=rx;exact ⟨a,us,rfl,.inl (SqL.of (w.le _ _ hs)),fin _ rs.len⟩
   .rename_i ns;cases hn;obtain ⟨a,rfl,hs⟩:=rx;exact ⟨a,_,rfl,.inl (yfX w hs),fin _ (by simp)⟩
   .split at hn
    .rename_i ys hy;cases hn;obtain ⟨a,rfl,hm,hf,us,hp,rs⟩:=w.loc hy rx;exact ⟨a,us,rfl,.inl (SqL.of hp),fin _ rs.len⟩
    .cases hn
   .cases hn
  .cases e
 .cases e
theorem yoH:yib K yEE ynB:=by
 intro W xs vs Q z h' w r e q;unfold ynB at e;split at e
 .rename_i s;split at e
  .rename_i hl;cases e;obtain ⟨v,rfl,b⟩:=ynC r;exact ⟨s,by rw [b],yyz hl,q _ W rfl (.refl w) rfl⟩
  .cases e
 .cases e
noncomputable def yif:List PV->AH->Option (PV×AH):=fun xs h=>match xs with|[.int i]=>if i.natAbs.log2<1920 then some (.str (toString i:String),h) else none|_=>none
theorem yoI:yib K yEF yif:=by
 intro W xs vs Q z h' w r e q;unfold yif at e;split at e
 .rename_i i;split at e
  .rename_i hl;cases e;obtain ⟨v,rfl,rx⟩:=ynC r;exact ⟨i,by rw [show v=_ from rx],hl,q _ W rfl (.refl w) rfl⟩
  .cases e
 .cases e
def yrC:List PV->AH->Option (PV×AH):=fun xs h=>match xs with|[.str z]=>if z.cps.toList≠[]/\(∀ c∈z.cps.toList,48<=c/\c<=57)/\z.length<=640 then some (.int (yya z.cps.toList),h) else none|_=>none
theorem yBI:yib K yBl yrC:=by
 intro W xs vs Q z h' w r e q;unfold yrC at e;split at e
 .rename_i i;split at e
  .rename_i hl;cases e;obtain ⟨v,rfl,b⟩:=ynC r;exact ⟨i,by rw [b],hl.1,hl.2.1,hl.2.2,q _ W rfl (.refl w) rfl⟩
  .cases e
 .cases e
def yI:List PV->AH->Option (Nd×AH):=fun xs h=>match xs with|[.tup ys]=>some (.lst ys,h)|[x]=>(match listOf x h with|some ys=>some (.lst ys,h)|none=>none)|_=>none
theorem yM:yri K (yyb K.K) yI:=by
 intro W xs vs Q d h' w r e q;unfold yI at e;split at e
 .cases e;obtain ⟨v,rfl,a,us,rfl,hs,c⟩:=ynC r;exact ⟨a,us,rfl,.inr (ydF w hs),fun p hp=>yAz w hp c q⟩
 .split at e
  .rename_i ys f;cases e;obtain ⟨v,rfl,g⟩:=ynC r;obtain ⟨a,us,rfl,hs,c⟩:=yfv w f g;exact ⟨a,us,rfl,.inl hs,fun p hp=>yAz w hp c q⟩
  .cases e
 .cases e
noncomputable def strsOf:List PV->Option (List Str)
 | []=>some []
 | .str s::r=>(strsOf r).map (s::·)
 | _=>none
noncomputable def intsOf:List PV->Option (List Int)
 | []=>some []
 | .int s::r=>(intsOf r).map (s::·)
 | _=>none
noncomputable def ykk:List PV->Option (List Bool)
 | []=>some []
 | .bl s::r=>(ykk r).map (s::·)
 | _=>none
theorem yjC:∀ ss,strsOf (ss.map .str)=some ss
 | []=>rfl
 | s::ss=>by show (strsOf _).map _=_;rw [yjC ss];rfl
theorem yjD:∀ ss,intsOf (ss.map .int)=some ss
 | []=>rfl
 | s::ss=>by show (intsOf _).map _=_;rw [yjD ss];rfl
theorem ylU:∀ ss,ykk (ss.map .bl)=some ss
 | []=>rfl
 | s::ss=>by show (ykk _).map _=_;rw [ylU ss];rfl
theorem yjE:∀ {xs:List PV}{ss:List Str}{vs:List V},strsOf xs=some ss->RepL K F m xs vs->vs=ss.map V.str
 | [],_,_,e,r=>by cases e;exact r
 | x::xs,ss,_,e,⟨v,c,ev,h,l⟩=>by
  cases x<;>try cases e
  obtain ⟨ts,b,a⟩:=Option.map_eq_some_iff.mp e;subst a;rw [ev,h,yjE b l];rfl
theorem yjF:∀ {xs:List PV}{ss:List Int}{vs:List V},intsOf xs=some ss->RepL K F m xs vs->vs=ss.map V.int
 | [],_,_,e,r=>by cases e;exact r
 | x::xs,ss,_,e,⟨v,r',ev,h,l⟩=>by
  cases x<;>try cases e
  rename_i s;obtain ⟨ts,e1,e2⟩:=Option.map_eq_some_iff.mp e;subst e2;rw [ev,show v=_ from h,yjF e1 l];rfl
theorem yig:∀ {xs:List PV}{ss:List Bool}{vs:List V},ykk xs=some ss->RepL K F m xs vs->vs=ss.map V.bl
 | [],_,_,e,r=>by cases e;exact r
 | x::xs,ss,_,e,⟨v,c,ev,h,l⟩=>by
  cases x<;>try cases e
  obtain ⟨ts,b,a⟩:=Option.map_eq_some_iff.mp e;subst a;rw [ev,h,yig b l];rfl
def yDT:List PV->AH->Option (PV×AH):=fun xs h=>match xs with|[x]=>(match ybr x h with|some ys=>(match intsOf ys with|some ns=>some (.int ns.sum,h)|none=>none)|none=>none)|_=>none
theorem yEH:yib K yGD yDT:=by
 intro W xs vs Q z h' w r e q;unfold yDT at e;split at e
 .split at e
  .rename_i ys f;split at e
   .rename_i ns d;cases e;obtain ⟨v,rfl,g⟩:=ynC r;obtain ⟨a,us,rfl,hs,c⟩:=ybg w f g;have:=yjF d c;subst this;exact ⟨a,ns,rfl,hs,q _ W rfl (.refl w) rfl⟩
   .cases e
  .cases e
 .cases e
def yyF:List PV->AH->Option (PV×AH):=fun xs h=>match xs with|[x]=>(match ybr x h with|some ys=>(match ykk ys with|some ns=>some (.bl (ns.all id),h)|none=>none)|none=>none)|_=>none
theorem yBJ:yib K yGC yyF:=by
 intro W xs vs Q z h' w r e q;unfold yyF at e;split at e
 .split at e
  .rename_i ys f;split at e
   .rename_i ns d;cases e;obtain ⟨v,rfl,g⟩:=ynC r;obtain ⟨a,us,rfl,hs,c⟩:=ybg w f g;have:=yig d c;subst this;exact ⟨a,ns,rfl,hs,q _ W rfl (.refl w) rfl⟩
   .cases e
  .cases e
 .cases e
noncomputable def isStr:PV->AH->Bool:=fun x _=>match x with|.str _=>true|_=>false
def ynD:PM:=fun x xs h=>match x,xs with|.str sep,[y]=>(match ybr y h with|some ys=>(match strsOf ys with|some ts=>if sep.length<=16/\(ts.map (·.length)).sum+ts.length<=1048576 then some (.str (Str.join sep ts),h) else none|none=>none)|none=>none)|_,_=>none
theorem yBK:yji K "str" isStr rJoin ynD:=by
 refine ⟨fun W x v w r c=>?_,fun W x v xs vs Q z h' w rx r e q=>?_⟩
 .unfold isStr at c;split at c
  .rw [show v=_ from r];rfl
  .cases c
 .unfold ynD at e;split at e
  .rename_i sep y;split at e
   .rename_i ys hy;split at e
    .rename_i ts ht;split at e
     .rename_i c;cases e;obtain ⟨u,rfl,ru⟩:=ynC r;obtain ⟨a,us,rfl,hs,rs⟩:=ybg w hy ru;have:=yjE ht rs;subst this;exact ⟨sep,a,ts,rx,rfl,hs,c.1,c.2,q _ W rfl (.refl w) rfl⟩
     .cases e
    .cases e
   .cases e
  .cases e
noncomputable def ynE:PM:=fun x xs h=>match x,xs with|.str z,[.str s]=>(match s.cps.toList with|[c]=>if z.length<=1000/\c∈z.cps.toList then some (.int (z.cps.toList.idxOf c),h) else none|_=>none)|_,_=>none
theorem yuJ:yji K "str" isStr yre ynE:=by
 refine ⟨fun W x v w r c=>?_,fun W x v xs vs Q z h' w f r e q=>?_⟩
 .unfold isStr at c;split at c
  .rw [r];rfl
  .cases c
 .unfold ynE at e;split at e
  .rename_i z s;split at e
   .rename_i c d;split at e
    .rename_i hl;cases e;obtain ⟨u,rfl,b⟩:=ynC r;exact ⟨z,c,f,by rw [b,one_sign d],hl.1,hl.2,q _ W rfl (.refl w) rfl⟩
    .cases e
   .cases e
  .cases e
end PX
namespace PX
open PySem L2
variable {K:Ck}
noncomputable def putN (f:Str) (x:PV) (ns:List Str) (xs:List PV):List Str×List PV:=if f∈ns then (ns,xs.set (ns.idxOf f) x) else (ns++[f],xs++[x])
theorem yoJ (f:Str) (y:V):∀ (ns:List Str) (vs:List V),vs.length=ns.length->yjX f y (ns.zip vs)=if f∈ns then ns.zip (vs.set (ns.idxOf f) y) else (ns++[f]).zip (vs++[y])
 | [],[],_=>by simp [yjX]
 | n::ns,v::vs,hl=>by
  have ih:=yoJ f y ns vs (by simpa using hl);show (if n=f then (n,y)::ns.zip vs else (n,v)::yjX f y (ns.zip vs))=_
  by_cases h:n=f
  .subst h;simp [List.idxOf_cons_self]
  .have h':¬ f=n:=fun z=>h z.symm
   have hb:(n == f)=false:=by simpa using h
   rw [if_neg h,ih]
   by_cases hm:f∈ns
   .simp [hm,h',List.idxOf_cons,hb]
   .simp [hm,h']
theorem yjG:∀ {ns:List Str}{vs:List V},vs.length=ns.length->f∈ns->(ns.zip vs).lookup f=vs[ns.idxOf f]?
 | [],_,_,h=>by simp at h
 | n::ns,v::vs,hl,h=>by
  show List.lookup f ((n,v)::ns.zip vs)=_
  by_cases b:f=n
  .simp_all
  .rw [yBn b,yjG (by simpa using hl) (by simpa [b] using h)];have c:(n == f)=false:=by simpa using fun z=>b z.symm
   simp [List.idxOf_cons,c]
theorem ydQ:∀ {ns:List Str}{vs:List V},f∉ns->(ns.zip vs).lookup f=none
 | [],_,_=>by simp
 | n::ns,[],_=>by simp
 | n::ns,v::vs,h=>by show List.lookup f ((n,v)::ns.zip vs)=_;rw [yBn (fun z:f=n=>h (by rw [z];exact mem_cons_self)),ydQ fun z=>h (mem_cons_of_mem _ z)]
noncomputable def ygT (x:PV) (h:AH):Option (Nat×List Str×List PV):=match x with|.ins k ns xs=>some (k,ns,xs)|.loc n=>(match h[n]? with|some (.ins k ns xs)=>some (k,ns,xs)|_=>none)|_=>none
theorem ygs (w:WOk K W) (e:ygT x W.h=some (k,ns,xs)) (r:ycO K W x v):∃ a c vs,v=.ref a/\W.H a=some (.ins (K.A k) c (ns.zip vs))/\vs.length=ns.length/\ycL K W xs vs:=by
 unfold ygT at e;split at e
 .cases e;obtain ⟨a,c,vs,ev,hs,hl,d⟩:=r;exact ⟨a,c,vs,ev,w.le _ _ hs,hl,d⟩
 .split at e
  .rename_i f;cases e;obtain ⟨a,ev,g,h,c,vs,hp,hl,d⟩:=w.loc f r;exact ⟨a,c,vs,ev,hp,hl,d⟩
  .cases e
 .cases e
def ybc (cs:List Nat) (f:Str) (e:XE):XE:=fun ρ h=>ob (e ρ h) fun x h1=>match ygT x h1 with|some (k,ns,xs)=>if k∈cs/\f∈ns then (match xs[ns.idxOf f]? with|some y=>some (y,h1)|none=>none) else none|none=>none
theorem yyG (l:∀ k∈cs,Cls K.K (K.A k)/\NoAttr K.K (K.A k) f) (a:ycb K j i):ycb K (yGq K.K j f) (ybc cs f i):=by
 intro A W ρ Z Q z h' g e q;obtain ⟨x,h1,t,d⟩:=yk e;refine a A W ρ Z _ x h1 g t fun v B w h p=>?_
 subst w;split at d
 .rename_i k ns xs n;split at d
  .rename_i c;split at d
   .rename_i y o;cases d;obtain ⟨a,m,vs,ev,hp,hl,r⟩:=ygs h.ok n p;obtain ⟨u,h2,s⟩:=r.get o;exact ⟨a,_,m,_,u,ev,hp,(l k c.1).1,(l k c.1).2,by rw [yjG hl c.2];exact h2,q _ B rfl h s⟩
   .cases d
  .cases d
 .cases d
def ycK (cs:List Nat) (i:Nat) (f:Str) (e:XE):XS:=fun ρ h=>ob (e ρ h) fun x h1=>match ρ[i]? with
 | some (.own (.ins k ns xs))=>if k∈cs/\ns.length<1000 then some (.nx (ρ.set i (.own (.ins k (putN f x ns xs).1 (putN f x ns xs).2))),h1) else none
 | _=>none
theorem RepL.putN {ns:List Str}(r:RepL K F m xs vs) (hl:vs.length=ns.length) (b:Rep K F m x v) :
  ∃ us,yjX f v (ns.zip vs)=(PX.putN f x ns xs).1.zip us/\us.length=(PX.putN f x ns xs).1.length/\RepL K F m (PX.putN f x ns xs).2 us:=by
 rw [yoJ f v ns vs hl];unfold PX.putN
 by_cases h:f∈ns
 .rw [if_pos h,if_pos h];exact ⟨_,rfl,by simp_all,r.set _ b⟩
 .rw [if_neg h,if_neg h];exact ⟨_,rfl,by simp_all,r.snoc b⟩
def ytJ (K:Ck) (t:TS) (s:XS):Prop:=∀ (W0 W:Wd) (ρ ρ':PSt) (Z:St) (D:Ends) (h':AH),Good K W0 W ρ Z->s ρ W.h=some (.nx ρ',h')->(∀ W',W'.h=h'->Lf K W W'->Good K W0 W' ρ' Z->D.nx Z W'.H)->t D Z W.H
theorem yuK (t:∀ k∈cs,Cls K.K (K.A k)/\NoAttr K.K (K.A k) f) (a:ycb K l r):ytJ K (yEq K.K (yqs i) l f) (ycK cs i f r):=by
 intro H W ρ ρ' Z D h' g e q;obtain ⟨x,h1,F,d⟩:=yk e;split at d
 .rename_i k ns xs s;split at d
  .rename_i c;cases d;refine a H W ρ Z _ x _ g F fun v I G u A=>?_
   have m:=g.step u;obtain ⟨p,j,o,L,M,h,n,vs,B,E,w⟩:=m.own i _ s;obtain ⟨us,J,C,y⟩:=w.putN E A;refine ⟨_,j,p,_,n,_,rfl,B,(t k c.1).1,(t k c.1).2,by simp_all,?_⟩;rw [J];exact q (ywN I p _) G (yrr u o) (m.mut s j o L h (fun z=>by cases z) ⟨h,n,us,yP,C,y⟩)
  .cases d
 .cases d
theorem yuL (a:ytJ K t s) (b:ytJ K u s'):ytJ K (yEj t u) (yl s s'):=by
 intro f W ρ ρ' Z D h' g e q;obtain ⟨o1,h1,p,d⟩:=yk e;cases o1 with
 | nx ρ1=>exact a f W ρ ρ1 Z _ h1 g p fun j n l h=>b f j ρ1 ρ' Z D h' h (by rw [n];exact d) fun m o i k=>q m o (l.trans i) k
 | rt y=>cases d
 | bk y=>cases d
 | ct y=>cases d
def ymT (N:Nat) (k:Nat) (s:XS):List PV->AH->Option (Nd×AH):=fun xs h=>ob (s (.own (.ins k [] [])::(xs.map .val++replicate (N-(xs.length+1)) .no)) h) fun o h1=>match o with|.nx ρ=>(match ρ[0]? with|some (PVar.own d)=>some (d,h1)|_=>none)|_=>none
def spI (K:Ck) (n k:Nat) (f:List PV->AH->Option (Nd×AH)):Sp:=fun vs H Q _=>∃ (W:Wd) (x dx:Addr) (args:List V) (xs:List PV) (d:Nd) (h':AH),vs=.ref x::args/\W.H x=none/\W.H dx=none/\dx≠x/\H=upd (upd W.H dx (.own x)) x (.ins (K.A k) dx []) /\
 WOk K W/\ycL K W xs args/\xs.length=n/\f xs W.h=some (d,h')/\∀ W',W'.h=h'->Le K W W'->x∉W'.m->d≠.dead->NdAt K W'.F W'.H W'.m d x->Q .non W'.H
theorem yyH {f} {Q:VK}(h:spI K n k f vs H Q E):vs.length=n+1:=by obtain ⟨W,x,b,args,xs,d,h',rfl,_,_,_,_,w,r,a,_⟩:=h;rw [length_cons,r.len,a]
theorem yuM {N:List Str}{Q:VK}(hN:n+1<=N.length) (a:ytJ K t s) (h:spI K n k (ymT N.length k s) vs H Q E):t ⟨fun _ H'=>Q .non H',Q,bk,ct⟩ (L2.start N vs) H:=by
 obtain ⟨W,x,dx,args,xs,d,h',rfl,hx,hd,hne,rfl,w,r,hn,e,q⟩:=h;obtain ⟨o,h1,e1,f1⟩:=yk e;have l1:Le K W (yic W dx (.own x)):=ydE w hd;have hx1:(yic W dx (.own x)).H x=none:=(yR hne.symm).trans hx;have l2:Le K (yic W dx (.own x)) (yic (yic W dx (.own x)) x (.ins (K.A k) dx [])):=ydE l1.ok hx1;have l:=l1.trans l2;have gs:=ygS (K:=K) (N:=N.drop 1) w r;have g:Good K W (yic (yic W dx (.own x)) x (.ins (K.A k) dx [])) (.own (.ins k [] [])::(xs.map .val++replicate (N.length-(xs.length+1)) .no)) (L2.start N (.ref x::args)):=by
  have es:L2.start N (.ref x::args)=some (.ref x)::L2.start (N.drop 1) args:=by
   have e3:N.length-(args.length+1)=(N.drop 1).length-args.length:=by rw [length_drop];omega
   unfold L2.start;rw [map_cons,List.cons_append,length_cons,e3]
  have eN:N.length-(xs.length+1)=(N.drop 1).length-xs.length:=by rw [length_drop];omega
  rw [es,eN];have gs':=gs.step l;have noown:∀ (j:Nat) (d:Nd),(xs.map PVar.val++replicate ((N.drop 1).length-xs.length) .no)[j]?≠some (.own d):=fun j d z=>by
   by_cases hj:j<xs.length
   .rw [getElem?_append_left (by simpa using hj),getElem?_map,List.getElem?_eq_getElem hj] at z;cases z
   .rw [getElem?_append_right (by simp;omega),getElem?_replicate] at z;split at z<;>cases z
  refine ⟨l,by rw [length_cons,length_cons,gs.len],fun j y z=>?_,fun j d z=>?_,fun i j d d' hij z z'=>?_⟩
  .cases j with
   | zero=>cases z
   | succ j=>exact gs'.val j y z
  .cases j with
   | zero=>cases z;exact ⟨x,rfl,w.out hx,hx,(fun z=>by cases z),w.ff hx,dx,[],yP,rfl,rfl⟩
   | succ j=>exact absurd z (noown j d)
  .cases i with
   | zero =>
    cases j with
    | zero=>exact absurd rfl hij
    | succ j=>exact absurd z' (noown j d')
   | succ i=>exact absurd z (noown i d)
 cases o with
 | rt y=>cases f1
 | bk ρ=>cases f1
 | ct ρ=>cases f1
 | nx ρ =>
  refine a W _ _ ρ _ _ h1 g e1 fun W' ew lf g'=>?_
  dsimp only at f1;split at f1
  .rename_i d' hd';cases f1;obtain ⟨p,b1,b2,b3,b4,b5⟩:=g'.own 0 _ hd';have b1:some (some (V.ref x))=some (some (V.ref p)):=b1;cases b1;exact q W' ew g'.le b2 b4 b5
  .cases f1
def yfY (f:List PV->AH->Option (Nd×AH)) (a:XA):XO:=fun ρ h=>ob (a ρ h) f
theorem yoK {f} (a:ymQ K t e) (B:∀ ρ h xs h',e ρ h=some (xs,h')->xs.length=n):ylR K (yuc (K.A k) (spI K n k f) [] y t) (yfY f e):=by
 intro D W ρ Z Q d h' g C q;obtain ⟨xs,h1,o,r⟩:=yk C;refine a D W ρ Z _ xs h1 g o fun vs E s l w=>?_
 subst s;intro x F m p i;rw [append_nil];exact ⟨E,x,F,vs,xs,d,h',rfl,m,p,i,rfl,l.ok,w,B _ _ _ _ o,r,fun z u v A j c=>⟨rfl,q x z u (l.trans v) A (l.fresh m) j c⟩⟩
def yrD (k:Nat):XO:=fun _ h=>some (.ins k [] [],h)
theorem yrE:ylR K (ywH (K.A k)) (yrD k):=by intro m W ρ Z Q d h' g e q;cases e;intro x b c l f;have w:=g.ok;have i:Le K W (yic W b (.own x)):=ydE w l;have h:(yic W b (.own x)).H x=none:=(yR f.symm).trans c;have j:Le K _ (yic _ x (.ins (K.A k) b [])):=ydE i.ok h;exact q x (yic (yic W b _) x _) rfl (i.trans j) (w.out c) c (fun z=>by cases z) ⟨w.ff c,b,[],yP,rfl,rfl⟩
def ynF (m:Str) (f:Nat->Fn) (e:XE):XE:=fun ρ h=>ob (e ρ h) fun x h1=>match ygT x h1 with|some (k,ns,_)=>if m∈ns then none else f k [x] h1|none=>none
theorem yuN (a:ycb K i j):ycb K (ywI K.A m (fun k=>spE K 1 (f k)) i) (ynF m f j):=by
 intro y W ρ Z Q z h' g e q;obtain ⟨x,h1,A,d⟩:=yk e;refine a y W ρ Z _ x h1 g A fun v B o h l=>?_
 subst o;split at d
 .rename_i k ns xs p;split at d
  .cases d
  .rename_i t;obtain ⟨b,s,vs,ev,hp,hl,C⟩:=ygs h.ok p l;exact ⟨b,k,s,_,ev,hp,ydQ t,B,[x],z,h',rfl,h.ok,⟨v,[],rfl,l,rfl⟩,rfl,d,fun u w r n r2=>q u w r (h.trans n) r2⟩
 .cases d
def yBL (tb:List (Nat×Nat×Bool)) (x c:PV) (h:AH):Option Bool:=match c with
 | .ty n=>(match x with
  | .int _=>if n = "int" then some true else if n = "bool"\/n = "str"\/n = "list"\/n = "tuple"\/n = "dict" then some false else none
  | .bl _=>if n = "int"\/n = "bool" then some true else if n = "str"\/n = "list"\/n = "tuple"\/n = "dict" then some false else none
  | .str _=>if n = "str" then some true else if n = "int"\/n = "bool"\/n = "list"\/n = "tuple"\/n = "dict" then some false else none
  | .non=>if n = "int"\/n = "bool"\/n = "str"\/n = "list"\/n = "tuple"\/n = "dict" then some false else none
  | .tup _=>if n = "tuple" then some true else if n = "int"\/n = "bool"\/n = "str"\/n = "list"\/n = "dict" then some false else none
  | _=>(match ybr x h with|some _=>if n = "list" then some true else if n = "int"\/n = "bool"\/n = "str"\/n = "tuple"\/n = "dict" then some false else none|none=>none))
 | .cls c'=>(match ygT x h with|some (k,_)=>(tb.find? fun r=>r.1 == k && r.2.1 == c').map (·.2.2)|none=>none)
 | _=>none
def ymU (tb:List (Nat×Nat×Bool)):List PV->AH->Option (PV×AH):=fun xs h=>match xs with|[x,c]=>(match yBL tb x c h with|some b=>some (.bl b,h)|none=>none)|_=>none
theorem ygt (ht:∀ r∈tb,∀ (H:Hp) (a dx:Addr) (fs:List (Str×V)),H a=some (.ins (K.A r.1) dx fs)->IsI K.K H (.ref a) (.ref (K.A r.2.1)) r.2.2):yib K (yGA K.K) (ymU tb):=by
 intro W xs vs Q z h' w r e q;unfold ymU at e;split at e
 .rename_i x c;split at e
  .rename_i b hb;cases e;obtain ⟨v,u,rfl,rx,ru⟩:=yHg r;refine ⟨v,u,b,rfl,?_,q _ W rfl (.refl w) rfl⟩;unfold yBL at hb;split at hb
   .rename_i n;obtain rfl:u=.ty n:=ru;split at hb
    .rw [show v=_ from rx]
     repeat' split at hb
     all_goals cases hb
     .rename_i hn;subst hn;exact yng
     .rename_i hn;rcases hn with rfl|rfl|rfl|rfl|rfl
      .exact yly
      .exact ynm
      .exact ylC
      .exact ykd
      .exact ylD
    .rw [show v=_ from rx]
     repeat' split at hb
     all_goals cases hb
     .rename_i hn;rcases hn with rfl|rfl
      .exact ypJ
      .exact yni
     .rename_i hn;rcases hn with rfl|rfl|rfl|rfl
      .exact ypK
      .exact ynn
      .exact ylE
      .exact yno
    .rw [show v=_ from rx]
     repeat' split at hb
     all_goals cases hb
     .rename_i hn;subst hn;exact ynj
     .rename_i hn;rcases hn with rfl|rfl|rfl|rfl|rfl
      .exact ynp
      .exact ylF
      .exact ylG
      .exact yke
      .exact ylH
    .rw [show v=_ from rx]
     repeat' split at hb
     all_goals cases hb
     .rename_i hn;rcases hn with rfl|rfl|rfl|rfl|rfl|rfl
      .exact ynh
      .exact ylI
      .exact ynq
      .exact ylJ
      .exact ykf
      .exact ylK
    .obtain ⟨a,us,rfl,hs,_⟩:=rx;have hp:(∃ xs,W.H a=some (.tup xs))\/∃ o,K.K.lookup a=some o/\o.cls=.type "tuple":=hs.elim (fun h=>.inl ⟨_,w.le _ _ h⟩) fun ⟨o,its,n,e1,e2,_⟩=>.inr ⟨o,e1,e2⟩
     repeat' split at hb
     all_goals cases hb
     .rename_i hn;subst hn;exact ykh hp
     .rename_i hn;rcases hn with rfl|rfl|rfl|rfl|rfl
      .exact ynt hp
      .exact ylN hp
      .exact ynu hp
      .exact ylO hp
      .exact ylP hp
    .split at hb
     .rename_i ys hy;obtain ⟨a,us,rfl,hp,_⟩:=ybg w hy rx
      repeat' split at hb
      all_goals cases hb
      .rename_i hn;subst hn;exact ylz hp
      .rename_i hn;rcases hn with rfl|rfl|rfl|rfl|rfl
       .exact ynr hp
       .exact ylL hp
       .exact yns hp
       .exact ykg hp
       .exact ylM hp
     .cases hb
   .rename_i c';obtain rfl:u=.ref (K.A c'):=ru;split at hb
    .rename_i k p hi;obtain ⟨r',h1,h2⟩:=Option.map_eq_some_iff.mp hb;have hm:=List.mem_of_find?_eq_some h1;have hp:=List.find?_some h1;simp only [and_eq_true,beq_iff_eq] at hp;obtain ⟨a,dx,us,rfl,hs,_⟩:=ygs w hi rx;obtain ⟨p1,p2⟩:=hp;have:=ht r' hm W.H a dx (p.1.zip us) (by rw [p1];exact hs);rw [p2,h2] at this;exact this
    .cases hb
   .cases hb
  .cases e
 .cases e
end PX
namespace PX
open PySem L2
section
variable {ρ:PSt}{h h1:AH}{x y z:PV}{a b c:XE}{ca cb:XT}{aa:XA}{eo:XO}{s u:XS}{i:Nat}{p:P2}
theorem ybE {Y e:Type}{x:Y}{h:AH}{f:Y->AH->Option e}:ob (some (x,h)) f=f x h:=id rfl
theorem yEI {Y d:Type}{f:Y->AH->Option d}:ob none f=none:=id rfl
theorem yBM {Y e j:Type}{o:Option _}{f:Y->AH->Option _}{g:e->AH->Option j}:ob (ob o f) g=ob o fun x h=>ob (f x h) g:=by cases o<;>rfl
theorem yEJ {Y g:Type}{q:Prop} [Decidable q] {o e:Option _}{f:Y->AH->Option g}:ob (if q then o else e) f=if q then ob o f else ob e f:=by split<;>rfl
theorem yBN:ye 0 (.val x::ρ) h=some (x,h):=id rfl
theorem yBO:ye (n+1) (v::ρ) h=ye n ρ h:=by simp [ye]
theorem x_c:xC x ρ h=some (x,h):=id rfl
theorem yDU:xOp p a b ρ h=ob (a ρ h) fun x h1=>ob (b ρ h1) fun y h2=>p x y h2:=id rfl
theorem yEK {p:P2O}:ypL p a b ρ h=ob (a ρ h) fun x h1=>ob (b ρ h1) fun y h2=>p x y h2:=id rfl
theorem yHh {p}:xUn p a ρ h=ob (a ρ h) fun x h1=>p x h1:=id rfl
theorem yGF:oB (.bl k) h=some (k,h):=id rfl
theorem yyI {p f:P2}:yfH p f a b c ρ h=ob (a ρ h) fun x h1=>ob (b ρ h1) fun y h2=>ob (p x y h2) fun z e=>ob (oB z e) fun k e=>if k=true then ob (c ρ e) fun w g=>f y w g else some (.bl false,e):=id rfl
theorem ywR:yv a ρ h=ob (a ρ h) oB:=id rfl
theorem yBP:yjh a b ρ h=ob (a ρ h) fun x h1=>ob (oB x h1) fun k h1=>if k=true then b ρ h1 else some (.bl false,h1):=id rfl
theorem yEL:ywJ ca cb ρ h=ob (ca ρ h) fun k h1=>if k=true then cb ρ h1 else some (false,h1):=id rfl
theorem yHi:xOr ca cb ρ h=ob (ca ρ h) fun k h1=>if k=true then some (true,h1) else cb ρ h1:=id rfl
theorem yEM:ynv ca ρ h=ob (ca ρ h) fun k h1=>some (!k,h1):=id rfl
theorem yHj:xIf ca a b ρ h=ob (ca ρ h) fun k h1=>if k=true then a ρ h1 else b ρ h1:=id rfl
theorem yuO:yh ρ h=some ([],h):=id rfl
theorem yBQ:yb a aa ρ h=ob (a ρ h) fun x h1=>ob (aa ρ h1) fun xs h2=>some (x::xs,h2):=id rfl
theorem yEN:yfa aa ρ h=ob (aa ρ h) fun xs h1=>if xs.length<=1000 then some (.tup xs,h1) else none:=id rfl
theorem yEO:ycl aa ρ h=ob (aa ρ h) fun xs h1=>if xs.length<=1000 then some (.lst xs,h1) else none:=id rfl
noncomputable def fzN:Nd->AH->Option (PV×AH)
 | .lst xs,h=>some (.lst xs,h)
 | .ins k ns xs,h=>some (.ins k ns xs,h)
 | _,_=>none
theorem yAA:xFz eo ρ h=ob (eo ρ h) fzN:=by unfold xFz;congr;funext d h1;cases d<;>rfl
theorem yEP:fzN (.lst xs) h=some (.lst xs,h):=id rfl
theorem yyJ:ydl eo ρ h=ob (eo ρ h) fun d h1=>some (.loc h1.length,h1++[d]):=id rfl
theorem x_call:yT f aa ρ h=ob (aa ρ h) f:=id rfl
theorem yHk {f}:xCB f aa ρ h=ob (aa ρ h) f:=id rfl
theorem yEQ {f}:yea f aa ρ h=ob (aa ρ h) f:=id rfl
theorem yDV {q} {p:PM}:xBM q p a aa ρ h=ob (a ρ h) fun x h1=>if q x h1=true then ob (aa ρ h1) fun xs h2=>p x xs h2 else none:=id rfl
theorem yyK {s:Str}:isStr (.str s) h=true:=id rfl
theorem yBR {f}:yfY f aa ρ h=ob (aa ρ h) f:=id rfl
theorem yBS:yN ρ h=some (.nx ρ,h):=id rfl
def sqK (u:XS):Out->AH->Option (Out×AH)
 | .nx ρ,h=>u ρ h
 | .rt x,h=>some (.rt x,h)
 | .bk ρ,h=>some (.bk ρ,h)
 | .ct ρ,h=>some (.ct ρ,h)
theorem yeb:yl s u ρ h=ob (s ρ h) (sqK u):=by unfold yl;congr;funext o h1;cases o<;>rfl
theorem yfD:sqK u (.nx ρ) h=u ρ h:=id rfl
theorem yER:sqK u (.rt x) h=some (.rt x,h):=id rfl
theorem yrF:yW a ρ h=ob (a ρ h) fun _ h1=>some (.nx ρ,h1):=id rfl
theorem ykl:yQ a ρ h=ob (a ρ h) fun x h1=>some (.rt x,h1):=id rfl
theorem yyL:yby ca s u ρ h=ob (ca ρ h) fun k h1=>if k=true then s ρ h1 else u ρ h1:=id rfl
theorem ypS:ybu a g ρ h=ob (a ρ h) fun x h1=>(g x ρ).bind fun ρ'=>some (.nx ρ',h1):=id rfl
theorem yBT:yid eo i ρ h=ob (eo ρ h) fun d h1=>some (.nx (ρ.set i (.own d)),h1):=id rfl
theorem yBU:yq i x ρ=some (ρ.set i (.val x)):=id rfl
theorem yES:ytF i s ρ h=s (yny i ρ) h:=id rfl
theorem yET:yny 0 (v::ρ)=yuv v::ρ:=id rfl
theorem yEU:yny (n+1) (v::ρ)=v::yny n ρ:=id rfl
theorem yEV:yuv (.own (.lst xs))=.val (.lst xs):=id rfl
theorem ypT:yjd e g s ρ h=ob (e ρ h) fun xs h1=>yhN g s xs ρ h1:=id rfl
noncomputable def fnK:Out->AH->Option (PV×AH)
 | .rt x,h=>some (x,h)
 | .nx _,h=>some (.non,h)
 | _,_=>none
theorem yo:ybp N s xs h=ob (s (xs.map .val++replicate (N-xs.length) .no) h) fnK:=by unfold ybp;congr;funext o h1;cases o<;>rfl
theorem yEW:fnK (.rt x) h=some (x,h):=id rfl
theorem yEX:fnK (.nx ρ) h=some (.non,h):=id rfl
def yfb (cs:List Nat) (f:Str) (x:PV) (h:AH):Option (PV×AH):=match ygT x h with|some (k,ns,xs)=>if k∈cs/\f∈ns then (match xs[ns.idxOf f]? with|some y=>some (y,h)|none=>none) else none|none=>none
theorem ykm:ybc cs f a ρ h=ob (a ρ h) (yfb cs f):=id rfl
def yuP (m:Str) (f:Nat->Fn) (x:PV) (h:AH):Option (PV×AH):=match ygT x h with|some (k,ns,_)=>if m∈ns then none else f k [x] h|none=>none
theorem yBV:ynF m f a ρ h=ob (a ρ h) (yuP m f):=id rfl
theorem x_i {i j:Int}:oI g (.int i) (.int j) h=some (g i j,h):=id rfl
theorem yHl {C:Int->Int->Prop} [∀ i j,Decidable (C i j)] {g:Int->Int->PV}{i j:Int}:oIc C g (.int i) (.int j) h=if C i j then some (g i j,h) else none:=id rfl
theorem yrG {i j:Int}(h1:-18446744073709551616<j) (h2:j<18446744073709551616):MulOk i j=True:=eq_true (.inr ⟨h1,h2⟩)
theorem yBW {i j:Int}(h1:-18446744073709551616<i) (h2:i<18446744073709551616):MulOk i j=True:=eq_true (.inl ⟨h1,h2⟩)
theorem yEY {i j:Int}(h1:0<=i) (h2:i<18446744073709551616) (e:0<=j) (d:j<=1000000):yry i j=True:=eq_true ⟨⟨h1,h2⟩,e,d⟩
theorem yEZ {i j:Int}:oEq (.int i) (.int j) h=some (.bl (decide (i=j)),h):=by show ite (true=true) (some (PV.bl (decide (V.int i=V.int j)),h)) none=_;simp
theorem yFa {i j:Str}:oEq (.str i) (.str j) h=some (.bl (decide (i=j)),h):=by show ite (true=true) (some (PV.bl (decide (V.str i=V.str j)),h)) none=_;simp
theorem yFb {i j:Int}:oNe (.int i) (.int j) h=some (.bl (!decide (i=j)),h):=by show ite (true=true) (some (PV.bl (!decide (V.int i=V.int j)),h)) none=_;simp
theorem yFc {i j:Str}:oNe (.str i) (.str j) h=some (.bl (!decide (i=j)),h):=by show ite (true=true) (some (PV.bl (!decide (V.str i=V.str j)),h)) none=_;simp
theorem yFd:yyE x .non h=some (.bl (isN x),h):=id rfl
theorem yBX:yuG x .non h=some (.bl !isN x,h):=id rfl
theorem ywS {i j:Str}:ybn (.str i) (.str j) h=if i.length+j.length<=100000 then some (.str (i++j),h) else none:=id rfl
theorem ygu {i:Int}:ybd (.lst xs) (.int i) h=(atI xs i).bind fun v=>some (v,h):=by simp only [ybd];cases atI xs i<;>rfl
theorem yFe {i:Int}:ybd (.scr xs) (.int i) h=(atI xs i).bind fun v=>some (.int v,h):=by simp only [ybd];cases atI xs i<;>rfl
theorem yyM {i:Int}:ybF (.tup xs) (.int i) h=(atI xs i).bind fun v=>some (v,h):=by simp only [ybF];cases atI xs i<;>rfl
theorem yBY {s:Str}{i:Int}:ytH (.str s) (.int i) h=(atI s.cps.toList i).bind fun c=>if s.length<=100000 then some (sgn c,h) else none:=by simp only [ytH];cases atI s.cps.toList i<;>rfl
theorem yBZ:ytI (.scr xs) f e h=some (.lst (yqv (xs.map .int) f e),h):=id rfl
theorem yrH:ymS (.lst xs) (.lst ys) h=if xs.length+ys.length<=100000 then some (.lst (xs++ys),h) else none:=id rfl
theorem yFf:yBG (.lst xs) (.int k) h=if -1000000<=k/\k<=100000/\xs.length*k.toNat<=100000 then some (.lst (repL k.toNat xs),h) else none:=id rfl
theorem yFg {p} {lo hi}:yqt p a lo hi ρ h=ob (a ρ h) fun x h1=>ob (lo ρ h1) fun l h2=>ob (hi ρ h2) fun u h3=>p x l u h3:=id rfl
theorem yCa:yfU a ρ h=ob (a ρ h) fun x h1=>match x with|.int i=>some (some i,h1)|_=>none:=id rfl
theorem yuQ:yfV ρ h=some (none,h):=id rfl
theorem yCb:ydP [.lst xs] h=some (.int xs.length,h):=id rfl
theorem yCc:ydP [.scr xs] h=some (.int xs.length,h):=id rfl
theorem yCd {z:Str}:ynB [.str z] h=if z.length<=100000 then some (.int z.length,h) else none:=id rfl
theorem ywT:yif [.int k] h=if k.natAbs.log2<1920 then some (.str (toString k),h) else none:=id rfl
theorem yyN:yI [.lst xs] h=some (.lst xs,h):=id rfl
theorem yCe (e:a ρ h=some (.lst xs,h1)):xIL a ρ h=some (xs,h1):=by unfold xIL;rw [e];rfl
theorem ywU:yet e ix a ρ h=ob (e ρ h) fun xs h1=>if xs.length<=100000 then ob (yll a (yfC ix ρ) xs h1) fun ys h2=>some (.lst ys,h2) else none:=id rfl
end
end PX
namespace L2
open PySem PySem.Spec PyProof.Rows
section
variable {O:Type} [DecidableEq O]
noncomputable def ylV (kvs:List (O×V)) (k:O):Option V:=(kvs.find? fun kv=>decide (kv.1=k)).map (·.2)
noncomputable def putK (kvs:List (O×V)) (k:O) (v:V):List (O×V) :=
 if (kvs.any fun kv=>decide (kv.1=k))=true then kvs.map (fun kv=>if kv.1=k then (kv.1,v) else kv) else kvs++[(k,v)]
theorem ykn {p:O×V}{r:List _}{k:O}(e:p.1=k):ylV (p::r) k=some p.2:=by simp [ylV,find?_cons,e]
theorem yko {p:O×V}{r:List _}{k:O}(e:¬ p.1=k):ylV (p::r) k=ylV r k:=by simp [ylV,find?_cons,e]
theorem yoL (k:O):∀ kvs,(kvs.any fun b=>decide (b.1=k))=(ylV kvs k).isSome
 | []=>rfl
 | p::r=>by
  rw [any_cons]
  by_cases e:p.1=k
  .simp only [ykn e,decide_eq_true e,Bool.true_or,Option.isSome_some]
  .rw [yko e,decide_eq_false e];exact yoL k r
theorem yfZ (kvs:List (O×V)) (k:O) (v:V):(putK kvs k v).length<=kvs.length+1:=by
 unfold putK;split
 .rw [length_map];omega
 .rw [length_append,length_cons,List.length_nil];omega
theorem RelO.isSome_eq (r:RelO o u):o.isSome=u.isSome:=by
 cases o with
 | none=>cases u with
  | none=>rfl
  | some _=>exact (r).elim
 | some _=>cases u with
  | none=>exact (r).elim
  | some _=>rfl
theorem KV.val (r:KV kvs vs) (k:O):RelO (ylV kvs k) (valueAt vs k):=by
 induction r with
 | nil=>exact True.intro
 | @cons p q ps qs h t ih =>
  obtain ⟨h1,h2⟩:=h
  by_cases e:p.1=k
  .have c:=h1.symm.trans e;have b:valueAt (q::qs) k=some q.2:=by simp [valueAt,find?_cons,c]
   rw [ykn e,b];exact h2
  .have c:¬ q.1=k:=fun z=>e (h1.trans z)
   have b:valueAt (q::qs) k=valueAt qs k:=by simp [valueAt,find?_cons,c]
   rw [yko e,b];exact ih
theorem KV.any (r:KV kvs vs) (k:O):(kvs.any fun kv=>decide (kv.1=k))=vs.any fun kv=>decide (kv.1=k):=by
 unfold KV at r
 induction r with
 | nil=>rfl
 | cons h t ih=>rw [any_cons,any_cons,ih,h.1]
theorem KV.repl {kvs:List (O×V)}{vs:List (O×Value)}(r:KV kvs vs) (k:O) {y:V}{u:Value}(ry:RelV y u) :
  KV (kvs.map fun kv=>if kv.1=k then (kv.1,y) else kv) (vs.map fun kv=>if kv.1=k then (kv.1,u) else kv):=by
 unfold KV at r ⊢
 induction r with
 | nil=>exact .nil
 | @cons p q ps qs h t ih =>
  rw [map_cons,map_cons];refine .cons ?_ ih;obtain ⟨h1,h2⟩:=h
  by_cases e:p.1=k
  .rw [if_pos e,if_pos (h1.symm.trans e)];exact ⟨h1,ry⟩
  .rw [if_neg e,if_neg (fun z=>e (h1.trans z))];exact ⟨h1,h2⟩
theorem KV.put {kvs:List (O×V)}{vs:List (O×Value)}(r:KV kvs vs) (k:O) {y:V}{u:Value}(ry:RelV y u):KV (putK kvs k y) (stored vs k u):=by
 unfold putK stored;rw [r.any k]
 by_cases e:(vs.any fun kv=>decide (kv.1=k))=true
 .rw [if_pos e,if_pos e];exact r.repl k ry
 .rw [if_neg e,if_neg e];exact Paired.snoc r ⟨rfl,ry⟩
theorem KV.length {kvs:List (O×V)}{vs:List _}(r:KV kvs vs):kvs.length=vs.length:=Paired.length r
end
theorem yuR (r:RelV (kV k) u):(ydc P w).is k u=true:=by
 cases k with
 | inl i=>obtain ⟨t,e⟩:=(r);subst e;exact ymW P w i t
 | inr x=>obtain ⟨t,e⟩:=(r);subst e;exact ymX P w x t
theorem ylW:∀ {ks:List Key}{us:List Value},Vals (ks.map kV) us->ItemsAre (ydc P w) ks us
 | [],_,r=>by cases r;exact .nil
 | k::ks,_,r=>by
  cases r with
  | cons h t=>exact .cons (yuR h) (ylW t)
abbrev KT (H:Hp):List (List Key×V)->List (List Key×Addr×Value)->Prop:=Paired fun p q=>p.1=q.1/\H q.2.1=some (.tup (p.1.map kV))/\RelV p.2 q.2.2
theorem KT.val (r:KT H kvs xs) k:RelO (ylV kvs k) ((atKey xs k).map (·.2)):=by
 induction r with
 | nil=>exact True.intro
 | @cons p q ps qs h t ih =>
  obtain ⟨h1,_,h2⟩:=h
  by_cases e:p.1=k
  .have c:=h1.symm.trans e;have b:atKey (q::qs) k=some q.2:=by simp [atKey,find?_cons,c]
   rw [ykn e,b];exact h2
  .have c:¬ q.1=k:=fun z=>e (h1.trans z)
   have b:atKey (q::qs) k=atKey qs k:=by simp [atKey,find?_cons,c]
   rw [yko e,b];exact ih
theorem KT.repl (r:KT H kvs xs) (k:List Key) (ry:RelV y u) :
  KT H (kvs.map fun kv=>if kv.1=k then (kv.1,y) else kv) (xs.map (putAt k u)):=by
 induction r with
 | nil=>exact .nil
 | @cons p q ps qs h t ih =>
  rw [map_cons,map_cons];refine .cons ?_ ih;obtain ⟨h1,h2,h3⟩:=h;unfold putAt
  by_cases e:p.1=k
  .rw [if_pos e,if_pos (h1.symm.trans e)];exact ⟨h1,h2,ry⟩
  .rw [if_neg e,if_neg (fun z=>e (h1.trans z))];exact ⟨h1,h2,h3⟩
theorem KT.put (r:KT H kvs xs) (k:List Key) (hb:H b=some (.tup (k.map kV))) (ry:RelV y u) :
  KT H (putK kvs k y) (storedH xs k b u):=by
 have e:(kvs.any fun kv=>decide (kv.1=k))=(atKey xs k).isSome:=by rw [yoL,(r.val k).isSome_eq,isSome_map]
 unfold putK storedH;rw [e]
 by_cases q:(atKey xs k).isSome=true
 .rw [if_pos q,if_pos q];exact r.repl k ry
 .rw [if_neg q,if_neg q];exact Paired.snoc r ⟨rfl,hb,ry⟩
theorem KT.keeps (r:KT H kvs xs) (d:∀ b ys,H b=some (.tup ys)->c b=some (.tup ys)):KT c kvs xs :=
 Paired.mapP r fun _ _ z=>⟨z.1,d _ _ z.2.1,z.2.2⟩
section
variable {P:Program}{w:World}{H:Hp}{h:Heap}{a:Addr}
theorem yCf (b:HOk P w H h) (e:Rd H a u):ObjOk P w H h a u:=e.ok b
theorem yuS (c:HOk P w H h) (e:Rd H a (.dK kvs)):kvs.length<=sizeLine/\(a == sysModules)=false/\∃ vs,KV kvs vs/\h.DictOf (ydc P w) a vs :=
 yCf c e
theorem yyO (c:HOk P w H h) (e:H a=some (.dK kvs)):kvs.length<=sizeLine/\(a == sysModules)=false/\∃ vs,KV kvs vs/\h.DictOf (ydc P w) a vs:=yuS c (.inl e)
theorem yoM {ks:List Key}(d:HOk P w H h) (e:H a=some (.tup (ks.map kV))):(tupleKind (ydc P w)).is h ks a:=by
 obtain ⟨_,its,r,o,h1,h2,n,c⟩:=(d a _ e)
 exact ⟨o,its.toArray,n,h1,h2,c,by simpa using ylW r⟩
theorem yuT (f:HOk P w H h) (e:Rd H a (.dT kvs)):kvs.length<=sizeLine/\(a == sysModules)=false /\
  ∃ xs,KT H kvs xs/\h.DictOfH (tupleKind (ydc P w)) a xs:=by
 obtain ⟨z,y,xs,r,o,es,ep,h1,h2,g,i,j⟩:=(yCf f e)
 refine ⟨z,y,xs,r,o,es,ep,h1,h2,g,i,fun x c=>?_,j⟩;have d:∀ {l:List _}{m:List _},KT H l m->∀ x∈m,(tupleKind (ydc P w)).is h x.1 x.2.1:=by
  intro l m q
  induction q with
  | nil=>grind
  | @cons p q ps qs hq t ih =>
   intro x c;rcases mem_cons.mp c with e|c
   .exact yoM f (by simp_all)
   .exact ih x c
 exact d r x c
theorem yFh (c:HOk P w H h) (e:H a=some (.dT kvs)):kvs.length<=sizeLine/\(a == sysModules)=false /\
  ∃ xs,KT H kvs xs/\h.DictOfH (tupleKind (ydc P w)) a xs:=yuT c (.inl e)
end
def DGet (H:Hp) (a:Addr) (y:V) (r:Option V):Prop :=
 (∃ kvs k,Rd H a (.dK kvs)/\y=kV k/\r=ylV kvs k)\/∃ kvs k b,Rd H a (.dT kvs)/\y=.ref b/\H b=some (.tup (k.map kV))/\r=ylV kvs k
def DPut (H:Hp) (a:Addr) (y v:V) (H':Hp):Prop :=
 (∃ kvs k,H a=some (.dK kvs)/\y=kV k/\kvs.length<sizeLine/\H'=upd H a (.dK (putK kvs k v))) \/
 ∃ kvs k b,H a=some (.dT kvs)/\y=.ref b/\H b=some (.tup (k.map kV))/\kvs.length<sizeLine/\H'=upd H a (.dT (putK kvs k v))
theorem DPut.k {H:Hp}{a:Addr}{kvs:List _}{k:Key}{v:V}(e:H a=some (.dK kvs)) (hl:kvs.length<sizeLine):DPut H a (kV k) v (upd H a (.dK (putK kvs k v))):=.inl ⟨kvs,k,e,rfl,hl,rfl⟩
section
variable {X:Cx}{pins:List (Addr×Obj)}{Z:St}{H:Hp}{s:Shared}{a:Addr}{y v:V}{u r:Value}{o:Option V}{A:Around}{E:Value->Shared->Prop}
theorem Inv.big (I:Inv X pins Z H s):sysModules<s.heap.objs.size:=by have h:=(I.mod.glob.keeps I.bk).lt;exact Nat.lt_trans (by decide) h
theorem yrI {Q:Value->Shared->Prop}(t:A.units+1<cLine) (I:Inv X pins Z H s) (g:DGet H a y (some v)) (n:RelV y u) (h:∀ f s',Inv X pins Z H s'->RelV v f->Q f s') :
  wpAny (model X.prog X.w) A (getItem (.ref a) u) Q E s:=by
 rcases g with ⟨kvs,k,e,m,l⟩|⟨kvs,k,b,e,m,q,l⟩
 .subst m;obtain ⟨z,w,vs,d,dd⟩:=yuS I.hok e;obtain ⟨f,j,c⟩:=RelO.some_of (by rw [l];exact d.val k);exact wpAny_getItem_of (yuR n) dd.mapOf j (h f _ (I.tok _) c)
 .subst m;cases (n);obtain ⟨z,w,xs,d,dd⟩:=yuT I.hok e;obtain ⟨f,j,c⟩:=RelO.some_of (by rw [l];exact d.val k);obtain ⟨p,hp,i⟩:=Option.map_eq_some_iff.mp j;refine wpAny_getItem_heap (tupleKind_room_in1 t) (yoM I.hok q) dd hp ?_;rw [i];exact h f _ (I.tok _) c
theorem yHm {Q:Value->Shared->Prop}(hu:A.units+1<cLine) (I:Inv X pins Z H s) (g:DGet H a y o) (ry:RelV y u) (h:∀ s',Inv X pins Z H s'->Q (.bool o.isSome) s') :
  wpAny (model X.prog X.w) A (compareOp .In u (.ref a)) Q E s:=by
 rcases g with ⟨kvs,k,e,ey,l⟩|⟨kvs,k,b,e,ey,eb,l⟩
 .subst ey;obtain ⟨z,hd,vs,rel,dd⟩:=yuS I.hok e;refine wpAny_in_of (yuR ry) hd dd.mapOf ?_;rw [<- (rel.val k).isSome_eq,<- l];exact h _ (I.tok _)
 .subst ey;cases (show u=Value.ref b from ry);obtain ⟨z,hd,xs,rel,dd⟩:=yuT I.hok e;refine wpAny_in_heap (tupleKind_room_in1 hu) (yoM I.hok eb) hd dd ?_;have q:=(rel.val k).isSome_eq;rw [isSome_map] at q;rw [<- q,<- l];exact h _ (I.tok _)
theorem ynG (I:Inv X pins Z H s) (e:Mut (H a)) (hs:Heap.SameBut a s.heap h') (g:∃ q,h'.get? a=some q) (d:ObjOk X.prog X.w (upd H a c) h' a c) :
  Inv X pins Z (upd H a c) { s with heap:=h',toks:=t' } :=
 I.write e (.inl rfl) (fun b q f z=>(hs.2 b f).trans z) g d
theorem ywV {h':Heap}{kvs:List _}(z:kvs.length<=sizeLine) (c:(a == sysModules)=false) (b:KV kvs vs) (dd:h'.DictOf (ydc P w) a vs) :
  ObjOk P w d h' a (.dK kvs):=⟨z,c,vs,b,dd⟩
theorem yrJ {Q:Unit->Shared->Prop}(C:A.units+1<cLine) (I:Inv X pins Z H s) (g:DPut H a y v t) (B:RelV y u) (p:RelV v r) (h:∀ s',Inv X pins Z t s'->Q () s') :
  wpAny (model X.prog X.w) A (setItem (.ref a) u r) Q E s:=by
 rcases g with ⟨kvs,k,e,n,l,j⟩|⟨kvs,k,b,e,n,w,l,j⟩
 .subst n j;obtain ⟨z,m,vs,d,dd⟩:=yyO I.hok e;have hz:vs.length<=sizeLine:=by rw [<- d.length];exact z
  have hl:(putK kvs k v).length<=sizeLine:=by have:=yfZ kvs k v;omega
  refine wpAny_setItem_pairs (yuR B) dd fun h' f hs=>h _ ?_
  have D:∃ q,h'.get? a=some q:=let ⟨q,_,_,i,_⟩:=f;⟨q,i⟩
  exact ynG I (by rw [e];exact True.intro) hs D (ywV hl m (d.put k p) f)
 .subst n j;cases (B);obtain ⟨z,m,xs,d,dd⟩:=yFh I.hok e;have hz:xs.length<=sizeLine:=by rw [<- Paired.length d];exact z
  have hl:(putK kvs k v).length<=sizeLine:=by have:=yfZ kvs k v;omega
  refine wpAny_setItem_heap (tupleKind_room_in1 C) (yoM I.hok w) dd fun h' f hs=>h _ ?_
  obtain ⟨q,es,ep,i,h2,F,G,_,J⟩:=f;refine ynG I (by rw [e];exact True.intro) hs ⟨q,i⟩ ⟨hl,m,_,(d.put k w p).keeps fun c ys x=>?_,q,es,ep,i,h2,F,G,J⟩;rw [yR (yEf x e fun z=>nomatch z)];exact x
end
noncomputable def yFi (i:Expr):Prop:=∀ ov iv,subscripted i false ov iv=operate [ov,iv] (getItem ov iv)
theorem yyP {prog:Program}{w:World}{A:Around}{E:Value->Shared->Prop}{s:Shared}{env:Env}{value slice:Expr}{pos:Pos}{T id:String}{Q:Value->Shared->Prop}
  (hl:typeLookup (.type T) "__getitem__" = pure (some (.builtin id))) (hs:yFi slice)
  (h:wpAny (model prog w) A (eval value env) (fun o d=>wpAny (model prog w) A (eval slice env) (fun i b=>b.TypeIs o T/\wpAny (model prog w) A (getItem o i) Q E b) E d) E s) :
  wpAny (model prog w) A (eval (.Subscript value slice pos) env) Q E s:=by
 refine Subscript_ (wpAny_mono h (fun o d h₁=>wpAny_mono h₁ (fun i b c=>?_) fun _ _ x=>x) fun _ _ x=>x);obtain ⟨j,c⟩:=c;refine wpAny_bind ?_;refine wpAny_bind (wpAny_specialOf j hl ?_);have g:wpAny (model prog w) A (subscripted slice false o i) (fun r e=>wpAny (model prog w) A (letTemporaryGo value o r >>= fun _=>pure r) Q E e) E b:=by rw [hs o i];exact wpAny_operating (wpAny_mono c (fun r e f=>wpAny_bind (wpAny_letTemporaryGo (wpAny_pure f))) fun _ _ x=>x)
 first
  | exact wpAny_pure (wpAny_bind g)
  | simp_all
  | exact wpAny_bind g
theorem ynH {X:Cx}{d:List _}{Z:St}{H:Hp}{s:Shared}{a:Addr}{y:V}{o:Option V}(I:Inv X d Z H s) (g:DGet H a y o):s.TypeIs (.ref a) "dict":=by
 rcases g with ⟨kvs,k,e,_,_⟩|⟨kvs,k,b,e,_,_,_⟩
 .obtain ⟨_,_,vs,_,dd⟩:=yuS I.hok e;exact dd.typeIs
 .obtain ⟨_,_,xs,_,dd⟩:=yuT I.hok e;exact dd.typeIs
def yCg (td ty:TE):TE:=fun Z H Q=>td Z H fun x H1=>ty Z H1 fun y H2=>∃ a v,x=.ref a/\DGet H2 a y (some v)/\Q v H2
def yGG (ty td:TE):TE:=fun Z H Q=>ty Z H fun y H1=>td Z H1 fun x H2=>∃ a o,x=.ref a/\DGet H2 a y o/\Q (.bl o.isSome) H2
def yCh (td ty tv:TE):TS:=fun D Z H=>tv Z H fun v H1=>td Z H1 fun x H2=>ty Z H2 fun y H3=>∃ a H4,x=.ref a/\DPut H3 a y v H4/\D.nx Z H4
section
variable {X:Cx}{o i e value:Expr}{pos pos' tpos:Pos}{td ty tv:TE}
theorem yyQ (m:X.A.units+1<cLine) (t:PE X o td) (p:PE X i ty) (hs:yFi i):PE X (.Subscript o i pos) (yCg td ty):=by intro c s Z H Q I h;refine yyP PySem.F.slot_dict_getitem.lookup hs (thn (t c s Z H _ I h) fun u s1 ⟨x,r,q,n,w⟩=>thn (p c s1 Z r _ q w) fun B s2 ⟨y,A,f,j,a,v,z,g,l⟩=>?_);subst z;obtain rfl:u=Value.ref a:=n;exact ⟨ynH f g,yrI m f g j fun C s3 k d=>⟨v,A,k,d,l⟩⟩
theorem yCi (d:X.A.units+1<cLine) (r:PE X i ty) (n:PE X o td):PC X .In i o (yGG ty td):=by
 intro c s Z H Q I h;refine thn (r c s Z H _ I h) fun A s1 ⟨y,m,w,t,k⟩=>thn (n c s1 Z m _ w k) fun u s2 ⟨x,p,f,v,a,j,q,g,l⟩=>?_
 subst q;obtain rfl:u=Value.ref a:=v;exact yHm d f g t fun s3 z=>⟨.bl j.isSome,p,z,rfl,l⟩
theorem yyR (z:X.A.units+1<cLine) (t:PE X o td) (q:PE X i ty) (f:PE X value tv) (hs:swapsWith value (some (.Subscript o i pos')) pos.line X.env=pure false) :
  PS X (.Assign [.Subscript o i pos'] value pos) (yCh td ty tv):=by
 intro c s Z H D I h;refine wpAny_Assign_Subscript (thn (f c s Z H _ I h) fun r s1 ⟨v,B,d,F,m⟩=>thn (t c s1 Z B _ d m) fun u s2 ⟨x,E,j,p,l⟩=>thn (q c s2 Z E _ j l) fun L s3 ⟨y,J,A,C,a,k,w,g,n⟩=>?_) hs;subst w;obtain rfl:u=Value.ref a:=p;exact yrJ z A g C F fun s4 G=>⟨Z,k,G,n⟩
end
theorem yuU (h:Heap) (b:sysModules<h.objs.size):ObjOk P w H (h.push { cls:=.type "dict",data:=.dict #[] }) h.objs.size (.dK []) :=
 ⟨zero_le _,beq_eq_false_iff_ne.mpr (Ne.symm (ne_of_lt b)),[],.nil,Heap.DictOf.new h⟩
def ywW:TE:=fun _ H Q=>∀ p,H p=none->Q (.ref p) (upd H p (.dK []))
section
variable {X:Cx}{pos:Pos}
theorem yuV:PE X (.Dict [] [] pos) ywW:=fun b s Z H Q I h =>
 wpAny_Dict_empty ⟨.ref s.heap.objs.size,_,I.laid (fun _ _ q=>Heap.get?_push_of_some _ q) (Nat.le_refl _) (yuU s.heap I.big),rfl,h _ (I.hok.fresh (Nat.le_refl _))⟩
end
def yrK (kvs more:List (Key×V)):List (Key×V):=more.foldl (fun acc kv=>putK acc kv.1 kv.2) kvs
theorem KV.merge:∀ {more:List (Key×V)}{rs:List (Key×Value)}{kvs:List (Key×V)}{vs:List (Key×Value)},KV more rs->KV kvs vs->KV (yrK kvs more) (merged vs rs):=by
 intro more rs kvs vs r;unfold KV at r
 induction r generalizing kvs vs with
 | nil=>intro q;exact q
 | @cons p q ps qs h t ih =>
  intro r0;have e:KV (putK kvs p.1 p.2) (stored vs q.1 q.2):=by have:=r0.put p.1 h.2;rw [<- h.1];exact this
  exact ih e
theorem ygv:∀ b kvs,(yrK kvs b).length<=kvs.length+b.length
 | [],kvs=>by show kvs.length<=kvs.length+0;omega
 | p::r,kvs=>by have h1:=ygv r (putK kvs p.1 p.2);have h2:=yfZ kvs p.1 p.2;show (yrK _ r).length<=_;grind
structure M2 (X:Cx) (o:Expr) (m:Str) (apos:Pos) (e f:Expr) (cpos:Pos):Prop where
 base:attributeBase o m X.env (eval o X.env)=eval o X.env
 few:((backTo cpos (starEach [e,f] X.env)).all (fun x=>!x.1) && (backToKw cpos (keywordEach [] X.env)).all (fun x=>x.1.isSome)
  && decide (([e,f]:List Expr).length+([]:List Keyword).length+(if ([]:List Keyword).isEmpty then 0 else 1)<30))=true
 line:(apos.endLine == cpos.line)=true
 trees:backTo cpos (starEach [e,f] X.env)=[(false,eval e X.env),(false,eval f X.env)]
end L2
namespace PX
open PySem L2
variable {K:Ck}
theorem yjH {Y:Type}{l:List Y}(h:l.Nodup)  c (b:j<l.length) (e:l[i]=l[j]):i=j:=by
 have p:=List.pairwise_iff_getElem.mp h;rcases Nat.lt_trichotomy i j with z|z|z
 .exact absurd e (p i j c b z)
 .exact z
 .exact absurd e.symm (p j i b c z)
def ynI (W:Wd) (n:Nat) (a:Addr) (o:HO) (d:Nd):Wd:=⟨W.F,upd W.H a o,W.m,W.h.set n d⟩
theorem yga (w:WOk K W) (e:W.h[n]?=some d) (k:W.m[n]?=some a) (y:W.F a=none) (at':NdAt K W.F (upd W.H a o) W.m d' a) (B:∀ ks xs,d≠.fz ks xs:=by intro _ _ z;cases z):Le K W (ynI W n a o d'):=by
 have A:=(List.getElem?_eq_some_iff.mp e).1;have l:=mem_of_getElem? k;refine ⟨⟨fun b u q=>?_,by show W.m.length=(W.h.set n d').length;rw [length_set];exact w.len,w.nd,fun j v b g h=>?_⟩,Same.refl _,prefix_refl _,fun b u q p=>?_,fun b u _ _ f=>f,fun b z x=>absurd z x,fun j ks xs g=>?_⟩
 .have:=ybJ q y
  exact (yR this).trans (w.le _ _ q)
 .have g:(W.h.set n d')[j]?=some v:=g
  by_cases i:n=j
  .subst i;rw [getElem?_set_self A] at g;cases g;have h:W.m[n]?=some b:=h;rw [k] at h;cases h;exact at'
  .rw [getElem?_set_ne i] at g;have p:b≠a:=fun z=>by subst z;have h1:=List.getElem?_eq_some_iff.mp k;have h2:=List.getElem?_eq_some_iff.mp h;obtain ⟨s,t⟩:=h1;obtain ⟨r,m⟩:=h2;exact i (yjH w.nd s r (t.trans m.symm))
   exact (w.at_ j v b g h).mono (Same.refl _) (prefix_refl _) (fun u q=>(yR p).trans q) id
 .have:b≠a:=fun z=>p (z ▸ l)
  exact (yR this).trans q
 .have i:n≠j:=fun z=>by subst z;rw [e] at g;simp_all
  refine ⟨(getElem?_set_ne i).trans g,fun b h=>yR fun z=>?_⟩;subst z;obtain ⟨s,t⟩:=List.getElem?_eq_some_iff.mp k;obtain ⟨r,m⟩:=List.getElem?_eq_some_iff.mp h;exact i (yjH w.nd s r (t.trans m.symm))
def ydz:PV->AH->Bool:=fun x h=>match ybr x h with|some _=>true|none=>false
theorem yoN (w:WOk K W) (r:ycO K W x v) (c:ydz x W.h=true):tyV K.K "list" v W.H:=by
 unfold ydz at c;split at c
 .rename_i xs b;obtain ⟨a,vs,rfl,hs,_⟩:=ybg w b r;exact .inl ⟨rfl,vs,SqL.of hs⟩
 .cases c
noncomputable def ydR:PM:=fun x ys h=>match x,ys with|.loc n,[y]=>(match h[n]? with|some (.lst xs)=>if xs.length<100000 then some (.non,h.set n (.lst (xs++[y]))) else none|_=>none)|_,_=>none
theorem yeu:yji K "list" ydz yne ydR:=by
 refine ⟨fun W x v w r c=>yoN w r c,fun W x v xs vs Q z h' w j r e q=>?_⟩;unfold ydR at e;split at e
 .rename_i n y;split at e
  .rename_i ys f;split at e
   .rename_i hl;cases e;obtain ⟨u,rfl,h⟩:=ynC r;obtain ⟨a,ev,i,g,us,hp,d⟩:=w.loc f j;refine ⟨a,us,u,ev,rfl,hp,by rw [d.len];exact big hl,?_⟩;exact q _ (ynI W n a _ _) rfl (yga w f i g ⟨g,_,yP,d.snoc h⟩) rfl
   .cases e
  .cases e
 .cases e
noncomputable def yhA:PM:=fun x ys h=>match x,ys with|.loc n,[]=>(match h[n]? with|some (.lst xs)=>(match xs[xs.length-1]? with|some y=>some (y,h.set n (.lst xs.dropLast))|none=>none)|_=>none)|_,_=>none
theorem RepL.dropLast (r:RepL K F m xs vs):RepL K F m xs.dropLast vs.dropLast:=by rw [List.dropLast_eq_take,List.dropLast_eq_take,r.len];exact r.take _
theorem yoO:yji K "list" ydz yGx yhA:=by
 refine ⟨fun W x v w r c=>yoN w r c,fun W x v xs vs Q z h' w k r e q=>?_⟩;unfold yhA at e;split at e
 .rename_i n;split at e
  .rename_i ys g;split at e
   .rename_i y l;cases e;obtain rfl:vs=[]:=r;obtain ⟨a,ev,j,f,us,hp,d⟩:=w.loc g k;obtain ⟨u,h,i⟩:=d.get l;refine ⟨a,us,u,ev,rfl,hp,by rw [d.len];exact h,?_⟩;exact q u (ynI W n a _ _) rfl (yga w g j f ⟨f,_,yP,d.dropLast⟩) i
   .cases e
  .cases e
 .cases e
def yec (eo ei ev:XE):XS:=fun ρ h=>ob (ev ρ h) fun v h1=>ob (eo ρ h1) fun o h2=>ob (ei ρ h2) fun i h3=>match o,i with
 | .loc n,.int k=>(match h3[n]? with|some (.lst xs)=>(match ixN xs.length k with|some j=>some (.nx ρ,h3.set n (.lst (xs.set j v)))|none=>none)|_=>none)
 | _,_=>none
theorem yuW (a:ycb K A eo) (b:ycb K u ei) (c:ycb K y ev):yeZ K (yww y (yGn A u yBj)) (yec eo ei ev):=by
 intro s W ρ d D o h' g e q;obtain ⟨v,h1,I,L⟩:=yk e;obtain ⟨x,h2,Q,S⟩:=yk L;obtain ⟨i,H,E,f⟩:=yk S;refine c s W ρ d _ v h1 g I fun Z T M r N=>?_
 subst M;refine a s T ρ d _ x h2 (g.step r) Q fun Y F O m r2=>?_
 subst O;refine b s F ρ d _ i H (g.step (r.trans m)) E fun X B G h P=>?_
 subst G;have w:=h.ok;split at f
 .rename_i n k;split at f
  .rename_i xs t;split at f
   .rename_i j J;cases f;obtain ⟨p,ep,U,z,us,hp,C⟩:=w.loc t (h.rep r2);refine ⟨p,us,k,j,ep,P,hp,by rw [C.len];exact J,?_⟩;have R:Le K B (ynI B n p _ (.lst _)):=yga w t U z ⟨z,_,yP,C.set j ((m.trans h).rep N)⟩;have l:=r.trans (m.trans (h.trans R));exact q _ d rfl l.lf (g.step l)
   .cases f
  .cases f
 .cases f
noncomputable def keyOf:PV->Option Key
 | .int i=>some (.inl i)
 | .str s=>some (.inr s)
 | _=>none
theorem yih (e:keyOf x=some k) (r:ycO K W x v):v=kV k:=by cases x<;>cases e<;>exact r
noncomputable def ylX (x:PV) (h:AH):Option (List Key×List PV):=match x with|.loc n=>(match h[n]? with|some (.dct ks xs)=>some (ks,xs)|_=>none)|_=>none
noncomputable def ykp:List Key->List PV->Key->Option PV
 | k::ks,x::xs,j=>if k=j then some x else ykp ks xs j
 | _,_,_=>none
noncomputable def yrL:List Key->Key->Bool
 | [],_=>false
 | k::ks,j=>if k=j then true else yrL ks j
noncomputable def setK {Y:Type}:List Key->List Y->Key->Y->List Y
 | k::ks,x::xs,j,y=>if k=j then y::setK ks xs j y else x::setK ks xs j y
 | _,xs,_,_=>xs
def ydA (ks:List Key) (xs:List PV) (k:Key) (x:PV):List Key×List PV:=if yrL ks k=true then (ks,setK ks xs k x) else (ks++[k],xs++[x])
theorem ykq {Y:Type}:∀ (ks:List Key) (xs:List Y) (j:Key) (y:Y),(setK ks xs j y).length=xs.length
 | [],_,_,_=>by simp [setK]
 | _::_,[],_,_=>by simp [setK]
 | k::ks,x::xs,j,y=>by show (if k=j then y::setK ks xs j y else x::setK ks xs j y).length=_;split<;>simp [ykq ks xs j y]
theorem RepL.setK:∀ {xs:List PV}{vs:List V} ks j {y:PV}{u:V},RepL K F m xs vs->Rep K F m y u->RepL K F m (PX.setK ks xs j y) (PX.setK ks vs j u)
 | [],_,ks,j,y,u,h,_=>by rw [h];cases ks<;>exact rfl
 | x::xs,_,[],j,y,u,h,_=>by obtain ⟨v,r,e,h1,l⟩:=h;subst e;exact ⟨v,r,rfl,h1,l⟩
 | x::xs,_,k::ks,j,y,u,⟨v,r,e,h1,l⟩,b=>by
  subst e;show RepL K F m (if k=j then y::PX.setK ks xs j y else x::PX.setK ks xs j y) (if k=j then u::PX.setK ks r j u else v::PX.setK ks r j u);have c:=RepL.setK ks j l b;split
  .exact ⟨u,_,rfl,b,c⟩
  .exact ⟨v,_,rfl,h1,c⟩
theorem ykr:∀ {ks:List Key}{xs:List PV}{vs:List V}(j:Key),RepL K F m xs vs->vs.length=ks.length->(∀ x,ykp ks xs j=some x->∃ v,ylV (ks.zip vs) j=some v/\Rep K F m x v)/\(ykp ks xs j=none->ylV (ks.zip vs) j=none)
 | [],xs,vs,j,r,hl=>by refine ⟨fun x e=>?_,fun _=>rfl⟩;cases xs<;>cases e
 | k::ks,[],vs,j,r,hl=>by rw [show vs=[] from r] at hl;cases hl
 | k::ks,x::xs,_,j,⟨v,r',e,h,l⟩,hl=>by
  subst e;have ih:=ykr j l (by simpa using hl);have hz:ylV ((k::ks).zip (v::r')) j=if k=j then some v else ylV (ks.zip r') j:=by
   unfold ylV;rw [zip_cons_cons,find?_cons]
   by_cases hk:k=j
   .simp [hk]
   .simp [hk]
  rw [hz];show (∀ y,(if k=j then some x else ykp ks xs j)=some y->_)/\((if k=j then some x else ykp ks xs j)=none->_)
  by_cases hk:k=j
  .rw [if_pos hk,if_pos hk];exact ⟨fun y e=>by cases e;exact ⟨v,rfl,h⟩,fun e=>by cases e⟩
  .rw [if_neg hk,if_neg hk];exact ih
theorem yrM j:∀ ks (vs:List V),vs.length=ks.length->((ks.zip vs).any fun b=>decide (b.1=j))=yrL ks j
 | [],_,_=>by simp [yrL]
 | k::ks,[],h=>by cases h
 | k::ks,v::vs,h=>by
  rw [zip_cons_cons,any_cons,yrM j ks vs (by simpa using h)];show (decide _ || yrL ks j)=if k=j then true else yrL ks j
  simp_all
theorem yrN j (y:V):∀ (ks:List Key) vs,vs.length=ks.length->(ks.zip vs).map (fun b=>if b.1=j then (b.1,y) else b)=ks.zip (setK ks vs j y)
 | [],_,_=>rfl
 | k::ks,[],h=>rfl
 | k::ks,v::vs,h=>by
  rw [zip_cons_cons,map_cons,yrN j y ks vs (by simpa using h)];show (if k=j then (k,y) else (k,v))::_=(k::ks).zip (if k=j then y::setK ks vs j y else v::setK ks vs j y)
  by_cases c:k=j
  .simp_all
  simp_all
theorem yoP j y ks vs (hl:vs.length=ks.length):putK (ks.zip vs) j y=if yrL ks j=true then ks.zip (setK ks vs j y) else (ks++[j]).zip (vs++[y]):=by unfold putK;rw [yrM j ks vs hl,yrN j y ks vs hl,List.zip_append hl.symm];rfl
theorem ylY (w:WOk K W) (e:ylX x W.h=some (ks,xs)) (r:ycO K W x v):∃ a vs,v=.ref a/\W.H a=some (.dK (ks.zip vs))/\vs.length=ks.length/\ycL K W xs vs:=by
 unfold ylX at e;split at e
 .split at e
  .rename_i d;cases e;obtain ⟨a,ev,f,g,vs,hp,hl,c⟩:=w.loc d r;exact ⟨a,vs,ev,hp,hl,c⟩
  .cases e
 .cases e
noncomputable def yyS (x:PV) (h:AH):Option (List Key×List PV):=match x with|.loc n=>(match h[n]? with|some (.dct ks xs)=>some (ks,xs)|some (.fz ks xs)=>some (ks,xs)|_=>none)|_=>none
theorem yoQ (w:WOk K W) (e:yyS x W.h=some (ks,xs)) (r:ycO K W x v):∃ a vs,v=.ref a/\Rd W.H a (.dK (ks.zip vs))/\vs.length=ks.length/\ycL K W xs vs:=by
 unfold yyS at e;split at e
 .split at e
  .rename_i d;cases e;obtain ⟨a,ev,f,g,vs,hp,hl,c⟩:=w.loc d r;exact ⟨a,vs,ev,.inl hp,hl,c⟩
  .rename_i d;cases e;obtain ⟨a,ev,f,g,o,vs,hp,hl,c⟩:=w.loc d r;exact ⟨a,vs,ev,.inr ⟨o,hp⟩,hl,c⟩
  .cases e
 .cases e
theorem DGet.r (e:Rd H a (.dK kvs)):DGet H a (kV k) (ylV kvs k):=.inl ⟨kvs,k,e,rfl,rfl⟩
def yii (ed ek:XE):XE:=fun ρ h=>ob (ed ρ h) fun d h1=>ob (ek ρ h1) fun k h2=>match yyS d h2,keyOf k with|some (ks,xs),some j=>(match ykp ks xs j with|some x=>some (x,h2)|none=>none)|_,_=>none
theorem yuX (a:ycb K i ed) (b:ycb K l ek):ycb K (yCg i l) (yii ed ek):=by
 intro m W ρ Z Q z h' g e q;obtain ⟨d,h1,C,D⟩:=yk e;obtain ⟨k,h2,E,f⟩:=yk D;refine a m W ρ Z _ d h1 g C fun I G F n u=>?_
 subst F;refine b m G ρ Z _ k h2 (g.step n) E fun H y r h r2=>?_
 subst r;split at f
 .rename_i ks xs j o s;split at f
  .rename_i x t;cases f;obtain ⟨p,vs,ev,hp,hl,w⟩:=yoQ h.ok o (h.rep u);obtain ⟨v,A,B⟩:=(ykr j w hl).1 _ t;have:=yih s r2;subst this;exact ⟨p,v,ev,by rw [<- A];exact DGet.r hp,q _ y rfl (n.trans h) B⟩
  .cases f
 .cases f
def yAB (neg:Bool) (ek ed:XE):XE:=fun ρ h=>ob (ek ρ h) fun k h1=>ob (ed ρ h1) fun d h2=>match yyS d h2,keyOf k with|some (ks,xs),some j=>some (.bl (if neg then !(ykp ks xs j).isSome else (ykp ks xs j).isSome),h2)|_,_=>none
theorem ypU {ks:List Key} j (r:RepL K F m xs vs) (hl:vs.length=ks.length):(ylV (ks.zip vs) j).isSome=(ykp ks xs j).isSome:=by
 have h:=ykr j r hl;cases e:ykp ks xs j with
 | none=>rw [h.2 e];rfl
 | some x=>obtain ⟨v,h1,_⟩:=h.1 x e;rw [h1];rfl
theorem yyT (b:ycb K l ek) (a:ycb K i ed):ycb K (yGG l i) (yAB false ek ed):=by
 intro m W ρ Z Q z h' g e q;obtain ⟨k,h1,w,A⟩:=yk e;obtain ⟨d,h2,s,h⟩:=yk A;refine b m W ρ Z _ k h1 g w fun D x y n t=>?_
 subst y;refine a m x ρ Z _ d h2 (g.step n) s fun C v B f r2=>?_
 subst B;split at h
 .rename_i ks xs j o r;cases h;obtain ⟨p,vs,ev,hp,hl,u⟩:=yoQ f.ok o r2;have:=yih r (f.rep t);subst this;exact ⟨p,_,ev,DGet.r hp,q _ v rfl (n.trans f) (by rw [ypU j u hl];rfl)⟩
 .cases h
def yks (ed ek ev:XE):XS:=fun ρ h=>ob (ev ρ h) fun v h1=>ob (ed ρ h1) fun d h2=>ob (ek ρ h2) fun k h3=>match d,keyOf k with
 | .loc n,some j=>(match h3[n]? with|some (.dct ks xs)=>if ks.length<1000 then some (.nx ρ,h3.set n (.dct (ydA ks xs j v).1 (ydA ks xs j v).2)) else none|_=>none)
 | _,_=>none
theorem yuY (a:ycb K C ed) (b:ycb K y ek) (c:ycb K B ev):yeZ K (yCh C y B) (yks ed ek ev):=by
 intro s W ρ d D o h' g e q;obtain ⟨v,h1,T,Z⟩:=yk e;obtain ⟨x,h2,R,J⟩:=yk Z;obtain ⟨i,I,S,k⟩:=yk J;refine c s W ρ d _ v h1 g T fun E W1 U r r1=>?_
 subst U;refine a s W1 ρ d _ x h2 (g.step r) R fun vx W2 P u r2=>?_
 subst P;refine b s W2 ρ d _ i I (g.step (r.trans u)) S fun vi t w3 m X=>?_
 subst w3;have w:=m.ok;split at k
 .rename_i n j Q;split at k
  .rename_i ks xs F;split at k
   .cases k;obtain ⟨p,ep,L,H,us,hp,hl,G⟩:=w.loc F (m.rep r2);have:=yih Q X;subst this;have f:=yoP j E ks us hl;have A:=(u.trans m).rep r1;have key:∃ h,putK (ks.zip us) j E=(ydA ks xs j v).1.zip h/\h.length=(ydA ks xs j v).1.length/\ycL K t (ydA ks xs j v).2 h:=by
     unfold ydA
     by_cases z:yrL ks j=true
     .rw [if_pos z] at f ⊢;exact ⟨_,f,by rw [ykq];exact hl,G.setK ks j A⟩
     .rw [if_neg z] at f ⊢;exact ⟨_,f,by simp_all,G.snoc A⟩
    obtain ⟨h,M,O,N⟩:=key;refine ⟨p,_,ep,DPut.k hp (by rw [length_zip,hl];exact ylx (by omega)),?_⟩;rw [M];have Y:Le K t (ynI t n p _ (.dct _ _)):=yga w F L H ⟨H,h,yP,O,N⟩;have l:=r.trans (u.trans (m.trans Y));exact q _ d rfl l.lf (g.step l)
   .cases k
  .cases k
 .cases k
def ypV:XO:=fun _ h=>some (.dct [] [],h)
theorem yuZ:ylR K ywW ypV:=by intro b W ρ Z Q d h' g e q;cases e;intro p hp;exact q p (yic W p _) rfl (ydE g.ok hp) (g.ok.out hp) hp (fun z=>by cases z) ⟨g.ok.ff hp,[],yP,rfl,rfl⟩
end PX
namespace PX
open PySem L2
variable {K:Ck}
def itemsOf (x:PV) (h:AH):Option (List PV):=match x with|.tup xs=>some xs|_=>listOf x h
theorem ynJ (w:WOk K W) (e:itemsOf x W.h=some xs) (r:ycO K W x v):∃ a vs,v=.ref a/\(SqL K.K W.H a vs\/SqT K.K W.H a vs)/\ycL K W xs vs:=by
 unfold itemsOf at e;split at e
 .cases e;obtain ⟨a,vs,ev,hs,c⟩:=r;exact ⟨a,vs,ev,.inr (ydF w hs),c⟩
 .obtain ⟨a,vs,ev,hs,c⟩:=yfv w e r;exact ⟨a,vs,ev,.inl hs,c⟩
def svs:List PV->Option (List V)
 | []=>some []
 | x::xs=>match sv x,svs xs with|some v,some vs=>some (v::vs)|_,_=>none
theorem yrO:∀ {xs:List PV}{us vs:List V},svs xs=some us->RepL K F m xs vs->vs=us/\us.all ygr=true
 | [],_,_,e,r=>by cases e;exact ⟨r,rfl⟩
 | x::xs,us,_,e,⟨v,r,ev,h,l⟩=>by
  unfold svs at e;split at e
  .rename_i u us' e1 e2;cases e;obtain ⟨h1,h2⟩:=yrO e2 l;have hv:v=u:=by cases x<;>cases e1<;>exact h
   have hf:ygr u=true:=by cases x<;>cases e1<;>rfl
   exact ⟨by rw [ev,hv,h1],by rw [List.all_cons,hf,h2];rfl⟩
  .cases e
theorem ykt (e:sv x=some u):ygr u=true:=by cases x<;>cases e<;>rfl
def yFj (neg:Bool):P2:=fun x y h=>match sv x,itemsOf y h with|some v,some ys=>(match svs ys with|some us=>some (.bl (if neg then !inV v us else inV v us),h)|none=>none)|_,_=>none
theorem yFk:ycw K (rIn K.K neg) (yFj neg):=by
 intro W x y v u Q z h' w rx ry e q;unfold yFj at e;split at e
 .rename_i v' ys ev ey;split at e
  .rename_i us hu;cases e;obtain rfl:=yfJ ev rx;obtain ⟨a,vs,rfl,hs,rs⟩:=ynJ w ey ry;obtain ⟨rfl,hf⟩:=yrO hu rs;exact ⟨a,vs,rfl,hs,ykt ev,hf,q _ W rfl (.refl w) rfl⟩
  .cases e
 .cases e
end PX
namespace PX
open PySem L2
theorem yFl [i:Decidable True]:decide True=true:=by simp
theorem yFm [i:Decidable False]:decide False=false:=by simp
theorem yFn:(false=true)=False:=by simp
theorem yFo:(true=false)=False:=by simp
theorem yoR:whl c s (n+1) ρ h=ob (c ρ h) fun k h1=>if k=true then ob (s ρ h1) fun o h2=>match o with|.nx ρ'=>whl c s n ρ' h2|.ct ρ'=>whl c s n ρ' h2|.bk ρ'=>some (.nx ρ',h2)|.rt y=>some (.rt y,h2) else some (.nx ρ,h1):=rfl
theorem ylZ (e:a ρ h=some ([.int j],h1)) (h0:-1000000000<=j) (h2:j<=1000000000):yhz a ρ h=some (ymR 0 j.toNat,h1):=by unfold yhz;rw [e,ybE];show (if _ then _ else _)=_;rw [if_pos ⟨h0,h2⟩]
theorem ygb {Y:Type} f g:∀ {ts:List Y}{h:AH},(∀ t∈ts,e (inn (f t)) h=some (g t,h))->yll e inn (ts.map f) h=some (ts.map g,h)
 | [],_,_=>rfl
 | t::ts,h,k=>by show ob _ _=_;rw [k t mem_cons_self,ybE,ygb f g fun y b=>k y (mem_cons_of_mem _ b)];rfl
theorem yma (b:ρ[i]?=some (.own (.lst xs))):yfW i e ρ h=ob (e ρ h) fun x h1=>if xs.length<100000 then some (.nx (ρ.set i (.own (.lst (xs++[x])))),h1) else none:=by unfold yfW;rw [b]
theorem yGH {Y:Type}{a0:Y}{xs:List Y}:atI (a0::xs) 0=some a0:=ycR rfl
theorem yHn {Y:Type}{a0 a1:Y}{xs:List Y}:atI (a0::a1::xs) 1=some a1:=ycR rfl
theorem yHo {Y:Type}{a0 a1 a2:Y}{xs:List Y}:atI (a0::a1::a2::xs) 2=some a2:=ycR (j:=2) rfl
theorem yHp {Y:Type}{a0 a1 a2 a3:Y}{xs:List Y}:atI (a0::a1::a2::a3::xs) 3=some a3:=ycR (j:=3) rfl
theorem yHq {Y:Type}{a0 a1 a2 a3 a4:Y}{xs:List Y}:atI (a0::a1::a2::a3::a4::xs) 4=some a4:=ycR (j:=4) rfl
theorem yHr {Y:Type}{a0 a1 a2 a3 a4 a5:Y}{xs:List Y}:atI (a0::a1::a2::a3::a4::a5::xs) 5=some a5:=ycR (j:=5) rfl
theorem yfw (e:h[n]?=some (.lst xs)):yI [.loc n] h=some (.lst xs,h):=by unfold yI listOf;simp only [e]
theorem yer (e:h[n]?=some (.lst xs)):ydP [.loc n] h=some (.int xs.length,h):=by unfold ydP yrB;simp only [e]
theorem yeH (e:h[n]?=some (.lst xs)) (hl:xs.length<100000):ydR (.loc n) [y] h=some (.non,h.set n (.lst (xs++[y]))):=by unfold ydR;simp_all
theorem ycc (e:h[n]?=some (.lst xs)):ydz (.loc n) h=true:=by unfold ydz ybr;simp only [e]
variable {K:Ck}
section
variable {ta:TE}{ea:XE}
def ynK (i:Nat) (e:XE):XS:=fun ρ h=>match ρ[i]? with
 | some (.own (.lst xs))=>ob (e ρ h) fun x h1=>(match x with|.lst ys=>if xs.length+ys.length<=100000 then some (.nx (ρ.set i (.own (.lst (xs++ys)))),h1) else none|_=>none)
 | _=>none
theorem yva i (a:ycb K ta ea):yeZ K (yqD (tBM K.K "list" yra (yqs i) (yna ta ywC))) (ynK i ea):=by
 intro w W ρ Z D o h' g e q;unfold ynK at e;split at e
 .rename_i C j;obtain ⟨x,h1,B,d⟩:=yk e;split at d
  .split at d
   .rename_i f;cases d;obtain ⟨p,a1,a2,a3,a4,J,vs,hp,r⟩:=g.own i _ j;refine ⟨_,a1,.inl ⟨rfl,_,SqL.of hp⟩,?_⟩;refine a w W ρ Z _ _ _ g B fun v F H h y=>?_
    obtain ⟨b,us,rfl,u,s⟩:=y;refine ⟨p,b,vs,us,rfl,rfl,h.keep _ _ hp a2,h.ok.le _ _ u,by rw [r.len,s.len];exact yyz f,?_⟩;have k:=g.step h;obtain ⟨I,n,l,G,L,t,E,m,A⟩:=k.own i _ j;rw [a1] at n;cases n;rw [h.keep _ _ hp a2] at m;cases m;exact q (ywN F p _) Z H (yrr h l) (k.mut j a1 l G t (fun z=>by cases z) ⟨t,_,yP,A.app s⟩)
   .cases d
  .cases d
 .cases e
noncomputable def yhB (i:Nat):XE:=fun ρ h=>match ρ[i]? with|some (.own (.lst xs))=>some (.int xs.length,h)|_=>none
theorem yvb i:ycb K (tCB (yBk K.K) (yna (yqs i) ywC)) (yhB i):=by
 intro d W ρ Z Q x h' g e q;unfold yhB at e;split at e
 .rename_i xs b;cases e;obtain ⟨p,a1,a2,a3,a4,c,vs,hp,r⟩:=g.own i _ b;refine ⟨_,a1,p,vs,rfl,.inl (SqL.of hp),?_⟩;rw [r.len];exact q _ W rfl (.refl g.ok) rfl
 .cases e
end
end PX
namespace PX
open PySem L2
variable {K:Ck}
def Odd (K:Frag) (H:Hp):Prop:=∃ a o ob,H a=some o/\K.lookup a=some ob
inductive EqR (K:Frag) (H:Hp):Nat->V->V->Bool->Prop where
 | flat {n:Nat}{x y:V}(fx:ygr x=true) (fy:ygr y=true):EqR K H n x y (eqV x y)
 | same {n:Nat}{a:Addr}:EqR K H n (.ref a) (.ref a) true
 | odd {n:Nat}{x y:V}{b:Bool}(h:Odd K H):EqR K H n x y b
 | nt {n:Nat}{b:Addr}{ys:List V}(hb:SqT K H b ys):EqR K H (n+1) .non (.ref b) false
 | tn {n:Nat}{b:Addr}{ys:List V}(hb:SqT K H b ys):EqR K H (n+1) (.ref b) .non false
 | lst {n:Nat}{a b:Addr}{xs ys:List V}{e:Nat->Bool}(ha:H a=some (.lst xs)) (hb:H b=some (.lst ys)) (hl:xs.length=ys.length) (hne:a≠b) (he:∀ j x y,xs[j]?=some x->ys[j]?=some y->EqR K H n x y (e j)):EqR K H (n+1) (.ref a) (.ref b) ((List.range xs.length).all e)
 | lstN {n:Nat}{a b:Addr}{xs ys:List V}(ha:H a=some (.lst xs)) (hb:H b=some (.lst ys)) (hl:xs.length≠ys.length):EqR K H (n+1) (.ref a) (.ref b) false
 | tup {n:Nat}{a b:Addr}{xs ys:List V}{e:Nat->Bool}(ha:SqT K H a xs) (hb:SqT K H b ys) (hne:a≠b) (he:∀ j x y,xs[j]?=some x->ys[j]?=some y->EqR K H n x y (e j)):EqR K H (n+1) (.ref a) (.ref b) ((List.range (min xs.length ys.length)).all e && xs.length == ys.length)
inductive RcR (K:Frag) (H:Hp):V->V->Bool->Prop where
 | nt {b:Addr}{ys:List V}(hb:SqT K H b ys):RcR K H .non (.ref b) false
 | tn {b:Addr}{ys:List V}(hb:SqT K H b ys):RcR K H (.ref b) .non false
 | lst {a b:Addr}{xs ys:List V}{e:Nat->Bool}(ha:H a=some (.lst xs)) (hb:H b=some (.lst ys)) (hl:xs.length=ys.length) (he:∀ j x y,xs[j]?=some x->ys[j]?=some y->EqR K H 40 x y (e j)):RcR K H (.ref a) (.ref b) ((List.range xs.length).all e)
 | lstN {a b:Addr}{xs ys:List V}(ha:H a=some (.lst xs)) (hb:H b=some (.lst ys)) (hl:xs.length≠ys.length):RcR K H (.ref a) (.ref b) false
 | tup {a b:Addr}{xs ys:List V}{e:Nat->Bool}(ha:SqT K H a xs) (hb:SqT K H b ys) (he:∀ j x y,xs[j]?=some x->ys[j]?=some y->EqR K H 40 x y (e j)):RcR K H (.ref a) (.ref b) ((List.range (min xs.length ys.length)).all e && xs.length == ys.length)
noncomputable def yGI (K:Frag):R2:=fun x y H Q=>∃ b,RcR K H x y b/\Q (.bl b) H
noncomputable def yGJ (K:Frag):R2:=fun x y H Q=>∃ b,RcR K H x y b/\Q (.bl (!b)) H
noncomputable def ygU (f:PV->PV->Option Bool):List PV->List PV->Option Bool
 | x::xs,y::ys=>(match f x y,ygU f xs ys with|some b,some c=>some (b && c)|_,_=>none)
 | _,_=>some true
def pairE (f:PV->PV->Option Bool) (h:AH) (x y:PV):Option Bool:=match x,y with
 | .tup xs,.tup ys=>(match ygU f xs ys with|some b=>some (b && xs.length == ys.length)|none=>none)
 | .non,.tup _=>some false
 | .tup _,.non=>some false
 | x,y=>(match ybr x h,ybr y h with|some xs,some ys=>if xs.length=ys.length then ygU f xs ys else some false|_,_=>none)
def eqP:Nat->AH->PV->PV->Option Bool
 | 0,_,_,_=>none
 | n+1,h,x,y=>match sv x,sv y with
  | some u,some v=>some (eqV u v)
  | _,_=>pairE (eqP n h) h x y
theorem yku:∀ {v:V},ygr v=true->eqV v v=true
 | .non,_=>rfl
 | .bl b,_=>by cases b<;>rfl
 | .int i,_=>by show (i == i)=true;simp
 | .str s,_=>by show (s == s)=true;simp
noncomputable def unV:Value->Option V
 | .none=>some .non
 | .bool b=>some (.bl b)
 | .int i _=>some (.int i)
 | .str x _=>some (.str x)
 | .bytes b _=>some (.byt b)
 | .float b _=>some (.flt b)
 | .ref a=>some (.ref a)
 | .type n=>some (.ty n)
 | _=>none
theorem ywX:∀ {v:V}{u:Value},RelV v u->unV u=some v
 | .non,_,h=>by rw [h];rfl
 | .bl _,_,h=>by rw [h];rfl
 | .int _,_,⟨_,h⟩=>by rw [h];rfl
 | .str _,_,⟨_,h⟩=>by rw [h];rfl
 | .byt _,_,⟨_,h⟩=>by rw [h];rfl
 | .flt _,_,⟨_,h⟩=>by rw [h];rfl
 | .ref _,_,h=>by rw [h];rfl
 | .ty _,_,h=>by rw [h];rfl
theorem yyU (h1:RelV v u) (h2:RelV w u):v=w:=Option.some.inj ((ywX h1).symm.trans (ywX h2))
theorem yvc (h1:Vals vs us):Vals ws us->vs=ws:=by
 induction h1 generalizing ws with
 | nil=>intro h2;cases h2;rfl
 | cons r _ ih=>intro h2;cases h2 with|cons r2 t2=>rw [yyU r r2,ih t2]
theorem yCj (s:Same F H) (h1:TpAt K.K F a vs) (h2:TpAt K.K F a ws):vs=ws\/Odd K.K H:=by
 rcases h1 with h1|⟨o,its,n,e,i,h,k,g⟩
 .rcases h2 with h2|⟨o,its,n,e,i,h,k,g⟩
  .simp_all
  .exact .inr ⟨a,_,o,s _ _ h1,e⟩
 .rcases h2 with h2|⟨m,its',p,c,j,d,l,f⟩
  .exact .inr ⟨a,_,o,s _ _ h2,e⟩
  .rw [e] at c;cases c;rw [h] at d;cases d;exact .inl (yvc g f)
theorem yij (h:∀ x y v b,f x y=some b->ycO K W x v->ycO K W y v->b=true\/Odd K.K W.H):∀ {xs ys:List PV}{vs:List V}{c:Bool},ycL K W xs vs->ycL K W ys vs->ygU f xs ys=some c->c=true\/Odd K.K W.H
 | [],_,_,_,_,_,e=>by simp [ygU] at e;exact .inl e
 | _::_,[],_,_,_,_,e=>by simp [ygU] at e;exact .inl e
 | x::xs,y::ys,_,c,⟨v,r,l,h1,i⟩,⟨u,q,a,h2,k⟩,e=>by
  rw [l] at a;cases a;unfold ygU at e;cases j:f x y with
  | none=>simp_all
  | some b =>
   cases d:ygU f xs ys with
   | none=>simp_all
   | some c' =>
    rw [d] at e;rcases h x y _ b j h1 h2 with z|z
    .rcases yij h i k d with g|g
     .simp_all
     .exact .inr g
    .exact .inr z
theorem ypW (w:WOk K W) (q:∀ x y v b,f x y=some b->ycO K W x v->ycO K W y v->b=true\/Odd K.K W.H) (e:pairE f W.h x y=some b) (k:ycO K W x v) (l:ycO K W y v):b=true\/Odd K.K W.H:=by
 unfold pairE at e;split at e
 .rename_i xs ys;obtain ⟨a,vs,ev,n,m⟩:=k;obtain ⟨o,j,d,h,g⟩:=l;rw [ev] at d;cases d;rcases yCj w.le n h with z|z
  .subst z;cases p:ygU f xs ys with
   | none=>simp_all
   | some c =>
    rw [p] at e;cases e;rcases yij q m g p with z|z
    .left;rw [z,<- m.len,<- g.len];simp
    .exact .inr z
  .exact .inr z
 .obtain ⟨o,j,d,h,g⟩:=l;have k:=k;rw [k] at d;cases d
 .obtain ⟨o,j,d,h,g⟩:=k;have l:=l;rw [l] at d;cases d
 .split at e
  .rename_i xs ys r s;obtain ⟨a,vs,ev,n,m⟩:=ybg w r k;obtain ⟨o,j,d,h,g⟩:=ybg w s l;rw [ev] at d;cases d;rw [n] at h;cases h;rw [if_pos (by rw [<- m.len,<- g.len])] at e;exact yij q m g e
  .cases e
theorem ykv (w:WOk K W):∀ n x y v b,eqP n W.h x y=some b->ycO K W x v->ycO K W y v->b=true\/Odd K.K W.H
 | 0,_,_,_,_,e,_,_=>by cases e
 | n+1,x,y,v,b,e,c,g=>by
  unfold eqP at e;split at e
  .rename_i u h f d;cases e;rw [<- yfJ f c,<- yfJ d g];exact .inl (yku (by rw [yfJ f c];exact ykt f))
  .exact ypW w (ykv w n) e c g
theorem yik (hf:∀ x y v u b,f x y=some b->ycO K W x v->ycO K W y u->EqR K.K W.H n v u b):∀ {xs ys:List PV}{vs us:List V}{c:Bool},ycL K W xs vs->ycL K W ys us->ygU f xs ys=some c ->
  ∃ e:Nat->Bool,(∀ j v u,vs[j]?=some v->us[j]?=some u->EqR K.K W.H n v u (e j))/\c=(List.range (min vs.length us.length)).all e
 | [],_,_,_,c,h1,_,e=>by rw [show _=[] from h1];simp [ygU] at e;exact ⟨fun _=>true,fun j v u hv=>by simp at hv,by simp [e]⟩
 | _::_,[],_,_,c,_,h2,e=>by rw [show _=[] from h2];simp [ygU] at e;exact ⟨fun _=>true,fun j v u _ hu=>by simp at hu,by simp [e]⟩
 | x::xs,y::ys,_,_,c,⟨v,r,e1,h1,l1⟩,⟨u,q,e2,h2,l2⟩,e=>by
  subst e1 e2;unfold ygU at e;cases eb:f x y with
  | none=>rw [eb] at e;cases e
  | some b =>
   cases ec:ygU f xs ys with
   | none=>rw [eb,ec] at e;cases e
   | some c' =>
    rw [eb,ec] at e;cases e;obtain ⟨e',k1,k2⟩:=yik hf l1 l2 ec;refine ⟨fun j=>match j with|0=>b|j+1=>e' j,fun j v' u' hv hu=>?_,?_⟩
    .cases j with
     | zero =>
      simp at hv hu;subst hv hu;exact hf x y _ _ b eb h1 h2
     | succ j=>exact k1 j v' u' (by simpa using hv) (by simpa using hu)
    .rw [k2,length_cons,length_cons,show min (r.length+1) (q.length+1)=min r.length q.length+1 by omega,List.range_succ_eq_map,List.all_cons,List.all_map];rfl
theorem yoS (w:WOk K W):∀ (n:Nat) (x y:PV) (v u:V) (b:Bool),eqP n W.h x y=some b->ycO K W x v->ycO K W y u->EqR K.K W.H n v u b
 | 0,_,_,_,_,_,e,_,_=>by cases e
 | n+1,x,y,v,u,b,e,rx,ry=>by
  have e0:=e;unfold eqP at e;split at e
  .rename_i v' u' hv hu;cases e;rw [yfJ hv rx,yfJ hu ry];exact .flat (ykt hv) (ykt hu)
  .unfold pairE at e;split at e
   .rename_i xs ys _;obtain ⟨a,vs,ev,ha,ra⟩:=rx;obtain ⟨a',us,eu,ha',ra'⟩:=ry
    by_cases hab:a=a'
    .subst hab;rcases ykv w (n+1) _ _ v b e0 ⟨a,vs,ev,ha,ra⟩ (by rw [ev,<- eu];exact ⟨a,us,eu,ha',ra'⟩) with this|z
     .rw [this,ev,eu];exact .same
     .exact .odd z
    .cases ec:ygU (eqP n W.h) xs ys with
     | none=>rw [ec] at e;cases e
     | some c =>
      rw [ec] at e;cases e;obtain ⟨e',k1,k2⟩:=yik (yoS w n) ra ra' ec;rw [ev,eu,k2,<- ra.len,<- ra'.len];exact .tup (ydF w ha) (ydF w ha') hab k1
   .obtain ⟨a',us,eu,ha',ra'⟩:=ry;cases e;rw [show v=.non from rx,eu];exact .nt (ydF w ha')
   .obtain ⟨a',us,eu,ha',ra'⟩:=rx;cases e;rw [show u=.non from ry,eu];exact .tn (ydF w ha')
   .split at e
    .rename_i xs ys hx hy;obtain ⟨a,vs,ev,ha,ra⟩:=ybg w hx rx;obtain ⟨a',us,eu,ha',ra'⟩:=ybg w hy ry
     by_cases hab:a=a'
     .subst hab;rcases ykv w (n+1) _ _ v b e0 rx (by rw [ev,<- eu];exact ry) with this|z
      .rw [this,ev,eu];exact .same
      .exact .odd z
     .split at e
      .rename_i hl;obtain ⟨e',k1,k2⟩:=yik (yoS w n) ra ra' e;have hl':vs.length=us.length:=by rw [ra.len,ra'.len,hl]
       rw [ev,eu,k2,<- hl',Nat.min_self];exact .lst ha ha' hl' hab k1
      .rename_i hl;cases e;rw [ev,eu];exact .lstN ha ha' (by rw [ra.len,ra'.len];exact hl)
    .cases e
def yCk:P2:=fun x y h=>match pairE (eqP 40 h) h x y with|some b=>some (.bl b,h)|none=>none
def ynL:P2:=fun x y h=>match pairE (eqP 40 h) h x y with|some b=>some (.bl (!b),h)|none=>none
theorem yoT (w:WOk K W) (e:pairE (eqP 40 W.h) W.h x y=some b) (k:ycO K W x v) (m:ycO K W y u):RcR K.K W.H v u b:=by
 unfold pairE at e;split at e
 .rename_i xs ys;obtain ⟨a,vs,ev,l,i⟩:=k;obtain ⟨n,us,h,f,g⟩:=m;cases o:ygU (eqP 40 W.h) xs ys with
  | none=>simp_all
  | some c =>
   rw [o] at e;cases e;obtain ⟨q,k1,k2⟩:=yik (yoS w 40) i g o;rw [ev,h,k2,<- i.len,<- g.len];exact .tup (ydF w l) (ydF w f) k1
 .obtain ⟨n,us,h,f,g⟩:=m;cases e;rw [k,h];exact .nt (ydF w f)
 .obtain ⟨n,us,h,f,g⟩:=k;cases e;rw [m,h];exact .tn (ydF w f)
 .split at e
  .rename_i xs ys r p;obtain ⟨a,vs,ev,l,i⟩:=ybg w r k;obtain ⟨n,us,h,f,g⟩:=ybg w p m;split at e
   .rename_i hl;obtain ⟨q,k1,k2⟩:=yik (yoS w 40) i g e;have j:vs.length=us.length:=by rw [i.len,g.len,hl]
    rw [ev,h,k2,<- j,Nat.min_self];exact .lst l f j k1
   .rename_i hl;cases e;rw [ev,h];exact .lstN l f (by rw [i.len,g.len];exact hl)
  .cases e
theorem yFp:ycw K (yGI K.K) yCk:=by
 intro W x y v u Q z h' w d f e q;unfold yCk at e;split at e
 .rename_i b c;cases e;exact ⟨b,yoT w c d f,q _ W rfl (.refl w) rfl⟩
 .cases e
theorem yyV:ycw K (yGJ K.K) ynL:=by
 intro W x y v u Q z h' w rx ry e q;unfold ynL at e;split at e
 .rename_i b hb;cases e;exact ⟨b,yoT w hb rx ry,q _ W rfl (.refl w) rfl⟩
 .cases e
end PX
namespace PX
open PySem L2
variable {K:Ck}
def yfE:XS:=fun _ _=>none
theorem yvd:yeZ K ywv yfE:=fun _ _ _ _ _ _ _ _ e _=>by cases e
def yi (k:Nat) (m:Str) (f:Fn) (e:XE) (as:XA):XE:=fun ρ h=>ob (e ρ h) fun x h1=>match ygT x h1 with
 | some (k',ns,_)=>if k'=k/\m∉ns then ob (as ρ h1) fun ys h2=>f (x::ys) h2 else none
 | none=>none
theorem ymb (a:ycb K w o) (b:ymQ K t l) (M:∀ ρ h xs h',l ρ h=some (xs,h')->xs.length=n) :
  ycb K (yxT (K.A k) m (spE K (n+1) f) [] D w t) (yi k m f o l):=by
 intro A W ρ Z Q z h' g e q;obtain ⟨x,h1,I,d⟩:=yk e;refine a A W ρ Z _ x h1 g I fun v O L i r=>?_
 subst L;split at d
 .rename_i S ns xs N;split at d
  .rename_i y;obtain ⟨ys,h2,s,P⟩:=yk d;obtain ⟨p,B,vs,ev,hp,hl,R⟩:=ygs i.ok N r;rw [y.1] at hp;refine ⟨p,B,_,ev,hp,ydQ y.2,?_⟩;refine b A O ρ Z _ ys h2 (g.step i) s fun us G C j r2=>?_
   subst C;rw [append_nil];exact ⟨G,x::ys,z,h',rfl,j.ok,⟨v,us,rfl,j.rep r,r2⟩,by rw [length_cons,M _ _ _ _ s],P,fun u J H E F=>q u J H ((i.trans j).trans E) F⟩
  .cases d
 .cases d
def ydm (cs:List Nat) (f:Str) (eo ev:XE):XS:=fun ρ h=>ob (ev ρ h) fun y h1=>ob (eo ρ h1) fun x h2=>match x with
 | .loc n=>(match h2[n]? with|some (.ins k ns xs)=>if k∈cs/\ns.length<1000 then some (.nx ρ,h2.set n (.ins k (putN f y ns xs).1 (putN f y ns xs).2)) else none|_=>none)
 | _=>none
theorem yve (t:∀ k∈cs,Cls K.K (K.A k)/\NoAttr K.K (K.A k) f) (a:ycb K m A) (c:ycb K u ev):yeZ K (yEq K.K m u f) (ydm cs f A ev):=by
 intro B W ρ Z D o h' g e q;obtain ⟨y,h1,H,I⟩:=yk e;obtain ⟨x,h2,G,d⟩:=yk I;refine c B W ρ Z _ y h1 g H fun T P L C R=>?_
 subst L;refine a B P ρ Z _ x h2 (g.step C) G fun S j O h r2=>?_
 subst O;have w:=h.ok;split at d
 .rename_i n;split at d
  .rename_i k ns xs v;split at d
   .rename_i s;cases d;obtain ⟨p,ep,J,z,r,us,hp,hl,F⟩:=w.loc v r2;obtain ⟨i,Q,E,N⟩:=F.putN hl (h.rep R);refine ⟨p,_,r,_,ep,hp,(t k s.1).1,(t k s.1).2,by simp_all,?_⟩;rw [Q];have M:Le K j (ynI j n p _ (.ins k _ _)):=yga w v J z ⟨z,r,i,yP,E,N⟩;have l:=C.trans (h.trans M);exact q _ Z rfl l.lf (g.step l)
   .cases d
  .cases d
 .cases d
end PX
namespace PX
open PySem L2
variable {K:Ck}
noncomputable def ypX (r d:Addr):HO:=.ext fun h=>h.get? r=some { cls:=.type "dict_items",data:=.fields #[.ref d] }
def ywY:V->List V->Hp->VK->Prop:=fun x vs H Q=>∃ d kvs,x=.ref d/\vs=[]/\H d=some (.dK kvs)/\∀ r,H r=none->Q (.ref r) (upd H r (ypX r d))
noncomputable def yoU (H:Hp) (as:List Addr) (ts:List (List V)):Hp:=fun b=>match (as.zip ts).lookup b with|some t=>some (.tup t)|none=>H b
def yDW (H:Hp) (p:Addr) (as:List Addr) (ts:List (List V)):Hp:=upd (yoU H as ts) p (.lst (as.map V.ref))
def rSI:List V->Hp->VK->Prop:=fun xs H Q=>∃ (r d:Addr) (kvs:List (Key×V)) (ns:List Int),xs=[.ref r]/\H r=some (ypX r d)/\H d=some (.dK kvs)/\kvs.map (·.1)=ns.map .inl/\kvs.length<5 /\
 ∀ (p:Addr) (as:List Addr) (q:List Nat),q.Perm (List.range ns.length)->q.Pairwise (fun i j=>ns.getD i 0<=ns.getD j 0)->ns.Nodup->as.length=q.length->(∀ a∈p::as,H a=none)->(p::as).Nodup ->
  Q (.ref p) (yDW H p as (q.map fun i=>[V.int (ns.getD i 0),(kvs.map (·.2)).getD i .non]))
noncomputable def ynM (p:Int×PV):List (Int×PV)->List (Int×PV)
 | []=>[p]
 | q::r=>if p.1<=q.1 then p::q::r else q::ynM p r
def yjk:List (Int×PV)->List (Int×PV)
 | []=>[]
 | p::r=>ynM p (yjk r)
noncomputable def yrP:List Key->Option (List Int)
 | []=>some []
 | .inl i::r=>(yrP r).map (i::·)
 | .inr _::_=>none
theorem yoV:∀ {ks:List Key}{ns:List Int},yrP ks=some ns->ks=ns.map .inl
 | [],ns,h=>by cases h;rfl
 | .inl i::r,ns,h=>by obtain ⟨m,e,rfl⟩:=Option.map_eq_some_iff.mp h;rw [map_cons,<- yoV e]
 | .inr _::_,_,h=>by cases h
theorem yil (p:Int×PV):∀ l,(ynM p l).Perm (p::l)
 | []=>.refl _
 | q::r=>by
  unfold ynM;split
  .exact .refl _
  .exact ((yil p r).cons q).trans (.swap _ _ _)
theorem ygV:∀ l,(yjk l).Perm l
 | []=>.refl _
 | p::r=>(yil p _).trans ((ygV r).cons p)
theorem yrQ:∀ {l:List _},l.Pairwise (fun a b=>a.1<=b.1)->(ynM p l).Pairwise fun a b=>a.1<=b.1
 | [],_=>List.pairwise_singleton _ _
 | q::r,h=>by
  obtain ⟨h1,h2⟩:=List.pairwise_cons.mp h;unfold ynM;split
  .rename_i e;exact List.pairwise_cons.mpr ⟨fun b d=>by
    rcases mem_cons.mp d with rfl|d
    .exact e
    .exact Int.le_trans e (h1 b d),h⟩
  .refine List.pairwise_cons.mpr ⟨fun b d=>?_,yrQ h2⟩;rcases mem_cons.mp ((yil p r).mem_iff.mp d) with rfl|d
   .omega
   .exact h1 b d
theorem yoW:∀ l,(yjk l).Pairwise fun a b=>a.1<=b.1
 | []=>.nil
 | _::r=>yrQ (yoW r)
theorem yvf {ns:List Int}{xs:List PV}{q:List Nat}(hl:xs.length=ns.length) (hp:q.Perm (List.range ns.length)) (hs:q.Pairwise fun i j=>ns.getD i 0<=ns.getD j 0) (l:ns.Nodup) :
  (q.map fun i=>(ns.getD i 0,xs.getD i .non))=yjk (ns.zip xs):=by
 have hz:((List.range ns.length).map fun i=>(ns.getD i 0,xs.getD i .non))=ns.zip xs:=by
  apply List.ext_getElem
  .simp [hl]
  simp_all
 have k:(q.map fun i=>(ns.getD i 0,xs.getD i .non)).Perm (ns.zip xs):=by rw [<- hz];exact hp.map _
 refine List.Perm.eq_of_pairwise (fun a b h g h1 h2=>?_) (List.pairwise_map.mpr hs) (yoW _) (k.trans (ygV _).symm);have h:=k.mem_iff.mp h;have g:=(ygV _).mem_iff.mp g;obtain ⟨i,n,rfl⟩:=getElem_of_mem h;obtain ⟨j,m,rfl⟩:=getElem_of_mem g;have f:i<ns.length:=by grind
 have d:j<ns.length:=by grind
 have e:ns[i]=ns[j]:=by have:=Int.le_antisymm h1 h2;simpa using this
 have:=yjH l f d e;subst this;rfl
def yGK (W:Wd) (as:List Addr) (ts:List (List V)):Wd:=⟨yoU W.F as ts,yoU W.H as ts,W.m,W.h⟩
theorem lookup_mem {Y:Type}:∀ {as:List Addr}{ts:List Y}{b:Addr}{t:Y},(as.zip ts).lookup b=some t->b∈as
 | [],_,_,_,h=>by simp at h
 | _::_,[],_,_,h=>by simp at h
 | a::as,u::ts,b,t,h=>by
  rw [zip_cons_cons,lookup_cons] at h;split at h
  .rename_i hb;rw [eq_of_beq hb];exact mem_cons_self
  .exact mem_cons_of_mem _ (lookup_mem h)
theorem ygW (h:b∉c):yoU H c ts b=H b:=by
 unfold yoU;split
 .rename_i e;exact absurd (lookup_mem e) h
 .rfl
theorem yyW (w:WOk K W) (h:∀ a∈g,W.H a=none):Le K W (yGK W g ts):=by
 have nm:=fun a k=>w.out (h a k)
 have m:Same W.F (yoU W.F g ts):=fun b o e=>by rw [ygW fun z=>by rw [w.ff (h b z)] at e;cases e];exact e
 have l:Same W.H (yoU W.H g ts):=fun b o e=>by rw [ygW fun z=>by simp_all];exact e
 refine ⟨⟨?_,w.len,w.nd,fun n d a j i=>?_⟩,m,prefix_refl _,fun b u e _=>l b u e,fun b u e _ f=>?_,fun b z n=>absurd z n,fun n ks xs j=>⟨j,fun a i=>ygW fun z=>nm a z (mem_of_getElem? i)⟩⟩
 .intro b u e;have e:yoU W.F g ts b=some u:=e;show yoU W.H g ts b=some u;unfold yoU at e ⊢;split at e
  .exact e
  .exact w.le _ _ e
 .have k:=fun z=>nm a z (mem_of_getElem? i)
  exact (w.at_ n d a j i).mono m (prefix_refl _) (fun u e=>l _ _ e) fun f=>(ygW k).trans f
 .exact (ygW fun z=>by simp_all).trans f
theorem ymc {F:Hp}{m:List Addr}{Y:Nat->PV}{T:Nat->List V}{Z:Nat->List PV}(n:∀ i,Y i=.tup (Z i)):∀ (d:List Addr) (q:List Nat),d.length=q.length->d.Nodup->(∀ a∈d,∀ i,i∈q->(d.zip (q.map T)).lookup a=some (T i)->F a=some (.tup (T i))) ->
  (∀ i∈q,RepL K F m (Z i) (T i))->RepL K F m (q.map Y) (d.map V.ref)
 | [],[],_,_,_,_=>rfl
 | [],_::_,h,_,_,_=>by cases h
 | _::_,[],h,_,_,_=>by cases h
 | a::d,i::q,hl,p,g,k=>by
  obtain ⟨r,o⟩:=List.nodup_cons.mp p;refine ⟨_,_,rfl,?_,ymc n d q (by simpa using hl) o (fun b l j f e=>?_) fun j f=>k j (mem_cons_of_mem _ f)⟩
  .rw [n];exact ⟨a,T i,rfl,.inl (g a mem_cons_self i mem_cons_self (by simp)),k i mem_cons_self⟩
  .refine g b (mem_cons_of_mem _ l) j (mem_cons_of_mem _ f) ?_;rw [map_cons,zip_cons_cons,lookup_cons];have:(b == a)=false:=beq_eq_false_iff_ne.mpr fun z=>r (z ▸ l)
   rw [this];exact e
def sortI (ks:List Key) (xs:List PV):Option (List PV):=match yrP ks with|some ns=>if ns.length<5 then some ((yjk (ns.zip xs)).map fun p=>.tup [.int p.1,p.2]) else none|none=>none
def yim (e:XE):XO:=fun ρ h=>ob (e ρ h) fun x h1=>match ylX x h1 with|some (ks,xs)=>(match sortI ks xs with|some l=>some (.lst l,h1)|none=>none)|none=>none
theorem ywZ (w:WOk K W) (e:ylX x W.h=some (ks,xs)) (r:ycO K W x v):tyV K.K "dict" v W.H:=by obtain ⟨a,vs,rfl,hp,_⟩:=ylY w e r;exact .inr (.inr (.inl ⟨rfl,.inl ⟨_,hp⟩⟩))
theorem yrR (a:ycb K N J):ylR K (tCB rSI (yna (yEt K.K "dict" ywY N) ywC)) (yim J):=by
 intro Y W ρ b Q z h' g e q;obtain ⟨x,h1,e1,n⟩:=yk e;refine a Y W ρ b _ x h1 g e1 fun v G w1 s O=>?_
 subst w1;split at n
 .rename_i ks xs M;split at n
  .rename_i l hl;cases n;refine ⟨ywZ s.ok M O,?_⟩;obtain ⟨d,vs,ev,hp,hvl,R⟩:=ylY s.ok M O;subst ev;refine ⟨d,_,rfl,rfl,hp,fun r L=>?_⟩;unfold sortI at hl;split at hl
   .rename_i ns y;split at hl
    .rename_i S;cases hl;have y:=yoV y;have k:=ydE (o:=ypX r d) s.ok L;have hnl:ks.length=ns.length:=by simp_all
     have C:xs.length=ns.length:=by rw [<- R.len];omega
     refine ⟨r,d,ks.zip vs,ns,rfl,yP,(yR (ybJ hp L)).trans hp,by rw [List.map_fst_zip (by omega),y],by simp_all,fun p t o f hs X D c E=>?_⟩;rw [List.map_snd_zip (by omega)];generalize m:yic G r (ypX r d)=B at k;have F:B.H=upd G.H r (ypX r d):=by rw [<- m];rfl
     rw [<- F] at c ⊢;have j:=yyW (ts:=o.map fun i=>[V.int (ns.getD i 0),vs.getD i .non]) k.ok fun a P=>c a (mem_cons_of_mem _ P)
     obtain ⟨n1,n2⟩:=List.nodup_cons.mp E;have h:(yGK B t (o.map fun i=>[V.int (ns.getD i 0),vs.getD i .non])).H p=none:=(ygW n1).trans (c p mem_cons_self);have I:=ydE (o:=.lst (t.map V.ref)) j.ok h;have l:=k.trans (j.trans I);have A:∀ i∈o,i<ns.length:=fun i w=>by have:=f.mem_iff.mp w;simpa using this
     refine q p _ (by rw [<- m];rfl) (s.trans l) (j.ok.out h) ((s.trans k).fresh (c p mem_cons_self)) (fun z=>by cases z) ⟨j.ok.ff h,_,yP,?_⟩;rw [<- yvf C f hs X,map_map];refine ymc (T:=fun i=>[V.int (ns.getD i 0),vs.getD i .non]) (Z:=fun i=>[.int (ns.getD i 0),xs.getD i .non]) (fun i=>rfl) t o D n2 (fun a P i w e=>?_) fun i w=>⟨_,_,rfl,rfl,_,_,rfl,?_,rfl⟩
     .show yoU B.F t _ a=_;unfold yoU;rw [e]
     .have hi':=A i w;obtain ⟨u,U,h4⟩:=(k.trans (j.trans I)).repL R |>.get (List.getElem?_eq_getElem (show i<xs.length by omega));have e5:xs.getD i .non=xs[i]'(by omega):=by simp [getD,List.getElem?_eq_getElem (show i<xs.length by omega)]
      have e6:vs.getD i .non=u:=by simp [getD,U]
      rw [e5,e6];exact h4
    .cases hl
   .cases hl
  .cases n
 .cases n
end PX
namespace PX
open PySem L2
variable {K:Ck}
def ItR (K:Frag) (a:Addr) (m:Nat):It :=
 ⟨fun i H=>i<m/\∃ xs x,SqL K H a xs/\xs[m-1-i]?=some x,fun i H x H'=>H'=H/\∀ xs,SqL K H a xs->xs[m-1-i]?=some x,fun i _=>i=m⟩
def yGL (K:Frag) (tl:TE):TI:=fun Z H R=>tl Z H fun x H1=>∃ a xs,x=.ref a/\SqL K H1 a xs/\R (ItR K a xs.length) H1
def yjl (n:Nat) (rev:Bool) (g:XG) (s:XS):Nat->Nat->PSt->AH->Option (Out×AH)
 | 0,i,ρ,h=>match h[n]? with|some (.lst xs)=>if xs.length=i then some (.nx ρ,h) else none|_=>none
 | k+1,i,ρ,h=>match h[n]? with
  | some (.lst xs)=>(match xs[if rev then k else i]? with
   | some x=>(g x ρ).bind fun ρ1=>ob (s ρ1 h) fun o h1=>match o with|.nx ρ'=>yjl n rev g s k (i+1) ρ' h1|.ct ρ'=>yjl n rev g s k (i+1) ρ' h1|.bk ρ'=>some (.nx ρ',h1)|.rt y=>some (.rt y,h1)
   | none=>none)
  | _=>none
def ygX (rev:Bool) (e:XE) (g:XG) (s:XS):XS:=fun ρ h=>ob (e ρ h) fun x h1=>match x with
 | .loc n=>(match h1[n]? with|some (.lst xs)=>yjl n rev g s xs.length 0 ρ h1|_=>none)
 | _=>none
structure ItX (K:Ck) (n:Nat) (rev:Bool) (m:Nat) (a:Addr) (J:It):Prop where
 go:∀ (i:Nat) (H:Hp) (vs:List V) (v:V),H a=some (.lst vs)->i<m->vs[if rev then m-1-i else i]?=some v->J.go i H
 yld:∀ (i:Nat) (H:Hp) (vs:List V) (v:V) (H2:Hp),H a=some (.lst vs)->i<m->J.yld i H v H2->H2=H/\vs[if rev then m-1-i else i]?=some v
 stop:∀ (H:Hp) (vs:List V),H a=some (.lst vs)->vs.length=m->J.stop m H
section
variable {ta:TE}{ea:XE}{t:TS}{s:XS}
theorem yCl (f:yjl n rev y s (k+1) i ρ h=some (o,h')):∃ ys x ρ1 o1 h1,h[n]?=some (.lst ys)/\ys[if rev then k else i]?=some x/\y x ρ=some ρ1/\s ρ1 h=some (o1,h1)/\FNext (fun ρ h=>yjl n rev y s k (i+1) ρ h=some (o,h')) o h' o1 h1:=by
 unfold yjl at f;split at f
 .split at f
  .obtain ⟨ρ1,k1,f⟩:=Option.bind_eq_some_iff.mp f;obtain ⟨o1,h2,k2,f3⟩:=yk f;exact ⟨_,_,_,_,_,‹_›,‹_›,k1,k2,.of f3 fun _=>id⟩
  .cases f
 .cases f
theorem yCm (f:yjl n rev y s 0 i ρ h=some (o,h')):∃ ys,h[n]?=some (.lst ys)/\ys.length=i/\some (Out.nx ρ,h)=some (o,h'):=by
 unfold yjl at f;split at f
 .split at f
  .exact ⟨_,‹_›,‹_›,f⟩
  .cases f
 .cases f
theorem ymd {xs:List PV}(b:ypQ K g y) (c:yeZ K t s) (gd:Good K W0 W ρ Y) (l1:Le K W W1) (q:Ends.Ok K W0 W D h' o)
  (f1:yjl n rev y s xs.length 0 ρ W1.h=some (o,h')) (hn:W1.h[n]?=some (.lst xs)) (hm:W1.m[n]?=some p) (rs:ycL K W1 xs us) (J1:ItX K n rev us.length p J) :
  ∃ Z:Nat->Nat->St->Hp->Prop,(∃ m,Z 0 m Y W1.H)/\∀ i m Y H,Z i m Y H ->
   (J.stop i H/\D.nx Y H)\/(J.go i H/\∃ N:St->Hp->Prop,(∀ Y' H',N Y' H'->∃ m',m'<m/\Z (i+1) m' Y' H')/\∀ x H',J.yld i H x H'->g x Y H' fun Y2 H2=>t { D with nx:=N,ct:=N,bk:=D.nx } Y2 H2):=by
 rw [rs.len] at J1;have at':∀ {W':Wd}{ys},Lf K W1 W'->WOk K W'->W'.h[n]?=some (.lst ys)->∃ vs,W'.H p=some (.lst vs)/\ycL K W' ys vs:=fun l w hy=>by obtain ⟨p',ev',_,_,vs,z⟩:=w.loc hy (v:=.ref p) ⟨p,rfl,yeF l.pre hm⟩;cases ev';exact ⟨vs,z⟩
 refine yru b c xs.length (fun i ρ h=>yjl n rev y s (xs.length-i) i ρ h=some (o,h')) (gd.step l1) (q.from_ l1.lf) f1 (fun i W' ρ' l w hlt f=>?_) fun W' ρ' l w f=>?_
 .rw [<- Nat.sub_add_cancel (Nat.sub_pos_of_lt hlt)] at f;obtain ⟨ys,x,ρ1,o1,h1,hy,hz,k1,k2,f⟩:=yCl f;rw [Nat.sub_right_comm] at hz;obtain ⟨vs,hp,rs'⟩:=at' l w hy;obtain ⟨vz,hv1,hv2⟩:=rs'.get hz;refine ⟨J1.go i W'.H vs vz hp hlt hv1,x,ρ1,o1,h1,k1,k2,f,fun v H2 hy=>?_⟩;obtain ⟨e2,hx⟩:=J1.yld i W'.H vs v H2 hp hlt hy;cases hv1.symm.trans hx;exact ⟨W',e2.symm,rfl,.refl w,hv2⟩
 .rw [sub_self] at f;obtain ⟨ys,hy,hyl,f⟩:=yCm f;obtain ⟨vs,hp,rs'⟩:=at' l w hy;exact ⟨J1.stop W'.H vs hp (by rw [rs'.len,hyl]),f⟩
theorem yFq:ItX K n false m a (Itl K.K a) where
 go:=fun i H vs v h _ e=>⟨vs,v,SqL.of h,e⟩
 yld:=fun i H vs v c h _ e=>⟨e.1,e.2 vs (SqL.of h)⟩
 stop:=fun H vs h e=>⟨vs,SqL.of h,le_of_eq e⟩
theorem yFr:ItX K n true m a (ItR K.K a m) where
 go:=fun i H vs v h c e=>⟨c,vs,v,SqL.of h,e⟩
 yld:=fun i H vs v d h _ e=>⟨e.1,e.2 vs (SqL.of h)⟩
 stop:=fun H vs h e=>rfl
theorem yvg (a:ycb K ta ea) (b:ypQ K g y) (c:yeZ K t s):yeZ K (yBd (ytU K.K ta) g t) (ygX false ea y s):=by
 intro u W ρ Z D o h' j e q;obtain ⟨x,h1,n,f⟩:=yk e;refine a u W ρ Z _ x h1 j n fun v z r h l=>?_
 subst r;split at f
 .split at f
  .rename_i xs i;obtain ⟨p,ev,k,w,us,hp,m⟩:=h.ok.loc i l;exact ⟨p,ev,⟨us,SqL.of hp⟩,ymd b c j h q f i k m yFq⟩
  .cases f
 .cases f
theorem yvh (a:ycb K ta ea) (b:ypQ K g y) (c:yeZ K t s):yeZ K (yBd (yGL K.K ta) g t) (ygX true ea y s):=by
 intro u W ρ Z D o h' j e q;obtain ⟨x,h1,n,f⟩:=yk e;refine a u W ρ Z _ x h1 j n fun v z r h l=>?_
 subst r;split at f
 .split at f
  .rename_i xs i;obtain ⟨p,ev,k,w,us,hp,m⟩:=h.ok.loc i l;exact ⟨p,us,ev,SqL.of hp,ymd b c j h q f i k m yFr⟩
  .cases f
 .cases f
end
end PX
namespace PX
open PySem L2
variable {K:Ck}
def yFs (kvs more:List (Key×V)):List (Key×V):=more.foldl (fun acc kv=>putK acc kv.1 kv.2) kvs
def yGM:V->List V->Hp->VK->Prop:=fun x vs H Q=>∃ d o kvs more,x=.ref d/\vs=[.ref o]/\d≠o/\H d=some (.dK kvs)/\H o=some (.dK more)/\kvs.length+more.length<=sizeLine/\Q .non (upd H d (.dK (yFs kvs more)))
def yje:List Key->List PV->List Key->List PV->List Key×List PV
 | j::js,y::ys,ks,xs=>yje js ys (ydA ks xs j y).1 (ydA ks xs j y).2
 | _,_,ks,xs=>(ks,xs)
def yrS:PV->AH->Bool:=fun x h=>(ylX x h).isSome
theorem yvi (w:WOk K W) (r:ycO K W x v) (c:yrS x W.h=true):tyV K.K "dict" v W.H:=by obtain ⟨⟨ks,xs⟩,a⟩:=Option.isSome_iff_exists.mp c;exact ywZ w a r
theorem yrT:∀ {js:List Key}{ys:List PV}{us:List V}{ks:List Key}{xs:List PV}{vs:List V},RepL K F m ys us->us.length=js.length->RepL K F m xs vs->vs.length=ks.length ->
  ∃ ws,yFs (ks.zip vs) (js.zip us)=(yje js ys ks xs).1.zip ws/\ws.length=(yje js ys ks xs).1.length/\RepL K F m (yje js ys ks xs).2 ws
 | [],ys,us,ks,xs,vs,r,hl,r2,c=>by
  obtain rfl:us=[]:=List.length_eq_zero_iff.mp (by simpa using hl);cases ys with
  | cons y ys=>obtain ⟨v,n,e,_⟩:=r;cases e
  | nil=>exact ⟨vs,rfl,c,r2⟩
 | j::js,[],us,ks,xs,vs,r,hl,r2,c=>by obtain rfl:us=[]:=r;cases hl
 | j::js,y::ys,_,ks,xs,vs,⟨u,us,e,d,i⟩,hl,r2,c=>by
  subst e;have key:∃ ws,putK (ks.zip vs) j u=(ydA ks xs j y).1.zip ws/\ws.length=(ydA ks xs j y).1.length/\RepL K F m (ydA ks xs j y).2 ws:=by
   have b:=yoP j u ks vs c;unfold ydA
   by_cases f:yrL ks j=true
   .rw [if_pos f] at b ⊢;exact ⟨_,b,by rw [ykq];exact c,r2.setK ks j d⟩
   .rw [if_neg f] at b ⊢;exact ⟨_,b,by simp_all,r2.snoc d⟩
  obtain ⟨ws,l,k,h⟩:=key;have g:=yrT i (by simpa using hl) h k;show ∃ ws,yFs (putK _ j u) _=_/\_;rw [l];exact g
def yCn:PM:=fun x ys h=>match x,ys with|.loc n,[.loc k]=>(match h[n]?,h[k]? with|some (.dct ks xs),some (.dct js zs)=>if n≠k/\ks.length+js.length<1000 then some (.non,h.set n (.dct (yje js zs ks xs).1 (yje js zs ks xs).2)) else none|_,_=>none)|_,_=>none
theorem yFt:yji K "dict" yrS yGM yCn:=by
 refine ⟨fun W x v w r c=>yvi w r c,fun W x v xs vs Q z h' w rx r e q=>?_⟩;unfold yCn at e;split at e
 .rename_i n k;split at e
  .rename_i ks xs js zs hn hk;split at e
   .rename_i hc;cases e;obtain ⟨u,rfl,ru⟩:=ynC r;obtain ⟨a,ev,hm,hf,us,hp,hl,rs⟩:=w.loc hn rx;obtain ⟨b,ev2,hm2,hf2,us2,hp2,hl2,rs2⟩:=w.loc hk ru;have hne:a≠b:=fun z=>by subst z;obtain ⟨l1,q1⟩:=List.getElem?_eq_some_iff.mp hm;obtain ⟨l2,q2⟩:=List.getElem?_eq_some_iff.mp hm2;exact hc.1 (yjH w.nd l1 l2 (q1.trans q2.symm))
    obtain ⟨ws,p1,p2,p3⟩:=yrT rs2 hl2 rs hl;refine ⟨a,b,_,_,ev,by rw [ev2],hne,hp,hp2,by rw [length_zip,length_zip];exact small (by omega),?_⟩;rw [p1];exact q .non (ynI W n a (.dK ((yje js zs ks xs).1.zip ws)) (.dct (yje js zs ks xs).1 (yje js zs ks xs).2)) rfl (yga w hn hm hf ⟨hf,_,yP,p2,p3⟩) rfl
   .cases e
  .cases e
 .cases e
end PX
namespace PX
open PySem L2
variable {K:Ck}
noncomputable def ynN:Key->PV|.inl i=>.int i|.inr s=>.str s
theorem yrU k:ycO K W (ynN k) (kV k):=by cases k<;>exact rfl
def ItD (a:Addr) (ob:Obj) (kvs:List (Key×V)):It :=
 ⟨fun i H=>i<kvs.length/\H a=some (.frz ob (.dK kvs)),fun i H x H'=>H'=H/\∃ kv,kvs[i]?=some kv/\x=kV kv.1,fun i H=>i=kvs.length/\H a=some (.frz ob (.dK kvs))⟩
def yCo (NF:Addr->Prop) (te:TE):TI:=fun Z H R=>te Z H fun x H1=>∃ a kvs,x=.ref a/\H1 a=some (.dK kvs)/\∀ ob,NF a->R (ItD a ob kvs) (upd H1 a (.frz ob (.dK kvs)))
theorem yyX (w:WOk K W) (e:W.h[n]?=some d) (hm:W.m[n]?=some a) (hF:W.F a=none) (at':NdAt K W.F (upd W.H a o) W.m d' a):WOk K (ynI W n a o d'):=by
 have hn:n<W.h.length:=(List.getElem?_eq_some_iff.mp e).1;refine ⟨fun b u q=>?_,by show W.m.length=(W.h.set n d').length;rw [length_set];exact w.len,w.nd,fun j dj b e1 e2=>?_⟩
 .have:b≠a:=ybJ q hF;exact (yR this).trans (w.le _ _ q)
 .have e1:(W.h.set n d')[j]?=some dj:=e1
  by_cases hj:n=j
  .subst hj;rw [getElem?_set_self hn] at e1;cases e1;have e2:W.m[n]?=some b:=e2;rw [hm] at e2;cases e2;exact at'
  .rw [getElem?_set_ne hj] at e1;have e2:W.m[j]?=some b:=e2;have hb:b≠a:=fun z=>by subst z;obtain ⟨l1,q1⟩:=List.getElem?_eq_some_iff.mp hm;obtain ⟨l2,q2⟩:=List.getElem?_eq_some_iff.mp e2;exact hj (yjH w.nd l1 l2 (q1.trans q2.symm))
   exact (w.at_ j dj b e1 e2).mono (Same.refl _) (prefix_refl _) (fun u q=>(yR hb).trans q) id
theorem yyY {e f:Wd}(w:WOk K f) (pre:e.m <+: f.m) (fz:∀ (n:Nat) ks xs,e.h[n]?=some (.fz ks xs)->f.h[n]?=some (.fz ks xs)/\∀ a,e.m[n]?=some a->f.H a=e.H a)
  (q:f.m[n]?=some a) (r:∀ ks xs,e.h[n]?≠some (.fz ks xs)) (j:Nat) ks xs (i:e.h[j]?=some (.fz ks xs)) :
  (ynI f n a o d).h[j]?=some (.fz ks xs)/\∀ b,e.m[j]?=some b->(ynI f n a o d).H b=e.H b:=by
 obtain ⟨h1,h2⟩:=fz j ks xs i;have k:n≠j:=fun z=>by subst z;exact r _ _ i
 refine ⟨(getElem?_set_ne k).trans h1,fun b g=>(yR fun z=>?_).trans (h2 b g)⟩;subst z;obtain ⟨s,m⟩:=List.getElem?_eq_some_iff.mp q;obtain ⟨l,p⟩:=List.getElem?_eq_some_iff.mp (yeF pre g);exact k (yjH w.nd s l (m.trans p.symm))
theorem yyZ (l:Le K h f) (e:f.h[n]?=some d) (g:f.m[n]?=some a) (k:f.F a=none) (at':NdAt K f.F (upd f.H a o) f.m d' a) (j:∀ ks xs,h.h[n]?≠some (.fz ks xs)):Le K h (ynI f n a o d') where
 ok:=yyX l.ok e g k at'
 fs:=l.fs
 pre:=l.pre
 keep:=fun b u q i=>by
  have:b≠a:=fun z=>by subst z;rw [l.mn b (mem_of_getElem? g) i] at q;cases q
  exact (yR this).trans (l.keep b u q i)
 new:=l.new
 mn:=l.mn
 fz:=yyY l.ok l.pre l.fz g j
theorem yCp {W b:Wd}(l:Le K W b) {n:Nat}{d:Nd}(e:b.h[n]?=some d) (c:∀ ks xs,d≠.fz ks xs) ks xs:W.h[n]?≠some (.fz ks xs):=fun z=>by have:=(l.fz n ks xs z).1;rw [e] at this;simp_all
end PX
namespace PX
open PySem L2
variable {K:Ck}
def spJ (K:Ck) (n k:Nat) (f:List PV->AH->Option (Nd×AH)):Sp:=fun vs H Q _=>∃ (W0 W:Wd) (x:Addr) (args:List V) (xs:List PV) (d:Nd) (h':AH),vs=.ref x::args/\W.H=H/\Le K W0 W/\W0.H x=none/\x∉W.m/\NdAt K W.F W.H W.m (.ins k [] []) x /\
 ycL K W xs args/\xs.length=n/\f xs W.h=some (d,h')/\∀ W',W'.h=h'->Lf K W W'->Le K W0 W'->x∉W'.m->d≠.dead->NdAt K W'.F W'.H W'.m d x->Q .non W'.H
theorem yza {f} {Q:VK}(h:spJ K n k f vs H Q E):vs.length=n+1:=by obtain ⟨b,W,x,args,xs,d,h',rfl,_,_,_,_,_,r,a,_⟩:=h;rw [length_cons,r.len,a]
theorem yrV {N:List Str}{Q:VK}(hN:n+1<=N.length) (a:ytJ K t s) (h:spJ K n k (ymT N.length k s) vs H Q E):t ⟨fun _ H'=>Q .non H',Q,bk,ct⟩ (L2.start N vs) H:=by
 obtain ⟨W0,W,x,args,xs,d,h',rfl,rfl,le,hx,hm,at_,r,hn,e,q⟩:=h;obtain ⟨o,h1,e1,f1⟩:=yk e;have gs:=ygS (K:=K) (N:=N.drop 1) le.ok r;have g:Good K W0 W (.own (.ins k [] [])::(xs.map .val++replicate (N.length-(xs.length+1)) .no)) (L2.start N (.ref x::args)):=by
  have es:L2.start N (.ref x::args)=some (.ref x)::L2.start (N.drop 1) args:=by
   have e3:N.length-(args.length+1)=(N.drop 1).length-args.length:=by rw [length_drop];omega
   unfold L2.start;rw [map_cons,List.cons_append,length_cons,e3]
  have eN:N.length-(xs.length+1)=(N.drop 1).length-xs.length:=by rw [length_drop];omega
  rw [es,eN];have noown:∀ (j:Nat) (d:Nd),(xs.map PVar.val++replicate ((N.drop 1).length-xs.length) .no)[j]?≠some (.own d):=fun j d z=>by
   by_cases hj:j<xs.length
   .rw [getElem?_append_left (by simpa using hj),getElem?_map,List.getElem?_eq_getElem hj] at z;cases z
   .rw [getElem?_append_right (by simp;omega),getElem?_replicate] at z;split at z<;>cases z
  refine ⟨le,by rw [length_cons,length_cons,gs.len],fun j y z=>?_,fun j d z=>?_,fun i j d d' hij z z'=>?_⟩
  .cases j with
   | zero=>cases z
   | succ j=>exact gs.val j y z
  .cases j with
   | zero=>cases z;exact ⟨x,rfl,hm,hx,(fun z=>by cases z),at_⟩
   | succ j=>exact absurd z (noown j d)
  .cases i with
   | zero =>
    cases j with
    | zero=>exact absurd rfl hij
    | succ j=>exact absurd z' (noown j d')
   | succ i=>exact absurd z (noown i d)
 cases o with
 | rt y=>cases f1
 | bk ρ=>cases f1
 | ct ρ=>cases f1
 | nx ρ =>
  refine a W0 W _ ρ _ _ h1 g e1 fun W' ew lf g'=>?_
  dsimp only at f1;split at f1
  .rename_i d' hd';cases f1;obtain ⟨p,b1,b2,b3,b4,b5⟩:=g'.own 0 _ hd';have b1:some (some (V.ref x))=some (some (V.ref p)):=b1;cases b1;exact q W' ew lf g'.le b2 b4 b5
  .cases f1
noncomputable def yCq:PVar->Bool|.own _=>false|_=>true
def xBI (k:Nat) (f:List PV->AH->Option (Nd×AH)) (a:XA):XS:=fun ρ h=>match ρ with
 | .own (.ins k' [] [])::r=>if k'=k/\r.all yCq=true then ob (a ρ h) fun xs h1=>ob (f xs h1) fun d h2=>(match d with|.dead=>none|d=>some (.nx (.own d::r),h2)) else none
 | _=>none
theorem yzb {f} (a:ymQ K t aa) (hn:∀ ρ h xs h',aa ρ h=some (xs,h')->xs.length=n):ytJ K (yqD (yub (spJ K n k f) [] E (yna (yqs 0) t))) (xBI k f aa):=by
 intro W0 W ρ ρ' Z D h' g e q;unfold xBI at e;split at e
 .rename_i k' r;split at e
  .rename_i c;obtain ⟨rfl,hr⟩:=c;obtain ⟨xs,h1,e1,f1⟩:=yk e;obtain ⟨d,h2,e2,f2⟩:=yk f1;have nodead:d≠.dead:=fun z=>by subst z;cases f2
   have f2:some (Out.nx (.own d::r),h2)=some (.nx ρ',h'):=by cases d<;>first|exact f2|cases f2
   cases f2;obtain ⟨p,b1,b2,b3,b4,b5⟩:=g.own 0 _ rfl;refine ⟨.ref p,b1,?_⟩;refine a W0 W _ Z _ xs h1 g e1 fun vs W1 w1 l1 r1=>?_
   subst w1;have g1:=g.step l1;obtain ⟨p',c1,c2,c3,c4,c5⟩:=g1.own 0 _ rfl;rw [b1] at c1;cases c1;rw [append_nil];refine ⟨W0,W1,p,vs,xs,d,h',rfl,rfl,g1.le,c3,c2,c5,r1,hn _ _ _ _ e1,e2,fun W2 w2 lf le hm hd at_=>?_⟩;refine q W2 w2 (l1.lf.trans lf) ⟨le,g1.len,fun j y z=>?_,fun j d' z=>?_,fun i j d1 d2 hij z1 z2=>?_⟩
   .cases j with
    | zero=>cases z
    | succ j =>
     obtain ⟨v,z1,z2⟩:=g1.val (j+1) y z;exact ⟨v,z1,lf.rep z2⟩
   .cases j with
    | zero=>cases z;exact ⟨p,b1,hm,c3,hd,at_⟩
    | succ j =>
     have z:r[j]?=some (.own d'):=z;have:=List.all_eq_true.mp hr _ (mem_of_getElem? z);cases this
   .cases i with
    | zero =>
     cases j with
     | zero=>exact absurd rfl hij
     | succ j =>
      have z:r[j]?=some (.own d2):=z2;have:=List.all_eq_true.mp hr _ (mem_of_getElem? z);cases this
    | succ i =>
     have z:r[i]?=some (.own d1):=z1;have:=List.all_eq_true.mp hr _ (mem_of_getElem? z);cases this
  .cases e
 .cases e
theorem yvj {ss:List Str}(h:KTp K.K a (ss.map V.str)):ycb K (tC (.ref a)) (xC (.tup (ss.map PV.str))):=by
 intro c W ρ Z Q x h' g e q;cases e;refine q _ W rfl (.refl g.ok) ⟨a,_,rfl,.inr h,?_⟩;clear h q
 induction ss with
 | nil=>exact rfl
 | cons s ss ih=>exact ⟨_,_,rfl,rfl,ih⟩
end PX
namespace PX
open PySem L2
variable {K:Ck}
noncomputable def yrW (c:Nat):List Nat->List (List Nat)
 | []=>[[]]
 | k::r=>if k=c then []::yrW c r else match yrW c r with|[]=>[[k]]|w::ws=>(k::w)::ws
theorem yme:∀ {w:List Nat},c∉w->yrW c w=[w]
 | [],_=>rfl
 | k::r,h=>by
  have h1:k≠c:=fun z=>h (z ▸ mem_cons_self ..)
  unfold yrW;rw [if_neg h1,yme fun z=>h (mem_cons_of_mem _ z)]
theorem yoX:∀ {w r:List Nat},c∉w->yrW c (w++c::r)=w::yrW c r
 | [],r,_=>by show (if c=c then []::yrW c r else _)=_;rw [if_pos rfl]
 | k::w,r,h=>by
  have h1:k≠c:=fun z=>h (z ▸ mem_cons_self ..)
  show (if k=c then []::yrW c _ else match yrW c (w++c::r) with|[]=>[[k]]|w::ws=>(k::w)::ws)=_;rw [if_neg h1,yoX fun z=>h (mem_cons_of_mem _ z)]
def yxa (z:Str):List Str:=(yrW 32 z.cps.toList).map fun w=>⟨w.toArray⟩
theorem yin:∀ ws,ws≠[]->(∀ w∈ws,32∉w.cps.toList)->yxa (Str.join " " ws)=ws
 | [],h,_=>absurd rfl h
 | [w],_,h=>by have h1:=yme (h w (List.mem_singleton.mpr rfl));show (yrW 32 w.cps.toList).map _=_;rw [h1];rfl
 | w::v::r,_,h=>by
  have c:=yin _ (fun z=>by cases z) fun u d=>h u (mem_cons_of_mem _ d)
  show yxa (w++" "++Str.join " " _)=_;have e:(w++" "++Str.join " " (v::r)).cps.toList=w.cps.toList++32::(Str.join " " (v::r)).cps.toList:=by show (w.cps++(" ":Str).cps++(Str.join " " _).cps).toList=_;rw [show (" ":Str).cps = #[32] by rfl'];simp
  unfold yxa at c ⊢;rw [e,yoX (h w (mem_cons_self ..)),map_cons,c]
def yxb:V->List V->Hp->VK->Prop:=fun x vs H Q=>∃ z:Str,x=.str z/\vs=[.str " "]/\z.length<=100000/\∀ p,H p=none->Q (.ref p) (upd H p (.lst ((yxa z).map V.str)))
def yoY:PM:=fun x xs h=>match x,xs with|.str z,[.str y]=>if y = " "/\z.length<=100000 then some (.lst ((yxa z).map .str),h) else none|_,_=>none
theorem RepL.of_strs:∀ (ts:List Str),RepL K F m (ts.map PV.str) (ts.map V.str)
 | []=>rfl
 | _::ts=>⟨_,_,rfl,rfl,RepL.of_strs ts⟩
theorem m_split:yji K "str" isStr yxb yoY:=by
 refine ⟨fun W x v w r c=>?_,fun W x v xs vs Q z h' w f r e q=>?_⟩
 .unfold isStr at c;split at c
  .rw [r];rfl
  .cases c
 .unfold yoY at e;split at e
  .rename_i z y;split at e
   .rename_i c;cases e;obtain ⟨u,rfl,d⟩:=ynC r;refine ⟨z,f,by rw [d,c.1],c.2,fun p hp=>?_⟩;have b:=yrl (o:=.lst ((yxa z).map V.str)) w hp;exact q _ (yyn W p _) rfl b ⟨p,_,rfl,yP,RepL.of_strs _⟩
   .cases e
  .cases e
theorem yzc {z:Str}(e:z.length<=100000):yoY (.str z) [.str " "] h=some (.lst ((yxa z).map .str),h):=by exact if_pos ⟨rfl,e⟩
variable {t:TS}{s:XS}
end PX
namespace PX
open PySem L2
variable {K:Ck}
mutual
noncomputable def clean:PV->Bool
 | .loc _=>false
 | .lst xs=>yoZ xs
 | .tup xs=>yoZ xs
 | .ins _ _ xs=>yoZ xs
 | _=>true
noncomputable def yoZ:List PV->Bool
 | []=>true
 | x::xs=>clean x && yoZ xs
end
noncomputable def yrX (f:PV->Option PV):List PV->Option (List PV)
 | []=>some []
 | x::xs=>match f x,yrX f xs with|some y,some ys=>some (y::ys)|_,_=>none
def see:Nat->AH->PV->Option PV
 | 0,_,x=>if clean x=true then some x else none
 | n+1,h,x=>match x with
  | .loc m=>(match h[m]? with|some (.lst xs)=>(yrX (see n h) xs).map .lst|some (.ins k ns xs)=>(yrX (see n h) xs).map (.ins k ns)|_=>none)
  | x=>if clean x=true then some x else none
variable {t:TA}{e:XA}
end PX
namespace PX
open PySem L2
variable {K:Ck}
theorem yFu (l1:Le K W W1) (hm:p∉W1.m) (hn:W.H p=none) (at_:NdAt K W1.F W1.H W1.m d p):Le K W ⟨W1.F,W1.H,W1.m++[p],W1.h++[d]⟩/\ycO K ⟨W1.F,W1.H,W1.m++[p],W1.h++[d]⟩ (.loc W1.h.length) (.ref p):=by
 have pre:W1.m <+: W1.m++[p]:=List.prefix_append _ _;refine ⟨⟨⟨l1.ok.le,?_,?_,fun n d' a e1 e2=>?_⟩,l1.fs,l1.pre.trans pre,l1.keep,l1.new,fun b z n=>?_,fun n ks xs e1=>⟨by have:=(l1.fz n ks xs e1).1;show (W1.h++[d])[n]?=_;rw [getElem?_append_left (List.getElem?_eq_some_iff.mp this).1];exact this,(l1.fz n ks xs e1).2⟩⟩,⟨p,rfl,?_⟩⟩
 .show (W1.m++[p]).length=(W1.h++[d]).length;rw [length_append,length_append,l1.ok.len];rfl
 .show (W1.m++[p]).Nodup;rw [List.nodup_append];refine ⟨l1.ok.nd,by simp,?_⟩;intro a ha b hb;simp at hb;subst hb;exact fun z=>hm (z ▸ ha)
 .have e1:(W1.h++[d])[n]?=some d':=e1;have e2:(W1.m++[p])[n]?=some a:=e2
  by_cases hlt:n<W1.h.length
  .rw [getElem?_append_left hlt] at e1;rw [getElem?_append_left (by rw [l1.ok.len];exact hlt)] at e2;exact (l1.ok.at_ n d' a e1 e2).mono (Same.refl _) pre (fun _ f1=>f1) id
  .rw [getElem?_append_right (by omega)] at e1;rw [getElem?_append_right (by rw [l1.ok.len];omega)] at e2;rw [l1.ok.len] at e2;cases hk:n-W1.h.length with
   | zero =>
    rw [hk] at e1 e2;simp at e1 e2;subst e1 e2;exact at_.mono (Same.refl _) pre (fun _ f1=>f1) id
   | succ k=>rw [hk] at e1;simp at e1
 .have z:b∈W1.m++[p]:=z;rcases List.mem_append.mp z with z|z
  .exact l1.mn b z n
  .simp at z;subst z;exact hn
 .show (W1.m++[p])[W1.h.length]?=some p;rw [<- l1.ok.len];simp
def yfe (k:Nat) (f:Fn) (a:XA):XE:=fun ρ h=>ob (a ρ h) fun xs h1=>ob (f (.loc h1.length::xs) (h1++[.ins k [] []])) fun x h2=>match x with|.non=>some (.loc h1.length,h2)|_=>none
theorem ynO:yfe k f b ρ h=ob (b ρ h) fun xs h1=>ob (f (.loc h1.length::xs) (h1++[.ins k [] []])) fun x h2=>match x with|.non=>some (.loc h1.length,h2)|_=>none:=id rfl
theorem yrY (a:ymQ K t e) (hn:∀ ρ h xs h',e ρ h=some (xs,h')->xs.length=n):ycb K (yuc (K.A k) (spE K (n+1) f) [] ex t) (yfe k f e):=by
 intro W0 W ρ Z Q z h' g e' q;obtain ⟨xs,h1,e1,e2⟩:=yk e';obtain ⟨y,h2,e3,e4⟩:=yk e2;refine a W0 W ρ Z _ xs h1 g e1 fun vs W1 w1 l1 r1=>?_
 subst w1;intro x dx hx hd hne;rw [append_nil];have a1:Le K W1 (yic W1 dx (.own x)):=ydE l1.ok hd;have hx1:(yic W1 dx (.own x)).H x=none:=(yR hne.symm).trans hx;have a2:Le K (yic W1 dx (.own x)) (yic (yic W1 dx (.own x)) x (.ins (K.A k) dx [])):=ydE a1.ok hx1;obtain ⟨a3,r3⟩:=yFu (d:=.ins k [] []) (a1.trans a2) (l1.ok.out hx) hx ⟨l1.ok.ff hx,dx,[],yP,rfl,rfl⟩;refine ⟨⟨W1.F,upd (upd W1.H dx (.own x)) x (.ins (K.A k) dx []),W1.m++[x],W1.h++[Nd.ins k [] []]⟩,.loc W1.h.length::xs,y,h2,rfl,a3.ok,⟨_,_,rfl,r3,a3.repL r1⟩,by rw [length_cons,hn _ _ _ _ e1],e3,fun v W' w' l' r'=>?_⟩;split at e4
 .cases e4;exact ⟨r',q (.ref x) W' w' (l1.trans (a3.trans l')) (l'.rep r3)⟩
 .cases e4
noncomputable def yGN:List V->Hp->VK->Prop:=fun xs H Q=>∃ (p:Addr) (bs:List Bool),xs=[.ref p]/\H p=some (.lst (bs.map V.bl))/\Q (.bl (bs.any id)) H
def yxc:List PV->AH->Option (PV×AH):=fun xs h=>match xs with|[x]=>(match ybr x h with|some ys=>(match ykk ys with|some ns=>some (.bl (ns.any id),h)|none=>none)|none=>none)|_=>none
theorem yCr:yib K yGN yxc:=by
 intro W xs vs Q z h' w r e q;unfold yxc at e;split at e
 .split at e
  .rename_i ys f;split at e
   .rename_i ns d;cases e;obtain ⟨v,rfl,g⟩:=ynC r;obtain ⟨a,us,rfl,hs,c⟩:=ybg w f g;have:=yig d c;subst this;exact ⟨a,ns,rfl,hs,q _ W rfl (.refl w) rfl⟩
   .cases e
  .cases e
 .cases e
def yio (n:Nat) (e:XE) (inn:PV->PSt):Nat->Nat->AH->Option (List PV×AH)
 | 0,i,h=>match h[n]? with|some (.lst xs)=>if xs.length=i then some ([],h) else none|_=>none
 | k+1,i,h=>match h[n]? with
  | some (.lst xs)=>(match xs[i]? with|some x=>ob (e (inn x) h) fun y h1=>ob (yio n e inn k (i+1) h1) fun ys h2=>some (y::ys,h2)|none=>none)
  | _=>none
def ydB (e:XE) (ix:List Nat) (el:XE):XO:=fun ρ h=>ob (e ρ h) fun x h1=>match x with
 | .loc n=>(match h1[n]? with|some (.lst xs)=>if xs.length<=10000 then ob (yio n el (yfC ix ρ) xs.length 0 h1) fun ys h2=>some (.lst ys,h2) else none|_=>none)
 | _=>none
theorem yCs (f:yio n e inn (k+1) i h=some (r,h')):∃ ys z y h1 r',h[n]?=some (.lst ys)/\ys[i]?=some z/\e (inn z) h=some (y,h1)/\yio n e inn k (i+1) h1=some (r',h')/\r=y::r':=by
 unfold yio at f;split at f
 .split at f
  .obtain ⟨y,h3,k1,f3⟩:=yk f;obtain ⟨ys',h4,k2,f4⟩:=yk f3;cases f4;exact ⟨_,_,_,_,_,‹_›,‹_›,k1,k2,rfl⟩
  .cases f
 .cases f
theorem yxd (f:yio n e inn 0 i h=some (r,h')):∃ ys,h[n]?=some (.lst ys)/\ys.length=i/\r=[]/\h=h':=by
 unfold yio at f;split at f
 .split at f
  .cases f;exact ⟨_,‹_›,‹_›,rfl,rfl⟩
  .cases f
 .cases f
theorem yvk (f:ydB e ix el ρ h=some (d,h')):∃ n h1 xs zs,e ρ h=some (.loc n,h1)/\h1[n]?=some (.lst xs)/\xs.length<=10000/\yio n el (yfC ix ρ) xs.length 0 h1=some (zs,h')/\d=.lst zs:=by
 obtain ⟨x,h1,e1,f⟩:=yk f;split at f
 .split at f
  .split at f
   .obtain ⟨zs,h2,e2,f2⟩:=yk f;cases f2;exact ⟨_,_,_,_,e1,‹_›,‹_›,e2,rfl⟩
   .cases f
  .cases f
 .cases f
theorem yrZ (ix:List Nat) (a:ycb K ta ea) (b:ycb K tb eb):ylR K (ypI (ytU K.K ta) ix tb) (ydB ea ix eb):=by
 intro W0 W ρ Z Q d h' gd e q;obtain ⟨n,h1,xs,zs,e1,hn,hlen,e2,rfl⟩:=yvk e;refine a W0 W ρ Z _ _ h1 gd e1 fun v W1 w1 l1 r1=>?_
 subst w1;obtain ⟨p,ev,hm,hf,us,hp,rs⟩:=l1.ok.loc hn r1;have at':∀ {W':Wd}{ys},Le K W1 W'->W'.h[n]?=some (.lst ys)->∃ vs,SqL K.K W'.H p vs/\ycL K W' ys vs:=fun l hy=>by obtain ⟨p',ev',_,_,vs,hp',rs'⟩:=l.ok.loc hy (v:=.ref p) ⟨p,rfl,yeF l.pre hm⟩;cases ev';exact ⟨vs,SqL.of hp',rs'⟩
 refine ⟨p,ev,⟨us,SqL.of hp⟩,fun D hD=>yBz (ynz xs.length (fun i h r=>yio n eb (yfC ix ρ) (xs.length-i) i h=some (r,h')) l1.ok (Nat.le_trans hlen (by decide)) hD e2 (fun i W' r l hlt f=>?_) (fun W' r l f=>?_) fun W' acc l f n1 n2 hd rd=>?_)⟩
 .rw [<- Nat.sub_add_cancel (Nat.sub_pos_of_lt hlt)] at f;obtain ⟨ys,z,y,h3,r',hy,hz,k1,k2,rfl⟩:=yCs f;obtain ⟨vs,s,rs'⟩:=at' l hy;obtain ⟨vz,hv1,hv2⟩:=rs'.get hz;refine ⟨⟨vs,vz,s,hv1⟩,fun v H2 hy k g hk _=>?_⟩;obtain ⟨rfl,hx⟩:=hy;cases hv1.symm.trans (hx vs s);exact b W' W' _ _ _ y h3 (yhO gd (l1.trans l) ix hv2) k1 fun w W2 w2 l2 r2=>hk w y r' W2 l2 rfl r2 (w2 ▸ k2)
 .rw [sub_self] at f;obtain ⟨ys,hy,hyl,rfl,_⟩:=yxd f;obtain ⟨vs,s,rs'⟩:=at' l hy;exact ⟨rfl,vs,s,by rw [rs'.len,hyl];exact Nat.le_refl _⟩
 .rw [sub_self] at f;obtain ⟨_,_,_,_,e3⟩:=yxd f;exact q D W' e3 (l1.trans l) n1 (l1.fresh hD) (fun z=>by cases z) ⟨n2,acc,hd,rd⟩
end PX
namespace PX
open PySem L2
variable {K:Ck}
def yjI (e:XE) (ix:List Nat) (el:XE):XO:=fun ρ h=>ob (e ρ h) fun x h1=>match x with
 | .loc n=>(match h1[n]? with|some (.dct ks xs)=>if ks.length<=10000 then ob (yll el (yfC ix ρ) (ks.map ynN) (h1.set n (.fz ks xs))) fun ys h2=>some (.lst ys,h2.set n (.dct ks xs)) else none|_=>none)
 | _=>none
def yxe (NF:Addr->Prop) (te:TE) (ix:List Nat) (tb:TE):TE:=fun Z H Q=>ypI (yCo NF te) ix tb Z H fun v H'=>∃ a ob kvs,NF a/\H' a=some (.frz ob (.dK kvs))/\Q v (upd H' a (.dK kvs))
theorem yvl (f:yjI e ix el ρ h=some (d,h')):∃ n h1 ks xs zs h2,e ρ h=some (.loc n,h1)/\h1[n]?=some (.dct ks xs)/\ks.length<=10000/\yll el (yfC ix ρ) (ks.map ynN) (h1.set n (.fz ks xs))=some (zs,h2)/\d=.lst zs/\h'=h2.set n (.dct ks xs):=by
 obtain ⟨x,h1,e1,f⟩:=yk f;split at f
 .split at f
  .split at f
   .obtain ⟨zs,h2,e2,f2⟩:=yk f;cases f2;exact ⟨_,_,_,_,_,_,e1,‹_›,‹_›,e2,rfl,rfl⟩
   .cases f
  .cases f
 .cases f
theorem ysa {NF:Addr->Prop}(ix:List Nat) (a:ycb K ta ea) (b:ycb K tb eb):ylR K (yxe NF ta ix tb) (yjI ea ix eb):=by
 intro W0 W ρ Z Q d h' gd e q;obtain ⟨n,h1,ks,xs,zs,h2,e1,hn,hlen,e2,rfl,rfl⟩:=yvl e;refine a W0 W ρ Z _ _ h1 gd e1 fun v W1 w1 l1 r1=>?_
 subst w1;obtain ⟨p,ev,hm,hf,us,hp,hl,rs⟩:=l1.ok.loc hn r1;have hzl:(ks.zip us).length=ks.length:=by rw [length_zip,hl,Nat.min_self]
 refine ⟨p,ks.zip us,ev,hp,fun ob nf=>?_⟩;have lf:Le K W1 (ynI W1 n p (.frz ob (.dK (ks.zip us))) (.fz ks xs)):=yga l1.ok hn hm hf ⟨hf,ob,us,yP,hl,rs⟩;have still:∀ {W'},Le K (ynI W1 n p (.frz ob (.dK (ks.zip us))) (.fz ks xs)) W'->W'.h[n]?=some (.fz ks xs)/\W'.H p=some (.frz ob (.dK (ks.zip us))):=fun l =>
  have z:=l.lf.fz n ks xs (getElem?_set_self (List.getElem?_eq_some_iff.mp hn).1)
  ⟨z.1,(z.2 p hm).trans yP⟩
 have dn:∀ {h r},yll eb (yfC ix ρ) ((ks.map ynN).drop ks.length) h=some (r,h2)->r=[]/\h=h2:=fun f=>by rw [List.drop_of_length_le (by rw [length_map];exact Nat.le_refl _)] at f;cases f;exact ⟨rfl,rfl⟩
 refine fun D hD=>yBz (ynz (W1:=ynI W1 n p (.frz ob (.dK (ks.zip us))) (.fz ks xs)) ks.length (fun i h r=>yll eb (yfC ix ρ) ((ks.map ynN).drop i) h=some (r,h2)) lf.ok (Nat.le_trans hlen (by decide)) hD e2 (fun i W' r l hlt f=>?_) (fun W' r l f=>⟨(dn f).1,hzl.symm,(still l).2⟩) fun W' acc l f n1 n2 hd rd=>?_)
 .refine ⟨⟨hzl ▸ hlt,(still l).2⟩,fun v H2 hy k g hk _=>?_⟩;obtain ⟨rfl,kv,y1,rfl⟩:=hy;obtain ⟨y4,y5⟩:=List.getElem?_eq_some_iff.mp y1;rw [List.drop_eq_getElem_cons (by rw [length_map];exact hlt),List.getElem_map,show ks[i]=kv.1 by rw [<- y5,List.getElem_zip]] at f;obtain ⟨y,h3,k1,f3⟩:=yk f;obtain ⟨ys,h4,k2,f4⟩:=yk f3;cases f4;exact b W' W' _ _ _ y h3 (yhO gd ((l1.trans lf).trans l) ix (yrU kv.1)) k1 fun w W3 w3 l3 r3=>hk w y ys W3 l3 rfl r3 (w3 ▸ k2)
 .cases (dn f).2;obtain ⟨z1,z2⟩:=still l;have hm':W'.m[n]?=some p:=yeF l.pre hm;have z3:=(l.ok.at_ n _ p z1 hm').1;exact ⟨p,ob,ks.zip us,nf,z2,q D (ynI W' n p (.dK (ks.zip us)) (.dct ks xs)) rfl (yyZ ((l1.trans lf).trans l) z1 hm' z3 ⟨z3,us,yP,hl,RepL.mono (lf.fs.trans l.fs) (lf.pre.trans l.pre) _ _ rs⟩ (yCp l1 hn fun _ _ z=>by cases z)) n1 ((l1.trans lf).fresh hD) (fun z=>by cases z) ⟨n2,acc,(yR fun z=>by subst z;exact n1 (mem_of_getElem? hm')).trans hd,rd⟩⟩
end PX
namespace L2
open PySem PySem.Spec PyProof.Rows PX
def PTs (X:Cx) (cs:List Expr) (t:TT):Prop :=
 ∀ (pins:List (Addr×Obj)) (s:Shared) (Z:St) (H:Hp) (Q:Bool->Hp->Prop),Inv X pins Z H s->t Z H Q->wpAny (model X.prog X.w) X.A (forIn cs true fun c r=>if r=true then do let ok <- isTrue c X.env (eval c X.env);pure (ForInStep.yield ok) else pure (ForInStep.yield r)) (TP X pins Z Q) X.xe s
def yDX:TT:=fun _ H Q=>Q true H
theorem PTs.nil:PTs X [] yDX:=fun p s Z H Q I q=>wpAny_tests_nil ⟨H,I,q⟩
theorem ysb:yjB a ix yDX te=ypI a ix te:=rfl
theorem yzd (h:PE X e (yjB b ix yDX te)):PE X e (ypI b ix te):=ysb ▸ h
theorem yFv (h:PS X e (yww (yjB b ix yDX te) g)):PS X e (yww (ypI b ix te) g):=ysb ▸ h
def ysc (J:It) (g:TG) (k:Nat) (tc:TT) (te:TE) (bs:L2.St) (D:Addr) (Q:VK) (H:Hp):Prop:=∃ W:Nat->Nat->Hp->Prop,(∃ m,W 0 m H)/\∀ i m H,W i m H ->
 (J.stop i H/\Q (.ref D) H)\/(J.go i H/\∀ x H',J.yld i H x H'->∀ os:L2.St,os.length=k->g x (os++bs) H' fun Z2 H2=>(∃ os2:L2.St,os2.length=k/\Z2=os2++bs)/\tc Z2 H2 fun b H1=>if b=true then te Z2 H1 fun y H3=>∃ acc,H3 D=some (.lst acc)/\acc.length<sizeLine/\∃ m',m'<m/\W (i+1) m' (upd H3 D (.lst (acc++[y]))) else ∃ m',m'<m/\W (i+1) m' H1)
theorem ysd {Q:VK}(h:ywO J tc te (inner ix Z) D Q H):ysc J (ypB 0) 1 tc te (ix.map fun i=>Z[i]?.getD none) D Q H:=by
 obtain ⟨W,w0,t⟩:=h;refine ⟨W,w0,fun i m H w=>(t i m H w).imp id fun z=>⟨z.1,fun x c y os b=>?_⟩⟩
 match os,b with
 | [o],_=>exact ⟨⟨[some x],rfl,rfl⟩,z.2 x c y⟩
theorem ymf {X:Cx}{elt iter tg:Expr}{cs:List Expr}{tc:TT}{xs:List Str}{gt:TG}{R:It->Hp->Prop}{scope:Scope}{O:Pos}{wi:TI}{te:TE}(ix:List Nat) (L:List Str) (hc:X.calm=true) (hi:PI X tg iter wi) (hfr:FrOk X scope ix L)
  (hg:∀ (t:List (Str×Addr)) (C:Addr) (B:Shared) (E:Hp) (fp:List Addr) (g:List (Addr×Obj)),PG (cxC X scope t C (xs++L) B E fp g) tg gt)
  (he:∀ (t:List (Str×Addr)) (C:Addr) (B:Shared) (E:Hp) (fp:List Addr) (g:List (Addr×Obj)),PE (cxC X scope t C (xs++L) B E fp g) elt te)
  (hq:∀ (t:List (Str×Addr)) (C:Addr) (B:Shared) (E:Hp) (fp:List Addr) (g:List (Addr×Obj)),PTs (cxC X scope t C (xs++L) B E fp g) cs tc)
  (G:scope.kind=.function) (N:∀ y∈scope.names,y.2≠.cell)
  (hnames:∀ y∈scope.names,y.2=.local->scope.names.lookup y.1=some .local) (hfree0:∀ y∈scope.names,y.2=.free->y.1∈L)
  (hs:∀ v,foldedSetIterable iter X.env v=pure v)
  {g:List (Addr×Obj)}{s:Shared}{K:St}{H:Hp}{Qf:VK}{use:Option (Value->Sem Unit)}{QQ:Value->Shared->Prop}{p2:Pos}(I:Inv X g K H s) (h:wi K H R) (hR:∀ J H1,R J H1->∀ D,H1 D=none->ysc J gt xs.length tc te (ix.map fun i=>(K[i]?).getD none) D Qf (upd H1 D (.lst [])))
  (fin0:∀ {t:List (Str×Addr)}{C:Addr}{s3:Shared}{F:Hp}{fp:List Addr},Inv X g K F s3->(∀ b∈fp,ytT X g F b)->s3.heap.objs.size=C->∀ {D:Addr}{K':St}{H':Hp}{s':Shared},Inv (cxC X scope t C (xs++L) s3 F fp g) [] K' H' s'->Qf (.ref D) H'->compPost (model X.prog X.w) X.A X.xe use QQ (.ref D) C (.ok .next) s') :
  wpAny (model X.prog X.w) X.A (comprehension (.ListComp elt [⟨tg,iter,cs,0⟩] scope O) scope X.env p2 (newList []) false (eval iter X.env) use) QQ X.xe s:=by
 have hfn:X.env.scope.kind=.function:=I.ok.kind;have Y:∀ y∈scope.names,y.2=.free->X.env.kindOf y.1=some .cell/\scope.names.lookup y.1=some .free:=fun y M e=>by obtain ⟨j,hj,ej⟩:=getElem_of_mem (hfree0 y M e);obtain ⟨i,_,_,h3,h4⟩:=hfr.get (j:=j) (y:=y.1) (by rw [List.getElem?_eq_getElem hj,ej]);exact ⟨h4,h3⟩
 obtain ⟨t,ecl,P,hcl2⟩:=yfc (env:=X.env) scope.names [] fun n hn=>I.ok.has n (.inl (Y _ hn rfl).1)
 have hclos:closureFor scope X.env=pure t:=by
  unfold closureFor;have:(forIn scope.names ([]:List (Str×Addr)) (fun (x:Str×NameKind) (r:List (Str×Addr))=>if (x.2 == NameKind.free)=true then do let c <- cellOf X.env x.1;pure (ForInStep.yield ((x.1,c)::r)) else pure (ForInStep.yield r)):Sem (List (Str×Addr)))=pure t:=ecl
  first
   | exact (by simpa using congrArg (· >>= fun r=>pure r) this)
   | (rw [show (pure t:Sem (List (Str×Addr)))=(pure t >>= fun r=>pure r) from rfl,<- this];rfl)
 have A:∀ y c,t.lookup y=some c->X.env.cells.lookup y=some c/\(y,NameKind.free)∈scope.names:=fun y c e=>by
  by_cases M:(y,NameKind.free)∈scope.names
  .exact ⟨by rw [<- P y M];exact e,M⟩
  .rw [hcl2 y M] at e;simp at e
 refine wpAny_comprehension_free rfl hs hclos G hnames ?_;refine thn (hi g s K H _ I h) fun v s1 h1=>thn h1 fun itv s2 h2=>?_
 obtain ⟨it,fp,tn,J,H2,e,I2,T,st2,f2,q2⟩:=h2;subst e;refine wpAny_newObj_type ?_;generalize hs3:({ s2 with heap:=s2.heap.push { cls:=.type "list",dict:=none,data:=.seq ([]:List Value).toArray } }:Shared)=s3;generalize hD:s2.heap.objs.size=D;have hDn:H2 D=none:=by rw [<- hD];exact I2.hok.fresh (Nat.le_refl _)
 have w:Inv X g K (upd H2 D (.lst [])) s3:=by rw [<- hs3,<- hD];exact I2.lnew (t':=s2.toks) (ys:=[]) (its:=[]) .nil (zero_le _)
 have k3:∀ b o,s2.heap.get? b=some o->s3.heap.get? b=some o:=fun b o e=>by rw [<- hs3];exact Heap.get?_push_of_some _ e
 have st3:tn 0 s3.heap:=T.keep _ _ _ st2 fun b _ o e=>k3 b o e
 have fne:∀ b∈fp,b≠D:=fun b q=>by obtain ⟨o,e,_⟩:=T.obj _ _ st2 b q;rw [<- hD];exact ne_of_lt (Heap.lt_size e)
 have U:∀ b∈fp,ytT X g (upd H2 D (.lst [])) b:=fun b q=>⟨by rw [yR (fne b q)];exact (f2 b q).1,(f2 b q).2⟩
 have q3:=hR _ _ q2 D hDn;generalize upd H2 D (.lst [])=F at w U q3;obtain ⟨W,⟨m0,w0⟩,turn⟩:=q3;refine wpAny_newFunctionEnv N (by intro y M;simp at M) (fun h4 hns hsb=>?_) G
 try dsimp only at hns hsb ⊢
 generalize hC:s3.heap.objs.size=C at hns hsb ⊢;have k4:∀ b o,s3.heap.get? b=some o->h4.get? b=some o:=fun b o e=>(hsb.2 b (by rw [<- hC];exact ne_of_lt (Heap.lt_size e))).trans (Heap.get?_push_of_some _ e)
 have Cne:∀ b o,s3.heap.get? b=some o->b≠C:=fun b o e=>by rw [<- hC];exact ne_of_lt (Heap.lt_size e)
 have stk:=w.stkSub;have pinF:∀ p∈X.pn++g,p.1∉frs X.stack:=fun p hp z=>by
  obtain ⟨_,_,n1,n2,_⟩:=w.pin p hp;rcases mem_cons.mp (stk _ z) with z|z
  .exact n1 z
  .exact n2 z
 have okC:(cxC X scope t C (xs++L) s3 F fp g).Ok:=by
  refine ⟨w.ok.mod,by show (relabel scope X.env).kind=_;exact G,w.ok.glob,w.ok.blt,le_of_eq hC,fun y z c h1 h2=>w.ok.inj y z c (A y c h1).1 (A z c h2).1,fun y M=>?_,fun y c hf _=>(by cases hf),w.ok.hd,w.ok.frames,.inl rfl,fun b q=>⟨?_,fun y c e z=>?_⟩,w.bs,?_,fun b o e q=>?_,fun b q z=>?_,w.stack,w.stkFree⟩
  .have M:((relabel scope X.env).names.lookup y=some .cell)\/((relabel scope X.env).names.lookup y=some .free):=M;rw [show (relabel scope X.env).names.lookup y=_ from yeq y scope.names] at M;cases e:scope.names.lookup y with
   | none=>rw [e] at M;simp at M
   | some k =>
    have hm:(y,k)∈scope.names:=PySem.mem_of_lookup e;have hkf:k=.free:=by rw [e] at M;cases k<;>simp at M ⊢;exact absurd rfl (N _ hm)
    subst hkf;obtain ⟨c,hc'⟩:=w.ok.has y (.inl (Y _ hm rfl).1);exact ⟨c,by show t.lookup y=_;rw [P y hm];exact hc'⟩
  .obtain ⟨o,e,_⟩:=T.obj _ _ st3 b q;exact Cne b o e
  .exact (U b q).2.2.2.2.1 y c (A y c e).1 z
  .exact Nat.le_trans w.ok.bsz w.sz
  .rcases (U b q).2.2.2.1 with z|z
   .exact w.ok.noex b o e z
   .exact absurd (lt_of_lt_of_le (Heap.lt_size e) (Nat.le_trans w.ok.bsz z)) (lt_irrefl _)
  .rcases mem_cons.mp (stk _ z) with z|z
   .exact (U b q).2.1 z
   .exact (U b q).2.2.1 z
 have I4:Inv (cxC X scope t C (xs++L) s3 F fp g) [] (replicate xs.length none++ix.map fun i=>(K[i]?).getD none) F { s3 with heap:=h4,toks:=s3.toks+([]:List (Str×Value)).length }:=by
  refine ⟨okC,rfl,w.bare,Un.kept k4,⟨_,hns,fun j y v e1 Z e3=>?_⟩,fun y c e=>?_,w.hok.fresh (le_of_eq hC),fun y c e=>w.freeC y c (A y c e).1,fun p hp=>?_,w.hok.kept k4,?_⟩
  .have e1:(xs++L)[j]?=some y:=e1
   by_cases hj:j<xs.length
   .rw [getElem?_append_left (by rw [List.length_replicate];exact hj),getElem?_replicate,if_pos hj] at Z;cases Z
   .rw [getElem?_append_right (by omega)] at e1;rw [getElem?_append_right (by rw [List.length_replicate];omega),List.length_replicate] at Z;obtain ⟨i,hi1,hi2,hi3,hi4⟩:=hfr.get (j:=j-xs.length) (y:=y) e1;have e2':K[i]?=some (some v):=by
     rw [getElem?_map,hi1] at Z;simp at Z;cases z:K[i]? with
     | none=>rw [z] at Z;simp at Z
     | some o=>rw [z] at Z;simp at Z;rw [Z]
    obtain ⟨m,_,hl⟩:=w.loc;obtain ⟨u,r,l⟩:=hl i y v hi2 e2' (.inr (.inl hi4));refine ⟨u,r,?_⟩;rcases l with ⟨k,_⟩|⟨k,c,ec,z⟩
    .rw [hi4] at k;cases k
    .have hm:(y,NameKind.free)∈scope.names:=PySem.mem_of_lookup hi3;refine .inr ⟨.inl ?_,c,by show t.lookup y=_;rw [P y hm];exact ec,?_⟩
     .show (relabel scope X.env).names.lookup y=_;rw [show (relabel scope X.env).names.lookup y=_ from yeq y scope.names,hi3];simp [hfn,hi4]
     .obtain ⟨o,ho,hd⟩:=z;exact ⟨o,k4 _ _ ho,hd⟩
  .obtain ⟨v,o,ho,hd⟩:=w.cell y c (A y c e).1;exact ⟨v,o,k4 _ _ ho,hd⟩
  .have hp:p∈X.pn++g:=by simpa [cxC] using hp
   obtain ⟨e,n,ne,nf,d⟩:=w.pin p hp;exact ⟨k4 _ _ e,n,Cne _ _ e,pinF p hp,d⟩
  .show (replicate xs.length none++ix.map fun i=>(K[i]?).getD none).length=(xs++L).length;rw [length_append,length_append,List.length_replicate,length_map,hfr.len]
 have st4:tn 0 h4:=T.keep _ _ _ st3 fun b _ o e=>k4 b o e
 have f4:∀ b∈fp,b≠C/\b∉frs X.stack/\(∀ y c,t.lookup y=some c->c≠b)/\∀ p∈(X.pn++g)++([]:List (Addr×Obj)),p.1≠b:=fun b q=>by
  obtain ⟨o,e,_⟩:=T.obj _ _ st3 b q;refine ⟨Cne b o e,fun z=>?_,fun y c e=>(U b q).2.2.2.2.1 y c (A y c e).1,fun p hp=>(U b q).2.2.2.2.2 p (by simpa using hp)⟩;rcases mem_cons.mp (stk _ z) with z|z
  .exact (U b q).2.1 z
  .exact (U b q).2.2.1 z
 have S:∀ {H':Hp},(∀ b∈fp,H' b=none)->∀ b∈fp,ytT (cxC X scope t C (xs++L) s3 F fp g) [] H' b:=fun hn b q=>⟨hn b q,(f4 b q).1,(f4 b q).2.1,.inl q,(f4 b q).2.2.1,(f4 b q).2.2.2⟩
 have loop:∀ s5:Shared,s5={ s3 with heap:=h4,toks:=s3.toks+([]:List (Str×Value)).length } ->
   codeAny (model X.prog X.w) X.A (.compLoop (.ListComp elt [⟨tg,iter,cs,0⟩] scope O) 0 (.ref it) (.ref D) (compEnvC scope t C X.env)) (compPost (model X.prog X.w) X.A X.xe use QQ (.ref D) C) s5:=by
  rintro s5 rfl;refine codeAny_loop rfl (fun n s'=>∃ i os H',os.length=xs.length/\Inv (cxC X scope t C (xs++L) s3 F fp g) [] (os++ix.map fun i=>(K[i]?).getD none) H' s'/\tn i s'.heap/\(∀ b∈fp,H' b=none)/\W i n H') ?_ m0 ⟨0,replicate xs.length none,F,List.length_replicate,I4,st4,fun b q=>(U b q).1,w0⟩;rintro n s6 ⟨i,os,H6,hos,I6,st6,fr6,w6⟩;show wpAny _ _ ((compTurn (.ListComp elt [⟨tg,iter,cs,0⟩] scope O) 0 (.ref it) (.ref D) (compEnvC scope t C X.env)).onRaise (fun x=>do noteFrame x (compEnvC scope t C X.env);theTreesLotGoes x)) _ _ s6;refine wpAny_noted ?_;rw [compTurn_list];rcases turn i n H6 w6 with ⟨stop,qn⟩|⟨go,step⟩
  .refine wpAny_bind (wpAny_standAt (wpAny_bind (thn (T.done (cxC X scope t C (xs++L) s3 F fp g) rfl rfl rfl hc i [] s6 _ H6 _ I6 (S fr6) st6 stop) fun r s7 ⟨hr,I7⟩=>?_)));subst hr;exact wpAny_pure (fin0 w U hC I7 qn)
  .refine wpAny_bind (wpAny_standAt (wpAny_bind (thn (T.item (cxC X scope t C (xs++L) s3 F fp g) rfl rfl rfl hc i [] s6 _ H6 _ I6 (S fr6) st6 go) fun r s7 ⟨u,hr,h7⟩=>?_)));subst hr;refine wpAny_bind (thn h7 fun _ s8 ⟨y,H8,I8,r8,y8,Q,fr8⟩=>?_);have I8':=I8.pinned (S fr8) (T.obj _ _ Q);refine wpAny_bind (wpAny_mono (hg t C s3 F fp g _ s8 _ H8 y u _ I8' r8 (step y _ y8 os hos)) (fun _ s9 ⟨K9,H9,I9,⟨os9,l9,e9⟩,q9⟩=>?_) fun _ _ f=>f.elim);subst e9;refine wpAny_bind (wpAny_mono (hq t C s3 F fp g _ s9 _ _ _ I9 q9) (fun kb s9b hkb=>?_) fun _ _ f=>f.elim);obtain ⟨H9b,I9b,q9b⟩:=hkb;cases kb with
   | false =>
    rw [if_neg (by decide)] at q9b;obtain ⟨m',hm',w10⟩:=q9b;refine wpAny_pure ⟨rfl,m',hm',i+1,os9,_,l9,I9b.unpinned,T.keep _ _ _ Q fun b q o e=>(I9b.pin (b,o) (mem_append_right _ (mem_append_right _ (ydk q e)))).1,fun b q=>?_,w10⟩;obtain ⟨o,e,d⟩:=T.obj _ _ Q b q;exact (I9b.pin (b,o) (mem_append_right _ (mem_append_right _ (ydk q e)))).2.1
   | true =>
   rw [if_pos rfl] at q9b;refine wpAny_bind (wpAny_bind (wpAny_mono (he t C s3 F fp g _ s9b _ _ _ I9b q9b) (fun v s10 ⟨z,H10,I10,r10,acc,a10,l10,m',hm',w10⟩=>?_) fun _ _ f=>f.elim));refine wpAny_bind (wpAny_mono (ybM (X:=cxC X scope t C (xs++L) s3 F fp g) _ s10 _ H10 (.ref D) [z] (.ref D) [v] (fun _ H11=>H11=upd H10 D (.lst (acc++[z]))) I10 rfl (.cons r10 .nil) ⟨D,acc,z,rfl,rfl,a10,l10,rfl⟩) (fun _ s11 ⟨_,H11,I11,_,e11⟩=>?_) fun _ _ f=>f.elim);subst e11;refine wpAny_pure (wpAny_pure ⟨rfl,m',hm',i+1,os9,_,l9,I11.unpinned,T.keep _ _ _ Q fun b q o e=>(I11.pin (b,o) (mem_append_right _ (mem_append_right _ (ydk q e)))).1,fun b q=>?_,w10⟩);obtain ⟨o,e,d⟩:=T.obj _ _ Q b q;exact (I11.pin (b,o) (mem_append_right _ (mem_append_right _ (ydk q e)))).2.1
 exact codeAny_compStart_list (loop _ rfl) (T.self X.A 0 _ _ _ st4 (loop _ rfl))
theorem yvm {X:Cx} ix z (M:X.calm=true) (hi:PI X L iter N) (G:FrOk X scope ix z)
  (hg:∀ u C f g fp d,PG (cxC X scope u C (xs++z) f g fp d) L O)
  (he:∀ u C f g fp d,PE (cxC X scope u C (xs++z) f g fp d) elt te)
  (hq:∀ u C f g fp d,PTs (cxC X scope u C (xs++z) f g fp d) cs tc)
  (p:scope.kind=.function) (l:∀ y∈scope.names,y.2≠.cell)
  (k:∀ y∈scope.names,y.2=.local->scope.names.lookup y.1=some .local) (j:∀ y∈scope.names,y.2=.free->y.1∈z)
  (hs:∀ v,foldedSetIterable iter X.env v=pure v) (Z:∀ K H Q,t K H Q->∃ R,N K H R/\∀ J F,R J F->∀ D,F D=none->ysc J O xs.length tc te (ix.map fun i=>K[i]?.getD none) D Q (upd F D (.lst []))):PE X (.ListComp elt [⟨L,iter,cs,0⟩] scope A) t:=by
 intro d s K H Q I h;obtain ⟨R,h,hR⟩:=Z _ _ _ h;refine ymf ix z M hi G hg he hq p l k j hs I h hR fun {u C s3 Y fp} I3 B hC {D K' E s'} w S=>?_
 have r:∀ b o,s3.heap.get? b=some o->b≠C:=fun b o e=>by rw [<- hC];exact ne_of_lt (Heap.lt_size e)
 obtain ⟨m,hn,_⟩:=w.loc;refine ⟨m,hn,fun h' W=>⟨.ref D,E,?_,rfl,S⟩⟩;have T:E C=none:=w.free;have same:=fun b x=>W.2 b x
 have U:=w.base;have P:Un (frs X.stack) fp Y E s3.heap h':=by
  refine ⟨fun b o e n h1 h2=>?_,fun b o e n h1 h2=>?_,U.free,fun b o e h2=>?_,U.tups,U.frzs,U.tbls⟩
  .rw [same b (r b o e)];exact U.keep b o e n h1 h2
  .rw [same b (r b o e)];exact U.slot b o e n h1 h2
  .rw [same b (r b o e)];exact U.there b o e h2
 refine I3.call' (by exact w.os) P ?_ w.bare fun b x=>⟨(B b x).2.2.2.1,(B b x).2.1,(B b x).2.2.2.2.1,(B b x).2.2.2.2.2⟩
 intro b ob e;refine (w.hok b ob e).stay (fun c w' M q=>?_) (fun _ q=>q) fun _ _ q=>q
 grind
theorem ykw {X:Cx} ix j (w:X.calm=true) (t:PI X (.Name x o) iter p) (m:FrOk X scope ix j)
  (s:∀ l C c d fp b,PE (cxC X scope l C (x::j) c d fp b) elt te)
  (z:∀ l C c d fp b,PTs (cxC X scope l C (x::j) c d fp b) cs tc)
  (n:(x::j).Nodup) (g:scope.kind=.function) (i:∀ y∈scope.names,y.2≠.cell)
  (e:∀ y∈scope.names,y.2=.local->scope.names.lookup y.1=some .local) (f:∀ y∈scope.names,y.2=.free->y.1∈j) (q:scope.names.lookup x=some .local)
  (hs:∀ v,foldedSetIterable iter X.env v=pure v):PE X (.ListComp elt [⟨.Name x o,iter,cs,0⟩] scope k) (yjB p ix tc te):=yvm (xs:=[x]) ix j w t m (fun l C c d fp b=>yjW n rfl (.inl (lookup_relabel_local q)) (.inr (lookup_relabel_local q))) s z g i e f hs fun _ _ _ h=>⟨_,h,fun _ _ r D u=>ysd (r D u)⟩
theorem yvn {py n:Pos}{X:Cx} ix t (hc:X.calm=true) (hi:PI X (.Name x O) iter Y) (F:FrOk X scope ix t)
  (he:∀ w C f d fp c,PE (cxC X scope w C (x::t) f d fp c) elt te)
  (P:∀ w C f d fp c,PTs (cxC X scope w C (x::t) f d fp c) cs tc)
  (J:(x::t).Nodup) (q:scope.kind=.function) (p:∀ y∈scope.names,y.2≠.cell)
  (k:∀ y∈scope.names,y.2=.local->scope.names.lookup y.1=some .local) (j:∀ y∈scope.names,y.2=.free->y.1∈t) (W:scope.names.lookup x=some .local)
  (hs:∀ v,foldedSetIterable iter X.env v=pure v)
  (hN:X.N.Nodup) (G:X.N[iy]?=some y) (E:Loc X.env.scope y) (N:X.fn y=true\/X.env.scope.names.lookup y=some .local) (Q:swapsWith (.ListComp elt [⟨.Name x O,iter,cs,0⟩] scope l) (some (.Name y py)) n.line X.env=pure true) :
  PS X (.Assign [.Name y py] (.ListComp elt [⟨.Name x O,iter,cs,0⟩] scope l) n) (yww (yjB Y ix tc te) (ypB iy)):=by
 intro c s g H D0 I h;rw [exec_Assign_Name_used _ _ _ _ Q];refine wpAny_bind (wpAny_standAt (wpAny_bind ?_));refine wpAny_bind (wpAny_mono (ymf (xs:=[x]) ix t hc hi F (fun w C f d fp c=>yjW J rfl (.inl (lookup_relabel_local W)) (.inr (lookup_relabel_local W))) he P q p k j hs I h (fun _ _ r D hD=>ysd (r D hD)) fun {w C s3 H3 fp} Z B hC {D g' S s'} u q'=>?_) (fun _ s' P=>wpAny_pure (wpAny_pure P)) fun _ _ e=>e);obtain ⟨m,hn,_⟩:=u.loc;have T:S C=none:=u.free;have U:=u.base;have U':Un (frs X.stack) fp H3 S s3.heap s'.heap:=⟨U.keep,U.slot,U.free,U.there,U.tups,U.frzs,U.tbls⟩
 have IX:=Z.call' (by exact u.os) U' u.hok u.bare fun b hb=>⟨(B b hb).2.2.2.1,(B b hb).2.1,(B b hb).2.2.2.2.1,(B b hb).2.2.2.2.2⟩
 have hCf:=Z.fpOk (le_of_eq hC) T;obtain ⟨o,es,ep,eo,r1,r2,r3⟩:=hn;have IP:=IX.pinned (fp:=[C]) (fun b hb=>by have e:=(by simpa using hb);subst e;exact hCf) (fun b hb=>by have e:=(by simpa using hb);subst e;exact ⟨o,eo,fun v z=>by simp_all⟩);refine thn (yjW hN G E N _ s' g S (.ref D) _ D0.nx IP rfl q') fun _ s2 ⟨R,M,A,L⟩=>?_
 have pc:=A.pin (C,o) (mem_append_right _ (mem_append_right _ (ydk (by simp) eo)));exact ⟨m,⟨o,es,ep,pc.1,r1,r2,r3⟩,fun h' sb=>⟨R,M,A.unpinned.turned (fun b ob hb e=>(sb.2 b hb).trans e) pc.2.1 hCf.2.1 hCf.2.2.2.1 hCf.2.2.2.2.1 hCf.2.2.2.2.2,L⟩⟩
end L2
namespace PX
open PySem L2 PySem.Spec PyProof.Rows
section
variable (K:Ck)
def cE (x:XE):TE:=fun Z H Q=>∃ (W0 W:Wd) (ρ:PSt) (y:PV) (h':AH),W.H=H/\Good K W0 W ρ Z/\x ρ W.h=some (y,h')/\∀ v W',W'.h=h'->Le K W W'->ycO K W' y v->Q v W'.H
def cO (x:XO):TE:=fun Z H Q=>∃ (W0 W:Wd) (ρ:PSt) (d:Nd) (h':AH),W.H=H/\Good K W0 W ρ Z/\x ρ W.h=some (d,h')/\∀ p W',W'.h=h'->Le K W W'->p∉W'.m->W.H p=none->d≠.dead->NdAt K W'.F W'.H W'.m d p->Q (.ref p) W'.H
noncomputable def cT (x:XT):TT:=fun Z H Q=>∃ (W0 W:Wd) (ρ:PSt) (y:Bool) (h':AH),W.H=H/\Good K W0 W ρ Z/\x ρ W.h=some (y,h')/\∀ W',W'.h=h'->Le K W W'->Q y W'.H
def cA (x:XA):TA:=fun Z H Q=>∃ (W0 W:Wd) (ρ:PSt) (y:List PV) (h':AH),W.H=H/\Good K W0 W ρ Z/\x ρ W.h=some (y,h')/\∀ v W',W'.h=h'->Le K W W'->ycL K W' y v->Q v W'.H
noncomputable def cP (x:PSt->AH->Option (Option Int×AH)):TO:=fun Z H Q=>∃ (W0 W:Wd) (ρ:PSt) (y:Option Int) (h':AH),W.H=H/\Good K W0 W ρ Z/\x ρ W.h=some (y,h')/\∀ W',W'.h=h'->Le K W W'->Q y W'.H
noncomputable def cI (x:XA):TI:=fun Z H R=>∃ (W0 W:Wd) (ρ:PSt) (y:List PV) (h':AH),W.H=H/\Good K W0 W ρ Z/\x ρ W.h=some (y,h')/\∀ J W',W'.h=h'->Le K W W'->ItOk K W' J y->R J W'.H
def cG (y:XG):TG:=fun v Z H Q=>∃ (W0 W:Wd) (ρ ρ':PSt) (x:PV),W.H=H/\Good K W0 W ρ Z/\ycO K W x v/\y x ρ=some ρ'/\∀ Z',Good K W0 W ρ' Z'->Q Z' W.H
def cGs (y:XGs):TGs:=fun v Z H Q=>∃ (W0 W:Wd) (ρ ρ':PSt) (x:List PV),W.H=H/\Good K W0 W ρ Z/\ycL K W x v/\y x ρ=some ρ'/\∀ Z',Good K W0 W ρ' Z'->Q Z' W.H
def cS (s:XS):TS:=fun D Z H=>∃ (W0 W:Wd) (ρ:PSt) (o:Out) (h':AH),W.H=H/\Good K W0 W ρ Z/\s ρ W.h=some (o,h')/\Ends.Ok K W0 W D h' o
noncomputable def cF (s:XS):TS:=fun D Z H=>∃ (W0 W:Wd) (ρ ρ':PSt) (h':AH),W.H=H/\Good K W0 W ρ Z/\s ρ W.h=some (.nx ρ',h')/\∀ W',W'.h=h'->Lf K W W'->Good K W0 W' ρ' Z->D.nx Z W'.H
end
section
variable {K:Ck}
theorem sE:ycb K (cE K x) x:=fun b W ρ Z Q y h' g e q=>⟨b,W,ρ,y,h',rfl,g,e,q⟩
theorem sO:ylR K (cO K x) x:=fun b W ρ Z Q y h' g e q=>⟨b,W,ρ,y,h',rfl,g,e,q⟩
theorem sT:ylQ K (cT K x) x:=fun b W ρ Z Q y h' g e q=>⟨b,W,ρ,y,h',rfl,g,e,q⟩
theorem sA:ymQ K (cA K x) x:=fun b W ρ Z Q y h' g e q=>⟨b,W,ρ,y,h',rfl,g,e,q⟩
theorem sP {x}:yAw K (cP K x) x:=fun b W ρ Z Q y h' g e q=>⟨b,W,ρ,y,h',rfl,g,e,q⟩
theorem sI:SndI K (cI K x) x:=fun b W ρ Z Q y h' g e q=>⟨b,W,ρ,y,h',rfl,g,e,q⟩
theorem sG:ypQ K (cG K y) y:=fun b W ρ ρ' Z x v Q g r e q=>⟨b,W,ρ,ρ',x,rfl,g,r,e,q⟩
theorem sGs:ypR K (cGs K y) y:=fun b W ρ ρ' Z x v Q g r e q=>⟨b,W,ρ,ρ',x,rfl,g,r,e,q⟩
theorem sS:yeZ K (cS K s) s:=fun b W ρ Z D o h' g e q=>⟨b,W,ρ,o,h',rfl,g,e,q⟩
theorem sF:ytJ K (cF K s) s:=fun b W ρ ρ' Z D h' g e q=>⟨b,W,ρ,ρ',h',rfl,g,e,q⟩
end
noncomputable abbrev ckX (X:Cx) (A:Nat->Addr):Ck:=⟨X.K,A⟩
structure ZE (X:Cx) (A:Nat->Addr) (e:Expr) (x:XE):Prop where of:PE X e (cE (ckX X A) x)
structure ZO (X:Cx) (A:Nat->Addr) (e:Expr) (x:XO):Prop where of:PE X e (cO (ckX X A) x)
structure ZT (X:Cx) (A:Nat->Addr) (e:Expr) (x:XT):Prop where of:PT X e (cT (ckX X A) x)
structure ZW (X:Cx) (A:Nat->Addr) (e:Expr) (x:XT):Prop where of:PW X e (cT (ckX X A) x)
structure ZA (X:Cx) (A:Nat->Addr) (e:List Expr) (n:Nat) (x:XA):Prop where
 of:PA X e (cA (ckX X A) x)
 len:∀ ρ h xs h',x ρ h=some (xs,h')->xs.length=n
structure ZP (X:Cx) (A:Nat->Addr) (e:Option Expr) (x:PSt->AH->Option (Option Int×AH)):Prop where of:PO X e (cP (ckX X A) x)
structure ZI (X:Cx) (A:Nat->Addr) (tg e:Expr) (x:XA):Prop where of:PI X tg e (cI (ckX X A) x)
structure ZG (X:Cx) (A:Nat->Addr) (e:Expr) (y:XG):Prop where of:PG X e (cG (ckX X A) y)
structure ZGs (X:Cx) (A:Nat->Addr) (e:List Expr) (y:XGs):Prop where of:PGs X e (cGs (ckX X A) y)
structure ZS (X:Cx) (A:Nat->Addr) (e:Stmt) (s:XS):Prop where of:PS X e (cS (ckX X A) s)
structure ZSs (X:Cx) (A:Nat->Addr) (e:List Stmt) (s:XS):Prop where of:PSs X e (cS (ckX X A) s)
structure ZF (X:Cx) (A:Nat->Addr) (e:Stmt) (s:XS):Prop where of:PS X e (cF (ckX X A) s)
structure ZFs (X:Cx) (A:Nat->Addr) (e:List Stmt) (s:XS):Prop where of:PSs X e (cF (ckX X A) s)
section
variable {X:Cx}{A:Nat->Addr}{e:Expr}{es:List Expr}
theorem wE (p:PE X e t) (s:ycb (ckX X A) t x):ZE X A e x:=⟨fun b st Z H Q I ⟨d,W,ρ,y,h',f,g,c,q⟩=>by subst f;exact p b st Z _ Q I (s d W ρ Z Q y h' g c q)⟩
theorem wO (p:PE X e t) (s:ylR (ckX X A) t x):ZO X A e x:=⟨fun b st Z H Q I ⟨d,W,ρ,y,h',f,g,c,q⟩=>by subst f;exact p b st Z _ Q I (s d W ρ Z Q y h' g c q)⟩
theorem wT (p:PT X e t) (s:ylQ (ckX X A) t x):ZT X A e x:=⟨fun b st Z H Q I ⟨d,W,ρ,y,h',f,g,c,q⟩=>by subst f;exact p b st Z _ Q I (s d W ρ Z Q y h' g c q)⟩
theorem wW (p:PW X e t) (s:ylQ (ckX X A) t x):ZW X A e x:=⟨fun wh b st Z H Q I ⟨d,W,ρ,y,h',f,g,c,q⟩=>by subst f;exact p wh b st Z _ Q I (s d W ρ Z Q y h' g c q)⟩
theorem wA (p:PA X es t) (s:ymQ (ckX X A) t x) (l:∀ ρ h xs h',x ρ h=some (xs,h')->xs.length=n):ZA X A es n x:=⟨fun pos b st Z H Q I ⟨d,W,ρ,y,h',f,g,c,q⟩=>by subst f;exact p pos b st Z _ Q I (s d W ρ Z Q y h' g c q),l⟩
theorem wP {x} (p:PO X o t) (s:yAw (ckX X A) t x):ZP X A o x:=⟨fun b st Z H Q I ⟨d,W,ρ,y,h',f,g,c,q⟩=>by subst f;exact p b st Z _ Q I (s d W ρ Z Q y h' g c q)⟩
theorem wI (p:PI X c e t) (s:SndI (ckX X A) t x):ZI X A c e x:=⟨fun b st Z H Q I ⟨f,W,ρ,y,h',h,g,d,q⟩=>by subst h;exact p b st Z _ Q I (s f W ρ Z Q y h' g d q)⟩
theorem wG (p:PG X e t) (s:ypQ (ckX X A) t y):ZG X A e y:=⟨fun b st Z H v u Q I h ⟨d,W,ρ,ρ',x,f,g,r,c,q⟩=>by subst f;exact p b st Z _ v u Q I h (s d W ρ ρ' Z x v Q g r c q)⟩
theorem wGs (p:PGs X es t) (s:ypR (ckX X A) t y):ZGs X A es y:=⟨fun b st Z H v u Q I h ⟨d,W,ρ,ρ',x,f,g,r,c,q⟩=>by subst f;exact p b st Z _ v u Q I h (s d W ρ ρ' Z x v Q g r c q)⟩
theorem wS {st:Stmt}{t:TS}{x:XS}(p:PS X st t) (s:yeZ (ckX X A) t x):ZS X A st x:=⟨fun b st Z H D I ⟨d,W,ρ,o,h',f,g,c,q⟩=>by subst f;exact p b st Z _ D I (s d W ρ Z D o h' g c q)⟩
theorem wSs {st:List Stmt}{t:TS}{x:XS}(p:PSs X st t) (s:yeZ (ckX X A) t x):ZSs X A st x:=⟨fun b st Z H D I ⟨d,W,ρ,o,h',f,g,c,q⟩=>by subst f;exact p b st Z _ D I (s d W ρ Z D o h' g c q)⟩
theorem wF {st:Stmt}{t:TS}{x:XS}(p:PS X st t) (s:ytJ (ckX X A) t x):ZF X A st x:=⟨fun b st Z H D I ⟨d,W,ρ,ρ',h',f,g,c,q⟩=>by subst f;exact p b st Z _ D I (s d W ρ ρ' Z D h' g c q)⟩
theorem wFs {st:List Stmt}{t:TS}{x:XS}(p:PSs X st t) (s:ytJ (ckX X A) t x):ZFs X A st x:=⟨fun b st Z H D I ⟨d,W,ρ,ρ',h',f,g,c,q⟩=>by subst f;exact p b st Z _ D I (s d W ρ ρ' Z D h' g c q)⟩
end
structure Nm (x:Str):Prop where
 d:(x == ("__debug__":Str))=false
 c:(x == ("__classdict__":Str))=false
 n:x≠"__name__"
section
variable {X:Cx}{A:Nat->Addr}{a b c o:Expr}{es:List Expr}{xa xb xc:XE}{xo:XO}{aa:XA}{pos p apos:Pos}{x:Str}{n k:Nat}
theorem yjm {j}:ZE X A (.Constant .none j pos) (xC .non):=wE yAK yyi
theorem yAC {b j}:ZE X A (.Constant (.bool b) j pos) (xC (.bl b)):=wE yEg yBq
theorem yg {i j}:ZE X A (.Constant (.int i) j pos) (xC (.int i)):=wE yAJ yrj
theorem yB {x j}:ZE X A (.Constant (.str x) j pos) (xC (.str x)):=wE yAL yrk
theorem z_v {i:Nat}(m:Nm x:=by exact ⟨by rfl',by rfl',by rfl'⟩) (e:X.N[i]?=some x:=by rfl) (d:Vis X.env.scope x:=by first|exact Or.inl rfl|exact Or.inr (Or.inl rfl)):ZE X A (.Name x pos) (ye i):=wE (yjx e d m.d m.c) (yyh i)
theorem yfK {n:Int}(f:X.mg x=some (.int n t)) (m:Nm x:=by exact ⟨by rfl',by rfl',by rfl'⟩) (e:Gl X x:=by rfl):ZE X A (.Name x pos) (xC (.int n)):=wE (yyd e f m.d) yrj
theorem ymg {n:Str}(f:X.mg x=some (.str n t)) (m:Nm x:=by exact ⟨by rfl',by rfl',by rfl'⟩) (e:Gl X x:=by rfl):ZE X A (.Name x pos) (xC (.str n)):=wE (yye e f m.d) yrk
theorem yeU {k:Nat}(f:X.mg x=some (.ref (A k))) (m:Nm x:=by exact ⟨by rfl',by rfl',by rfl'⟩) (e:Gl X x:=by rfl):ZE X A (.Name x pos) (xC (.cls k)):=wE (ynl e f m.d) (yyj)
theorem yCt {n:String}(g:X.mg x=none) (m:Nm x:=by exact ⟨by rfl',by rfl',by rfl'⟩) (e:Gl X x:=by rfl) (f:bootBuiltins x=some (.type n):=by rfl'):ZE X A (.Name x pos) (xC (.ty n)):=wE (yBp e g f m.n m.d) yBr
theorem ybU (h:ZO X A a xo):ZE X A a (xFz xo):=wE h.of (ywK sO)
theorem ycp (h:ZO X A a xo):ZE X A a (ydl xo):=wE h.of (yyq sO)
theorem ybb (g:OpR X (binaryOp op) r) (h:ycw (ckX X A) r q) (e:ZE X A a xa) (f:ZE X A b xb):ZE X A (.BinOp a op b pos) (xOp q xa xb):=wE (yBe g e.of f.of) (yoD h sE sE)
theorem ynP (g:OpR X (binaryOp op) r) (h:yoC (ckX X A) r q) (e:ZE X A a xa) (f:ZE X A b xb):ZO X A (.BinOp a op b pos) (ypL q xa xb):=wO (yBe g e.of f.of) (yyk h sE sE)
theorem yFw {r} {q} (e:UnR X (unaryOp op) r) (g:yyg (ckX X A) r q) (f:ZE X A a xa):ZE X A (.UnaryOp op a pos) (xUn q xa):=wE (yEn e f.of) (yBs g sE)
theorem yFx (e:ZE X A a xa):ZE X A (.UnaryOp .Not a pos) (yyf xa):=wE (yAV e.of) (yup sE)
theorem ygY (h:OpR X (compareOp op) r) (i:ycw (ckX X A) r q) (e:ZE X A a xa) (g:ZE X A b xb) (f:behindInMarks op b=false:=by first|exact yln _|with_unfolding_all rfl):ZE X A (.Compare a [op] [b] pos) (xOp q xa xb):=wE (yxN h e.of g.of f) (yoD i sE sE)
theorem yse (s:OpR X (compareOp op) r) (f:OpR X (compareOp e) i) (u:ycw (ckX X A) r q) (g:ycw (ckX X A) i h) (m:ZE X A a xa) (l:ZE X A b xb) (t:ZE X A c xc) (j:lastMarks [op,e] [b,c]=false:=by first|exact yln _|with_unfolding_all rfl):ZE X A (.Compare a [op,e] [b,c] pos) (yfH q h xa xb xc):=wE (ytX s f m.of l.of t.of j) (ylS u g sE sE sE)
theorem ypY {op} (h:ZE X A a xa):ZE X A (.BoolOp op [a] pos) xa:=⟨yAT h.of⟩
theorem ypZ (f:ZE X A a xa) (e:ZE X A (.BoolOp .And (b::es) pos) xb):ZE X A (.BoolOp .And (a::b::es) pos) (yjh xa xb):=wE (yAU f.of e.of) (yuo sE sE)
section
variable {ca cb:XT}
theorem ysf (g:ZT X A c ca) (f:ZE X A a xa) (e:ZE X A b xb):ZE X A (.IfExp c a b pos) (xIf ca xa xb):=wE (ytP g.of f.of e.of) (yBv sT sE sE)
theorem yx (h:OpR X (compareOp op) r) (i:ycw (ckX X A) r q) (e:ZE X A a xa) (g:ZE X A b xb) (f:behindInMarks op b=false:=by first|exact yln _|with_unfolding_all rfl):ZT X A (.Compare a [op] [b] pos) (yv (xOp q xa xb)):=wT (yxP h e.of g.of f) (yhM (yoD i sE sE))
theorem yhP (s:OpR X (compareOp op) r) (f:OpR X (compareOp e) i) (u:ycw (ckX X A) r q) (g:ycw (ckX X A) i h) (m:ZE X A a xa) (l:ZE X A b xb) (t:ZE X A c xc) (j:lastMarks [op,e] [b,c]=false:=by first|exact yln _|with_unfolding_all rfl):ZT X A (.Compare a [op,e] [b,c] pos) (yv (yfH q h xa xb xc)):=wT (ytY s f m.of l.of t.of j) (yhM (ylS u g sE sE sE))
theorem yff (e:ZT X A a ca):ZT X A (.UnaryOp .Not a pos) (ynv ca):=wT (yAQ e.of) (yym sT)
theorem ycq (h:ZE X A a xa) (f:∀ e,isTrue a X.env e=(do let v <- e;standAt a.pos;holding [v] (truthy v)):=by exact fun _=>rfl):ZT X A a (yv xa):=wT (yAN h.of f) (yBt sE)
theorem ysg (h:ZW X A a ca):ZT X A a ca:=⟨PW.pt h.of⟩
theorem ypa (f:ZT X A a ca) (e:ZW X A (.BoolOp .And (b::es) pos) cb):ZW X A (.BoolOp .And (a::b::es) pos) (ywJ ca cb):=wW (yAP f.of e.of) (yyl sT sT)
theorem ymh (f:ZT X A a ca) (e:ZW X A (.BoolOp .Or (b::es) pos) cb):ZW X A (.BoolOp .Or (a::b::es) pos) (xOr ca cb):=wW (yEi f.of e.of) (yBu sT sT)
theorem ykx (e:ZT X A a ca):ZW X A (.BoolOp .And [a] pos) ca:=⟨yxJ e.of⟩
theorem yip (e:ZT X A a ca):ZW X A (.BoolOp .Or [a] pos) ca:=⟨yAO e.of⟩
end
theorem yd:ZA X A [] 0 yh:=wA yjz ykj ynx
theorem ya (f:ZE X A a xa) (e:ZA X A es n aa) (hs:starEach (a::es) X.env=(false,eval a X.env)::starEach es X.env:=by rfl):ZA X A (a::es) (n+1) (yb xa aa):=wA (yfS f.of e.of hs) (yuq sE sA) (yut e.len)
theorem ybC (h:ZA X A es n aa):ZO X A (.List es pos) (ycl aa):=wO (yBh h.of) (yyp sA)
theorem ycS {q} (h:ZA X A es n aa):ZE X A (.Tuple es q pos) (yfa aa):=wE (yBg h.of) (yyo sA)
theorem yFy:ZP X A none yfV:=wP yxW ypO
theorem yiq (h:ZE X A a xa):ZP X A (some a) (yfU xa):=wP (yxX h.of) (yuu sE)
section
variable {lo hi:Option Expr}{xl xh:PSt->AH->Option (Option Int×AH)}{p2:Pos}
theorem yCu {r} {q} (g:SlR X r) (d:yoE (ckX X A) r q) (e:ZE X A a xa) (hl:ZP X A lo xl) (f:ZP X A hi xh):ZO X A (.Subscript a (.Slice lo hi none p2) pos) (yqt q xa xl xh):=wO (yug g e.of hl.of f.of) (yrn d sE sP sP)
end
theorem ybf (g:IxR X r) (h:ycw (ckX X A) r q) (e:ZE X A a xa) (f:ZE X A b xb) (hs:yqX b:=by exact fun _ _=>rfl):ZE X A (.Subscript a b pos) (xOp q xa xb):=wE (yEs g e.of f.of hs) (yoD h sE sE)
theorem yy (h:∀ k∈cs,Cls X.K (A k)/\NoAttr X.K (A k) f) (e:ZE X A a xa) (g:attributeBase a f X.env (eval a X.env)=eval a X.env:=by rfl):ZE X A (.Attribute a f pos) (ybc cs f xa):=wE (yBf e.of g) (yyG h sE)
section
variable {f C:Addr}{fd:FuncData}{ps:List Str}{lv:Nat}{fn:Fn}
theorem yV (F:FnOk X.prog X.w X.K X.mg X.base CX0 lv f fd ps (spE (ckX X A) (n+1) fn)) (j:X.mg x=some (.ref f)) (i:keepIn X.K (.ref f)=true) (l:Binds X.K fd ps []) (e:ZA X A (a::es) (n+1) aa) (hr:Room lv X.A:=by exact hr.mono (by omega)) (m:Nm x:=by exact ⟨by rfl',by rfl',by rfl'⟩) (g:Gl X x:=by rfl) (h:starEach (a::es) X.env=(false,eval a X.env)::starEach es X.env:=by rfl) (d:(backTo pos (starEach es X.env)).any (·.1)=false:=by rfl):ZE X A (.Call (.Name x p) (a::es) [] pos) (yT fn aa) :=
 wE (yxU F hr g j i l .nil ylw e.of m.d h d) (yus sA e.len)
theorem yfL {k:Nat}{g} (M:Mk X.K (A k) f) (F:FnOk X.prog X.w X.K X.mg X.base CX0 lv f fd ps (spI (ckX X A) (n+1) k g)) (h:X.mg x=some (.ref (A k))) (j:Binds X.K fd ps []) (e:ZA X A (a::es) (n+1) aa) (hr:Room (lv+1) X.A:=by exact hr.mono (by omega)) (m:Nm x:=by exact ⟨by rfl',by rfl',by rfl'⟩) (l:Gl X x:=by rfl) (i:starEach (a::es) X.env=(false,eval a X.env)::starEach es X.env:=by rfl) (d:(backTo pos (starEach es X.env)).any (·.1)=false:=by rfl):ZO X A (.Call (.Name x p) (a::es) [] pos) (yfY g aa) :=
 wO (yqT M F hr l h j .nil ylw e.of m.d i d) (yoK sA e.len)
theorem yze {k:Nat}(j:makesIn X.K (A k)=true) (i:findIn X.K (.ref (A k)) "__init__" = some (some (.builtin "object.__init__"))) (g:keepIn X.K (.ref (A k))=true) (e:X.mg x=some (.ref (A k))) (m:Nm x:=by exact ⟨by rfl',by rfl',by rfl'⟩) (h:Gl X x:=by rfl):ZO X A (.Call (.Name x p) [] [] pos) (yrD k) :=
 wO (yuk j i g h e m.d) (yrE)
theorem ysh {pl:Sem Bool}(h:ZE X A o xa) (G:ynk X.prog X.w X.K X.mg X.base lv A m fun k=>spE (ckX X A) 1 (d k)) (hr:Room lv X.A:=by exact hr.mono (by omega)) (g:eval (.Call (.Attribute o m apos) [] [] pos) X.env=(do
   let e <- eval o X.env
   standAt apos.atName
   let (f,first) <- holding [e] (getMethod e m pl)
   callWith pos f first (backTo pos (starEach [] X.env)) (backToKw pos (keywordEach [] X.env))):=by rfl):ZE X A (.Call (.Attribute o m apos) [] [] pos) (ynF m d xa) :=
 wE (yrh h.of G hr g) (yuN sE)
end
theorem yfg {id:String}{r} {q} (j:yfR X (.builtin id) r) (s:yib (ckX X A) r q) (i:X.mg x=none) (h:ZA X A (a::es) n aa) (m:Nm x:=by exact ⟨by rfl',by rfl',by rfl'⟩) (l:Gl X x:=by rfl) (f:bootBuiltins x=some (.builtin id):=by rfl') (g:starEach (a::es) X.env=(false,eval a X.env)::starEach es X.env:=by rfl) (e:(backTo pos (starEach es X.env)).any (·.1)=false:=by rfl):ZE X A (.Call (.Name x p) (a::es) [] pos) (xCB q aa) :=
 wE (yjZ j l i f h.of m.n m.d g e) (ywL s sA)
theorem ysi {r} {q} (j:yfR X (.type T) r) (s:yib (ckX X A) r q) (i:X.mg x=none) (h:ZA X A (a::es) n aa) (m:Nm x:=by exact ⟨by rfl',by rfl',by rfl'⟩) (l:Gl X x:=by rfl) (f:bootBuiltins x=some (.type T):=by rfl') (g:starEach (a::es) X.env=(false,eval a X.env)::starEach es X.env:=by rfl) (e:(backTo pos (starEach es X.env)).any (·.1)=false:=by rfl):ZE X A (.Call (.Name x p) (a::es) [] pos) (xCB q aa) :=
 wE (ylt j l i f h.of m.n m.d g e) (ywL s sA)
theorem ybo {r} {q} (j:yfR X (.type T) r) (s:yri (ckX X A) r q) (i:X.mg x=none) (h:ZA X A (a::es) n aa) (m:Nm x:=by exact ⟨by rfl',by rfl',by rfl'⟩) (l:Gl X x:=by rfl) (f:bootBuiltins x=some (.type T):=by rfl') (g:starEach (a::es) X.env=(false,eval a X.env)::starEach es X.env:=by rfl) (e:(backTo pos (starEach es X.env)).any (·.1)=false:=by rfl):ZO X A (.Call (.Name x p) (a::es) [] pos) (yea q aa) :=
 wO (ylt j l i f h.of m.n m.d g e) (yyr s sA)
section
variable {name:Str}{cpos:Pos}{T id:String}{r:V->List V->Hp->VK->Prop}{cc:PV->AH->Bool}{q:PM}
theorem ymi (l:PlainAttrs T) (h:Slot T name id) (j:typeOf (.builtin id)=pure (.type "method_descriptor")) (s:MtR X id r) (m:yji (ckX X A) T cc r q) (u:ZE X A o xa) (t:ZA X A (a::es) n aa) (g:attributeBase o name X.env (eval o X.env)=eval o X.env:=by rfl) (i:((backTo cpos (starEach (a::es) X.env)).all (fun x=>!x.1) && (backToKw cpos (keywordEach [] X.env)).all (fun x=>x.1.isSome)
   && decide ((a::es).length+([]:List Keyword).length+(if ([]:List Keyword).isEmpty then 0 else 1)<30))=true:=by rfl) (f:(apos.endLine == cpos.line)=true:=by rfl) (hs:starEach (a::es) X.env=(false,eval a X.env)::starEach es X.env:=by rfl) (e:(backTo cpos (starEach es X.env)).any (·.1)=false:=by rfl) :
  ZE X A (.Call (.Attribute o name apos) (a::es) [] cpos) (xBM cc q xa aa):=wE (yxY l h j s u.of t.of g i f hs e) (ywM m sE sA)
theorem yvo (l:PlainAttrs T) (g:Slot T name id) (h:typeOf (.builtin id)=pure (.type "method_descriptor")) (i:MtR X id r) (m:yji (ckX X A) T cc r q) (j:ZE X A o xa) (f:attributeBase o name X.env (eval o X.env)=eval o X.env:=by rfl) (e:(apos.endLine == cpos.line)=true:=by rfl) :
  ZE X A (.Call (.Attribute o name apos) [] [] cpos) (xBM cc q xa yh):=wE (ywF l g h i j.of f e) (yys m sE)
theorem ymj (j:ZE X A a xa) (l:PE X o (yqs i):=by exact yjx rfl (by first|exact Or.inl rfl|exact Or.inr (Or.inl rfl)) (by rfl') (by rfl')) (e:attributeBase o "append" X.env (eval o X.env)=eval o X.env:=by rfl) (g:((backTo cpos (starEach [a] X.env)).all (fun x=>!x.1) && (backToKw cpos (keywordEach [] X.env)).all (fun x=>x.1.isSome)
   && decide ([a].length+([]:List Keyword).length+(if ([]:List Keyword).isEmpty then 0 else 1)<30))=true:=by rfl) (f:(apos.endLine == cpos.line)=true:=by rfl) (hs:starEach [a] X.env=(false,eval a X.env)::starEach [] X.env:=by rfl) (d:(backTo cpos (starEach [] X.env)).any (·.1)=false:=by rfl) (h:swapsWith (.Call (.Attribute o "append" apos) [a] [] cpos) none pos.line X.env=pure false:=by rfl) :
  ZS X A (.Expr (.Call (.Attribute o "append" apos) [a] [] cpos) pos) (yfW i xa) :=
 wS (yjV (yxY plainAttrs_list PySem.F.slot_list_append PySem.F.type_list_append ybM l (yfS j.of yjz hs) e g f hs d) h) (yuB i sE)
end
section
variable {tg:Expr}
theorem ydG (h:ZE X A a xa):ZI X A tg a (xIL xa):=wI (ymZ h.of) (yrs sE)
theorem yCv (h:ZE X A a xa):ZI X A tg a (xIS xa):=wI (yBo h.of) (yuC sE)
theorem yeI (g:X.mg "range" = none) (f:ZA X A [a] n aa) (e:Gl X "range":=by rfl) (hs:starEach [a] X.env=[(false,eval a X.env)]:=by rfl):ZI X A tg (.Call (.Name "range" p) [a] [] pos) (yhz aa):=wI (yqG e g f.of hs) (yrt sA)
end
theorem ydn {i:Nat}(f:X.N.Nodup:=by exact nd) (g:X.N[i]?=some x:=by rfl) (h:Loc X.env.scope x:=by first|exact Or.inl rfl|exact Or.inr rfl) (e:X.fn x=true\/X.env.scope.names.lookup x=some .local:=by exact Or.inl rfl):ZG X A (.Name x pos) (yq i):=wG (yjW f g h e) (yie i)
theorem yzf:ZGs X A [] yDQ:=wGs yxL yuy
theorem ypb (h1:ZG X A a y) (h2:ZGs X A es ys) (hs:(assignEach (a::es) X.env).map (·.2)=assign a X.env::(assignEach es X.env).map (·.2):=by rfl):ZGs X A (a::es) (ypP y ys):=wGs (ytR h1.of h2.of hs) (yro sG sGs)
theorem yCw {ys:XGs}{q:Nat}(h:ZGs X A es ys) (hc:X.calm=true:=by rfl) (hn:(assignEach es X.env).length=n:=by rfl) (hst:(assignEach es X.env).findIdx? (·.1)=none:=by rfl):ZG X A (.Tuple es q pos) (yBw n ys):=wG (yAZ hc h.of hn hst) (yuz (K:=ckX X A) sGs)
theorem ygw {elt iter:Expr}{w:Pos}{scope:Scope}{q:Pos}{u:XA}{xe:XE}{ix:List Nat} m (D:ZI X A (.Name x w) iter u) (z:∀ r C f g fp e,ZE (cxC X scope r C (x::m) f g fp e) A elt xe) (E:X.calm=true:=by rfl) (t:FrOk X scope ix m:=by repeat' first|exact True.intro|exact rfl|refine And.intro ?_ ?_) (s:(x::m).Nodup:=by rfl') (j:scope.kind=.function:=by rfl) (l:∀ y∈scope.names,y.2≠.cell:=by rfl') (h:∀ y∈scope.names,y.2=.local->scope.names.lookup y.1=some .local:=by rfl') (i:∀ y∈scope.names,y.2=.free->y.1∈m:=by rfl') (B:scope.names.lookup x=some .local:=by rfl) (hs:∀ v,foldedSetIterable iter X.env v=pure v:=by exact fun _=>rfl):ZO X A (.ListComp elt [⟨.Name x w,iter,[],0⟩] scope q) (yet u ix xe) :=
 wO (yzd (ykw ix m E D.of t (fun r C f g fp e=>(z r C f g fp e).of) (fun _ _ _ _ _ _=>.nil) s j l h i B hs)) (yoF ix sI sE)
section
variable {st:Stmt}{rest:List Stmt}{s u:XS}
theorem yj (h:ZE X A a xa):ZS X A (.Return (some a) pos) (yQ xa):=wS (yAX h.of) (yyv sE)
theorem yE (h:ZE X A a xa) (hs:swapsWith a none pos.line X.env=pure false:=by rfl):ZS X A (.Expr a pos) (yW xa):=wS (yjV h.of hs) (yux sE)
theorem yw {i:Nat}{e:Pos}(h:ZE X A a xa) (f:X.N.Nodup:=by exact nd) (l:X.N[i]?=some x:=by rfl) (g:Loc X.env.scope x:=by first|exact Or.inl rfl|exact Or.inr rfl) (hs:swapsWith a (some (.Name x e)) pos.line X.env=pure false:=by rfl) (j:X.fn x=true\/X.env.scope.names.lookup x=some .local:=by exact Or.inl rfl):ZS X A (.Assign [.Name x e] a pos) (ybu xa (yq i)) :=
 wS (ywx f l g h.of hs j) (yrp sE (yie i))
theorem ygc {i:Nat}{e:Pos}(h:ZO X A a xo) (f:X.N.Nodup:=by exact nd) (l:X.N[i]?=some x:=by rfl) (g:Loc X.env.scope x:=by first|exact Or.inl rfl|exact Or.inr rfl) (hs:swapsWith a (some (.Name x e)) pos.line X.env=pure false:=by rfl) (j:X.fn x=true\/X.env.scope.names.lookup x=some .local:=by exact Or.inl rfl):ZS X A (.Assign [.Name x e] a pos) (yid xo i) :=
 wS (ywx f l g h.of hs j) (yuA i sO)
theorem ybG {cs:List Nat}{f:Str}{d:Pos}{i:Nat}(e:∀ k∈cs,Cls X.K (A k)/\NoAttr X.K (A k) f) (h:ZE X A a xa) (g:PE X o (yqs i):=by exact yjx rfl (by first|exact Or.inl rfl|exact Or.inr (Or.inl rfl)) (by rfl') (by rfl')) (hs:swapsWith a (some (.Attribute o f d)) pos.line X.env=pure false:=by rfl):ZF X A (.Assign [.Attribute o f d] a pos) (ycK cs i f xa):=wF (ywB g h.of hs) (yuK e sE)
theorem yO (h:ZT X A c e) (f:ZSs X A l s) (g:ZSs X A m u):ZS X A (.If c l m pos) (yby e s u):=wS (yEk h.of f.of g.of) (yyw sT sS sS)
theorem ygx (j:ZI X A e iter f) (g:ZG X A e y) (h:ZSs X A rest s) (hp:PassesOwn (model X.prog X.w) X.A X.env X.xe:=by exact PassesOwn.never) (i:X.calm=true:=by rfl) (hs:∀ x,foldedSetIterable iter X.env x=pure x:=by exact fun _=>rfl):ZS X A (.For e iter rest [] pos) (yjd f y s):=wS (yqI hp i j.of g.of h.of hs) (yyB sI sG sS)
theorem yky (h:ZT X A c e) (g:ZSs X A rest s) (hp:PassesOwn (model X.prog X.w) X.A X.env X.xe:=by exact PassesOwn.never):ZS X A (.While c rest [] pos) (yfI f e s):=wS (ytS hp h.of g.of) (yrw f sT sS)
theorem yn:ZSs X A [] yN:=wSs yxK yuw
theorem yf (h:ZS X A st s):ZSs X A [st] s:=⟨yqC h.of⟩
theorem yc (h:ZS X A st s) (e:ZSs X A rest u):ZSs X A (st::rest) (yl s u):=wSs (yos h.of e.of) (yyu sS sS)
theorem ygZ (h:ZSs X A rest s):ZSs X A rest (ytF i s):=wSs h.of (yyx i sS)
theorem ydH (h:ZF X A st s):ZFs X A [st] s:=⟨yqC h.of⟩
theorem ybv (h:ZF X A st s) (e:ZFs X A rest u):ZFs X A (st::rest) (yl s u):=wFs (yos h.of e.of) (yuL sF sF)
end
end
section
variable {P:Program}{w:World}{K:Frag}{mg:Str->Option Value}{base:Heap}{A:Nat->Addr}
theorem zfn {x b:Str}{st:Stmt}{f:Addr}{g:FuncData}{N ps:List Str}{k:Nat}{s:XS}(F:Fun K x b st f g) (S:yeE N ps (ybT st))
  (h:∀ c d outer e H E,Room k (d.deeper (envOfC b (ybT st) e.heap.objs.size f c))->ZSs (yuf CX0 P w K mg base N b (ybT st) f c d outer e H E).nox A (yfT st) s) :
  FnOk P w K mg base CX0 (k+1) f g ps (spE ⟨K,A⟩ ps.length (ybp N.length s)) :=
 F.ok S (fun _ _ _ _ h=>yyC h) fun c d outer e H vs Q E i j=>⟨_,(h c d outer e H E i).of,yuE sS j⟩
theorem zin {x b:Str}{st:Stmt}{f:Addr}{i:FuncData}{N ps:List Str}{k g n:Nat}{s:XS}(F:Fun K x b st f i) (S:yeE N ps (ybT st)) (m:ps.length=n+1) (l:n+1<=N.length)
  (h:∀ c e outer d H E,Room k (e.deeper (envOfC b (ybT st) d.heap.objs.size f c))->ZFs (yuf CX0 P w K mg base N b (ybT st) f c e outer d H E).nox A (yfT st) s) :
  FnOk P w K mg base CX0 (k+1) f i ps (spI ⟨K,A⟩ n g (ymT N.length g s)) :=
 F.ok S (fun _ _ _ _ h=>(yyH h).trans m.symm) fun c e outer d H vs Q E o j=>⟨_,(h c e outer d H E o).of,yuM l sF j⟩
end
section
variable {X:Cx}{A:Nat->Addr}{a b c o i:Expr}{es:List Expr}{xa xb xc xd xk xv:XE}{xo:XO}{aa:XA}{pos p apos cpos pos':Pos}{x:Str}{n k:Nat}
theorem yxf (g:ZE X A o xd) (f:ZE X A i xk) (e:X.A.units+1<cLine:=by exact yxZ hr) (hs:yFi i:=by exact fun _ _=>rfl):ZE X A (.Subscript o i pos) (yii xd xk):=wE (yyQ e g.of f.of hs) (yuX sE sE)
theorem yCx (g:ZE X A i xk) (f:ZE X A o xd) (e:X.A.units+1<cLine:=by exact yxZ hr) (h:behindInMarks .In o=false:=by first|exact yln _|with_unfolding_all rfl):ZT X A (.Compare i [.In] [o] pos) (yv (yAB false xk xd)):=wT (yAM (yCi e g.of f.of) h) (yhM (yyT sE sE))
theorem ynQ (f:ZE X A o xd) (g:ZE X A i xk) (h:ZE X A a xv) (e:X.A.units+1<cLine:=by exact yxZ hr) (hs:swapsWith a (some (.Subscript o i pos')) pos.line X.env=pure false:=by rfl):ZS X A (.Assign [.Subscript o i pos'] a pos) (yks xd xk xv):=wS (yyR e f.of g.of h.of hs) (yuY sE sE sE)
theorem ypc:ZO X A (.Dict [] [] pos) ypV:=wO yuV yuZ
theorem ydI (h:ZE X A a xv) (j:ZE X A o xd) (m:ZE X A i xk) (l:∀ v,assign (.Subscript o i pos') X.env v=(do
   let e <- holding [v] (eval o X.env)
   let f <- holding [v,e] (eval i X.env)
   standAt pos'
   holding [v,e,f] (setItem e f v)
   release [v,e,f] []):=by exact fun _=>rfl) (hs:swapsWithSole [.Subscript o i pos'] a pos.line X.env=pure false:=by rfl) (g:swappedStores [.Subscript o i pos'] a X.env=pure none:=by rfl) (h1:(assignEach [.Subscript o i pos'] X.env).map (·.2)=[assign (.Subscript o i pos') X.env]:=by rfl) :
  ZS X A (.Assign [.Subscript o i pos'] a pos) (yec xd xk xv):=wS (yBb h.of (yBa j.of m.of set_list l) hs g h1) (yuW sE sE sE)
end
theorem ynR:bootBuiltins "reversed" = some (.type "reversed"):=by rfl'
section
variable {X:Cx}{A:Nat->Addr}{a b c o:Expr}{es:List Expr}{xa xb xc:XE}{pos p apos cpos:Pos}{x:Str}{n k:Nat}
theorem yCy (j:ZE X A a xa) (l:PE X o (yqs i):=by exact yjx rfl (by first|exact Or.inl rfl|exact Or.inr (Or.inl rfl)) (by rfl') (by rfl')) (e:attributeBase o "extend" X.env (eval o X.env)=eval o X.env:=by rfl) (g:((backTo cpos (starEach [a] X.env)).all (fun x=>!x.1) && (backToKw cpos (keywordEach [] X.env)).all (fun x=>x.1.isSome)
   && decide ([a].length+([]:List Keyword).length+(if ([]:List Keyword).isEmpty then 0 else 1)<30))=true:=by rfl) (f:(apos.endLine == cpos.line)=true:=by rfl) (hs:starEach [a] X.env=(false,eval a X.env)::starEach [] X.env:=by rfl) (d:(backTo cpos (starEach [] X.env)).any (·.1)=false:=by rfl) (h:swapsWith (.Call (.Attribute o "extend" apos) [a] [] cpos) none pos.line X.env=pure false:=by rfl) :
  ZS X A (.Expr (.Call (.Attribute o "extend" apos) [a] [] cpos) pos) (ynK i xa) :=
 wS (yjV (yxY plainAttrs_list PySem.F.slot_list_extend PySem.F.type_list_extend yrb l (yfS j.of yjz hs) e g f hs d) h) (yva i sE)
theorem ysj (h:X.mg x=none) (j:PE X a (yqs i):=by exact yjx rfl (by first|exact Or.inl rfl|exact Or.inr (Or.inl rfl)) (by rfl') (by rfl')) (m:Nm x:=by exact ⟨by rfl',by rfl',by rfl'⟩) (g:Gl X x:=by rfl) (f:bootBuiltins x=some (.builtin "len"):=by rfl') (e:starEach [a] X.env=(false,eval a X.env)::starEach [] X.env:=by rfl) (d:(backTo pos (starEach [] X.env)).any (·.1)=false:=by rfl) :
  ZE X A (.Call (.Name x p) [a] [] pos) (yhB i) :=
 wE (yjZ ybh g h f (yfS j yjz e) m.n m.d e d) (yvb i)
end
section
theorem ydJ {xs:List V}{its:List Value}(r:Vals xs its) {j:Nat} a:∃ x,xs[j]?=some x/\RelV x its.toArray[j]:=by
 have hl:=r.length;have b:=by simpa using a
 have x1:xs[j]?=some xs[j]:=List.getElem?_eq_getElem _;obtain ⟨u1,d,c⟩:=r.get x1;simp_all
variable {X:Cx}
theorem ypd {i:List (Addr×Obj)}{Z:L2.St}{H:Hp}{s:Shared}(I:Inv X i Z H s) {n:Nat}{x y:V}{b:Bool}(r:EqR X.K H n x y b):∀ {A:Around}{u v:Value},RelV x u->RelV y v->A.units+n<cLine->SeqAt.EqAt A s u v b:=by
 induction r with
 | flat fx fy=>exact fun d f _=>eqAt_V d f fx fy
 | same =>
  intro A u v d f _;cases d;cases f;exact SeqAt.EqAt.same _
 | odd h =>
  obtain ⟨a,o,ob,h1,h2⟩:=h;have:=(I.bs a ob (I.ok.mod.kin a ob h2)).2;rw [h1] at this;cases this
 | nt hb =>
  intro A u v d f m;cases d;cases f;obtain ⟨l,r2,k,p⟩:=I.tuple hb;exact SeqAt.EqAt.none_tuple k (by omega)
 | tn hb =>
  intro A u v d f m;cases d;cases f;obtain ⟨l,r2,k,p⟩:=I.tuple hb;exact SeqAt.EqAt.tuple_none k (by omega)
 | @lst n a b xs ys e ha hb hl hne he ih =>
  intro A u v d f m;cases d;cases f;obtain ⟨q,t,g,F,P⟩:=I.lst ha;obtain ⟨l,C,r2,M,p⟩:=I.lst hb;have O:=g.length;have N:=r2.length;rw [show xs.length=q.toArray.size by simp only [size_toArray];omega];refine SeqAt.EqAt.of_refs hne (SeqAt.RcAt.lists ⟨_,F,rfl,t,rfl⟩ ⟨_,M,rfl,C,rfl⟩ (by simp only [size_toArray];omega) (by omega) fun j L B=>?_);obtain ⟨x1,G,E⟩:=ydJ g L;obtain ⟨J,D,w⟩:=ydJ r2 B;exact ih j x1 J G D E w (by show A.units+1+n<cLine;omega)
 | @lstN n a b xs ys ha hb hl =>
  intro A u v d f m;cases d;cases f;obtain ⟨q,t,g,F,P⟩:=I.lst ha;obtain ⟨l,C,r2,M,p⟩:=I.lst hb;have O:=g.length;have N:=r2.length;have hne:a≠b:=fun z=>by subst z;rw [ha] at hb;cases hb;exact hl rfl
  exact SeqAt.EqAt.of_refs hne (SeqAt.RcAt.lists_lengths ⟨_,F,rfl,t,rfl⟩ ⟨_,M,rfl,C,rfl⟩ (by simp only [size_toArray,bne_iff_ne];omega) (by omega))
 | @tup n a b xs ys e ha hb hne he ih =>
  intro A u v d f m;cases d;cases f;obtain ⟨q,g,Q,P⟩:=I.tuple ha;obtain ⟨l,r2,k,p⟩:=I.tuple hb;have O:=g.length;have N:=r2.length;rw [show xs.length=q.toArray.size by simp only [size_toArray];omega,show ys.length=l.toArray.size by simp only [size_toArray];omega];refine SeqAt.EqAt.of_refs hne (SeqAt.RcAt.tuples Q k (by omega) fun j L B=>?_);obtain ⟨x1,G,E⟩:=ydJ g L;obtain ⟨J,D,w⟩:=ydJ r2 B;exact ih j x1 J G D E w (by show A.units+1+n<cLine;omega)
theorem yCz (M:X.A.units+60<cLine):OpR X (compareOp .Eq) (yGI X.K):=by
 intro G s Z H x y v u Q I f i h;obtain ⟨b,hb,q⟩:=h;cases hb with
 | nt hb =>
  cases f;cases i;obtain ⟨k,r2,g,l⟩:=I.tuple hb;exact SeqAt.RcAt.none_tuple g (by omega) _ _ _ _ ⟨.bl _,H,I,rfl,q⟩
 | tn hb =>
  cases f;cases i;obtain ⟨k,r2,g,l⟩:=I.tuple hb;exact SeqAt.RcAt.tuple_none g (by omega) _ _ _ _ ⟨.bl _,H,I,rfl,q⟩
 | @lst a b xs ys e ha hb hl he =>
  cases f;cases i;obtain ⟨m,t,d,z,F⟩:=I.lst ha;obtain ⟨k,A,r2,D,l⟩:=I.lst hb;have J:=d.length;have E:=r2.length;rw [show xs.length=m.toArray.size by simp only [size_toArray];omega] at q;refine SeqAt.RcAt.lists ⟨_,z,rfl,t,rfl⟩ ⟨_,D,rfl,A,rfl⟩ (by simp only [size_toArray];omega) (by omega) (fun j o r=>?_) _ _ _ _ ⟨.bl _,H,I,rfl,q⟩;obtain ⟨x1,p,w⟩:=ydJ d o;obtain ⟨C,B,n⟩:=ydJ r2 r;exact ypd I (he j x1 C p B) w n (by show X.A.units+1+40<cLine;omega)
 | @lstN a b xs ys ha hb hl =>
  cases f;cases i;obtain ⟨m,t,d,z,F⟩:=I.lst ha;obtain ⟨k,A,r2,D,l⟩:=I.lst hb;have J:=d.length;have E:=r2.length;exact SeqAt.RcAt.lists_lengths ⟨_,z,rfl,t,rfl⟩ ⟨_,D,rfl,A,rfl⟩ (by grind) (by omega) _ _ _ _ ⟨.bl _,H,I,rfl,q⟩
 | @tup a b xs ys e ha hb he =>
  cases f;cases i;obtain ⟨m,d,L,F⟩:=I.tuple ha;obtain ⟨k,r2,g,l⟩:=I.tuple hb;have J:=d.length;have E:=r2.length;rw [show xs.length=m.toArray.size by simp only [size_toArray];omega,show ys.length=k.toArray.size by simp only [size_toArray];omega] at q;refine SeqAt.RcAt.tuples L g (by omega) (fun j o r=>?_) _ _ _ _ ⟨.bl _,H,I,rfl,q⟩;obtain ⟨x1,p,w⟩:=ydJ d o;obtain ⟨C,B,n⟩:=ydJ r2 r;exact ypd I (he j x1 C p B) w n (by show X.A.units+1+40<cLine;omega)
theorem ysk (hu:X.A.units+60<cLine):OpR X (compareOp .NotEq) (yGJ X.K):=by
 intro pins s Z H x y v u Q I rx ry h;obtain ⟨b,hb,q⟩:=h;cases hb with
 | nt hb =>
  cases rx;cases ry;obtain ⟨i2,r2,p2,z2⟩:=I.tuple hb;exact SeqAt.RcNeAt.none_tuple p2 (by omega) _ _ _ _ ⟨.bl _,H,I,rfl,q⟩
 | tn hb =>
  cases rx;cases ry;obtain ⟨i2,r2,p2,z2⟩:=I.tuple hb;exact SeqAt.RcNeAt.tuple_none p2 (by omega) _ _ _ _ ⟨.bl _,H,I,rfl,q⟩
 | @lst a b xs ys e ha hb hl he =>
  cases rx;cases ry;obtain ⟨i1,n1,r1,e1,z1⟩:=I.lst ha;obtain ⟨i2,n2,r2,e2,z2⟩:=I.lst hb;have l1:=r1.length;have l2:=r2.length;rw [show xs.length=i1.toArray.size by simp only [size_toArray];omega] at q;refine SeqAt.RcNeAt.lists ⟨_,e1,rfl,n1,rfl⟩ ⟨_,e2,rfl,n2,rfl⟩ (by simp only [size_toArray];omega) (by omega) (fun j j1 j2=>?_) _ _ _ _ ⟨.bl _,H,I,rfl,q⟩;obtain ⟨x1,q1,w1⟩:=ydJ r1 j1;obtain ⟨y1,q2,w2⟩:=ydJ r2 j2;exact ypd I (he j x1 y1 q1 q2) w1 w2 (by show X.A.units+1+40<cLine;omega)
 | @lstN a b xs ys ha hb hl =>
  cases rx;cases ry;obtain ⟨i1,n1,r1,e1,z1⟩:=I.lst ha;obtain ⟨i2,n2,r2,e2,z2⟩:=I.lst hb;have l1:=r1.length;have l2:=r2.length;exact SeqAt.RcNeAt.lists_lengths ⟨_,e1,rfl,n1,rfl⟩ ⟨_,e2,rfl,n2,rfl⟩ (by simp only [size_toArray,bne_iff_ne];omega) (by omega) _ _ _ _ ⟨.bl _,H,I,rfl,q⟩
 | @tup a b xs ys e ha hb he =>
  cases rx;cases ry;obtain ⟨i1,r1,p1,z1⟩:=I.tuple ha;obtain ⟨i2,r2,p2,z2⟩:=I.tuple hb;have l1:=r1.length;have l2:=r2.length;rw [show xs.length=i1.toArray.size by simp only [size_toArray];omega,show ys.length=i2.toArray.size by simp only [size_toArray];omega] at q;refine SeqAt.RcNeAt.tuples p1 p2 (by omega) (fun j j1 j2=>?_) _ _ _ _ ⟨.bl _,H,I,rfl,q⟩;obtain ⟨x1,q1,w1⟩:=ydJ r1 j1;obtain ⟨y1,q2,w2⟩:=ydJ r2 j2;exact ypd I (he j x1 y1 q1 q2) w1 w2 (by show X.A.units+1+40<cLine;omega)
theorem ype (r:Room k A):A.units+60<cLine:=by have:=r.un;omega
end
section
variable {X:Cx}{A:Nat->Addr}{o e:Expr}{es:List Expr}{xa xb:XE}{aa:XA}{pos apos pos':Pos}{m f:Str}{n k kc:Nat}{pl:Sem Bool}{p:Fn}{fa:Addr}{fd:FuncData}{ps:List Str}
theorem ycr {st:Stmt}:ZS X A st yfE:=wS ytQ (yvd)
theorem yp (l:ZE X A o xa) (i:Meth X.K (A kc) m fa) (F:FnOk X.prog X.w X.K X.mg X.base CX0 k fa fd ps (spE (ckX X A) (n+1) p)) (h:Binds X.K fd ps []) (d:ZA X A (e::es) n aa) (c:Cls X.K (A kc):=by exact T.cl _) (hr:Room k X.A:=by exact hr.mono (by omega)) (b:starEach (e::es) X.env=(false,eval e X.env)::starEach es X.env:=by rfl) (a:(backTo pos (starEach es X.env)).any (·.1)=false:=by rfl) (j:eval (.Call (.Attribute o m apos) (e::es) [] pos) X.env=(do
   let g <- eval o X.env
   standAt apos.atName
   let (f,first) <- holding [g] (getMethod g m pl)
   callWith pos f first (backTo pos (starEach (e::es) X.env)) (backToKw pos (keywordEach [] X.env))):=by rfl) :
  ZE X A (.Call (.Attribute o m apos) (e::es) [] pos) (yi kc m p xa aa):=wE (yxV l.of c i F hr h .nil ylw d.of b a j) (ymb sE sA d.len)
theorem yu (b:ZE X A o xa) (h:Meth X.K (A kc) m fa) (F:FnOk X.prog X.w X.K X.mg X.base CX0 k fa fd ps (spE (ckX X A) 1 p)) (d:Binds X.K fd ps []) (c:Cls X.K (A kc):=by exact T.cl _) (hr:Room k X.A:=by exact hr.mono (by omega)) (g:eval (.Call (.Attribute o m apos) [] [] pos) X.env=(do
   let a <- eval o X.env
   standAt apos.atName
   let (f,first) <- holding [a] (getMethod a m pl)
   callWith pos f first (backTo pos (starEach [] X.env)) (backToKw pos (keywordEach [] X.env))):=by rfl) :
  ZE X A (.Call (.Attribute o m apos) [] [] pos) (yi kc m p xa yh):=wE (yud b.of c h F hr d .nil ylw g) (ymb sE ykj ynx)
theorem ybN (d:∀ k∈cs,Cls X.K (A k)/\NoAttr X.K (A k) f) (c:ZE X A o xa) (b:ZE X A value xb) (hs:swapsWith value (some (.Attribute o f pos')) pos.line X.env=pure false:=by rfl) :
  ZS X A (.Assign [.Attribute o f pos'] value pos) (ydm cs f xa xb):=wS (ywB c.of b.of hs) (yve d sE sE)
end
end PX
namespace KasS
open PySem PySem.W PyProof.Rows
noncomputable def run {Y:Type}(lt:Nat->Nat->Bool):KasT Y->Y
 | .ret a=>a
 | .ask i j k=>run lt (k (lt i j))
noncomputable def yvp {Y:Type}(P:Nat->Prop) (lt:Nat->Nat->Bool):KasT Y->Prop
 | .ret _=>True
 | .ask i j k=>P i/\P j/\yvp P lt (k (lt i j))
theorem yCA {Y:Type}(f:∀ i j C,P i->P j->C (lt i j) s->e i j C s) {Q:Y->Shared->Prop} :
  ∀ t,yvp P lt t->Q (run lt t) s->t.kasWp e Q s
 | .ret _,_,h=>h
 | .ask i j k,⟨a,b,c⟩,h=>f i j _ a b (yCA f _ c h)
section
variable (key:Nat->Int)
noncomputable def ltK (i j:Nat):Bool:=decide (key i<key j)
noncomputable def Kp (p:Array Nat) (i:Nat):Int:=key (p[i]?.getD 0)
def Up (p:Array Nat) (k:Nat):Prop:=∀ i j,i<=j->j<k->Kp key p i<=Kp key p j
variable {key}
noncomputable def AllIn {Y:Type}(n:Nat):KasT Y->Bool
 | .ret _=>true
 | .ask i j k=>decide (i<n) && decide (j<n) && AllIn n (k true) && AllIn n (k false)
theorem yxg {Y:Type}{n:Nat}{lt lt':Nat->Nat->Bool}(e:∀ i j,i<n->j<n->lt i j=lt' i j):∀ t:KasT Y,AllIn n t=true->yvp (· < n) lt t/\run lt t=run lt' t
 | .ret _,_=>⟨trivial,rfl⟩
 | .ask i j k,h=>by unfold AllIn at h;simp only [and_eq_true,decide_eq_true_eq] at h;obtain ⟨⟨⟨h1,h2⟩,h3⟩,h4⟩:=h;have q:=yxg e (k (lt i j)) (by cases lt i j<;>assumption);exact ⟨⟨h1,h2,q.1⟩,by show run lt (k (lt i j))=run lt' (k (lt' i j));rw [q.2,e i j h1 h2]⟩
def okB (n:Nat) (lt:Nat->Nat->Bool):Bool:=(run lt (kas_sort n)).toList.isPerm (List.range n) && (List.range n).all fun i=>(List.range i).all fun j=>!(lt ((run lt (kas_sort n))[i]?.getD 0) ((run lt (kas_sort n))[j]?.getD 0))
noncomputable def rt (a b c d:Nat) (i j:Nat):Bool:=decide ([a,b,c,d].getD i 0<[a,b,c,d].getD j 0)
theorem yCB:∀ a,a<4->∀ b,b<4->∀ c,c<4->∀ d,d<4->(okB 2 (rt a b c d) && okB 3 (rt a b c d) && okB 4 (rt a b c d))=true:=by rfl'
theorem yCC:(AllIn 2 (kas_sort 2) && AllIn 3 (kas_sort 3) && AllIn 4 (kas_sort 4))=true:=by rfl'
noncomputable def lc (key:Nat->Int) (k i:Nat):Nat:=if key k<key i then 1 else 0
def rk (key:Nat->Int) (i:Nat):Nat:=lc key 0 i+lc key 1 i+lc key 2 i+lc key 3 i
theorem ysl (h:key i<=key j):lc key k i<=lc key k j:=by
 unfold lc;split
 .rw [if_pos (by omega)];exact Nat.le_refl _
 .exact zero_le _
theorem yFz (h:key i<=key j):rk key i<=rk key j:=Nat.add_le_add (Nat.add_le_add (Nat.add_le_add (ysl h) (ysl h)) (ysl h)) (ysl h)
theorem yFA (hi:i<4) (h:key i<key j):rk key i<rk key j:=by
 have a:=fun k=>ysl (k:=k) (Int.le_of_lt h)
 have b:lc key i i=0:=if_neg (Int.lt_irrefl _);have c:lc key i j=1:=if_pos h;have a0:=a 0;have a1:=a 1;have a2:=a 2;have a3:=a 3;unfold rk
 match i,hi with
 | 0,_|1,_|2,_|3,_=>omega
theorem yDY (hi:i<4):rk key i<4:=by
 have a:∀ k,lc key k i<=1:=fun k=>by unfold lc;split<;>decide
 have b:lc key i i=0:=if_neg (Int.lt_irrefl _);have a0:=a 0;have a1:=a 1;have a2:=a 2;have a3:=a 3;unfold rk
 match i,hi with
 | 0,_|1,_|2,_|3,_=>omega
theorem yFB:∀ i j,i<4->j<4->ltK key i j=rt (rk key 0) (rk key 1) (rk key 2) (rk key 3) i j:=fun i j hi hj=>by
 have g:∀ i,i<4->[rk key 0,rk key 1,rk key 2,rk key 3].getD i 0=rk key i
  | 0,_|1,_|2,_|3,_=>rfl
 unfold ltK rt;rw [g i hi,g j hj];refine decide_eq_decide.mpr ⟨yFA hi,fun h=>Classical.byContradiction fun z=>?_⟩;have:=yFz (key:=key) (Int.not_lt.mp z);omega
theorem yvq (hn:n=2\/n=3\/n=4):yvp (· < n) (ltK key) (kas_sort n)/\(run (ltK key) (kas_sort n)).Perm (toArray (List.range n))/\Up key (run (ltK key) (kas_sort n)) n:=by
 have k:=yCB _ (yDY (key:=key) (show 0<4 by decide)) _ (yDY (key:=key) (show 1<4 by decide)) _ (yDY (key:=key) (show 2<4 by decide)) _ (yDY (key:=key) (show 3<4 by decide));have ia:=yCC;simp only [and_eq_true] at k ia;have e:∀ i j,i<n->j<n->ltK key i j=rt (rk key 0) (rk key 1) (rk key 2) (rk key 3) i j:=fun i j hi hj=>yFB i j (by omega) (by omega)
 have q:=yxg e (kas_sort n) (by rcases hn with rfl|rfl|rfl<;>first|exact ia.1.1|exact ia.1.2|exact ia.2);have ok:okB n (rt (rk key 0) (rk key 1) (rk key 2) (rk key 3))=true:=by rcases hn with rfl|rfl|rfl<;>first|exact k.1.1|exact k.1.2|exact k.2
 unfold okB at ok;rw [<- q.2,and_eq_true] at ok;have p:(run (ltK key) (kas_sort n)).Perm (toArray (List.range n)):=Array.Perm.of_toList_perm (List.isPerm_iff.mp ok.1);refine ⟨q.1,p,fun i j h1 h2=>?_⟩
 by_cases z:i=j
 .rw [z];exact Int.le_refl _
 .have o:=ok.2;simp only [List.all_eq_true,List.mem_range,Bool.not_eq_true'] at o;have o:=o j h2 i (by omega);have lt:∀ t,t<n->(run (ltK key) (kas_sort n))[t]?.getD 0<n:=fun t ht=>by
   have l:(run (ltK key) (kas_sort n)).size=n:=by have:=p.size_eq;simpa using this
   rw [Array.getElem?_eq_getElem (by omega)];have:=p.mem_iff.mp (Array.getElem_mem (xs:=run (ltK key) (kas_sort n)) (i:=t) (by omega));simpa using this
  rw [<- e _ _ (lt j h2) (lt i (by omega))] at o;have:=of_decide_eq_false o;show key _<=key _;omega
end
open PySem.Calls
noncomputable def Tps (h:Heap):List Value->List (Int×Tok×Value)->Prop
 | [],[]=>True
 | v::vs,p::ps=>(∃ b o m,v=.ref b/\h.get? b=some o/\o.cls=.type "tuple"/\o.data=.seq #[.int p.1 p.2.1,p.2.2] m)/\Tps h vs ps
 | _,_=>False
theorem Tps.len:∀ {vs:List Value}{ps:List _},Tps h vs ps->ps.length=vs.length
 | [],[],_=>rfl
 | _::_,_::_,⟨_,t⟩=>by rw [length_cons,length_cons,Tps.len t]
 | [],_::_,t=>t.elim
 | _::_,[],t=>t.elim
theorem Tps.get:∀ {vs:List Value}{ps:List (Int×Tok×Value)},Tps h vs ps->∀ i,i<vs.length->∃ p b o m,ps[i]?=some p/\vs.getD i .none=.ref b/\h.get? b=some o/\o.cls=.type "tuple"/\o.data=.seq #[.int p.1 p.2.1,p.2.2] m
 | _::_,p::_,⟨⟨b,o,m,e1,e2,e3,e4⟩,_⟩,0,_=>⟨p,b,o,m,rfl,by rw [e1];rfl,e2,e3,e4⟩
 | _::vs,_::ps,⟨_,t⟩,i+1,hi=>by obtain ⟨p,b,o,m,e1,e2,e3⟩:=Tps.get t i (by simpa using hi);exact ⟨p,b,o,m,by simpa using e1,by simpa using e2,e3⟩
 | [],[],_,_,hi=>by simp at hi
 | [],_::_,t,_,_=>t.elim
 | _::_,[],t,_,_=>t.elim
theorem Tps.mono {h h':Heap}:∀ {vs:List Value}{ps:List _},Tps h vs ps->(∀ b o,Value.ref b∈vs->h.get? b=some o->h'.get? b=some o)->Tps h' vs ps
 | [],[],_,_=>trivial
 | _::_,_::_,⟨⟨b,o,m,d,c,e⟩,t⟩,k=>⟨⟨b,o,m,d,k b o (by simp_all) c,e⟩,Tps.mono t fun b o f=>k b o (mem_cons_of_mem _ f)⟩
 | [],_::_,t,_=>t.elim
 | _::_,[],t,_=>t.elim
theorem Tps.kat:∀ {vs:List Value}{ps:List _},Tps h vs ps->KatTups h vs (ps.map fun p=>Value.int p.1 p.2.1)
 | [],[],_=>trivial
 | _::_,p::_,⟨⟨b,o,m,d,c,f,e⟩,t⟩=>⟨⟨b,o,_,m,d,c,f,e,rfl⟩,Tps.kat t⟩
 | [],_::_,t=>t.elim
 | _::_,[],t=>t.elim
noncomputable def yfF (ps:List (Int×Tok×Value)) (i:Nat):Int:=((ps[i]?).map (·.1)).getD 0
theorem ysm {ps:List _}(d:(ps.map (·.1)).Nodup) (c:i<ps.length) (b:j<ps.length) (e:yfF ps i=yfF ps j):i=j:=by
 unfold yfF at e;rw [List.getElem?_eq_getElem c,List.getElem?_eq_getElem b] at e;have h1:i<(ps.map (·.1)).length:=by simpa using c
 have h2:j<(ps.map (·.1)).length:=by simpa using b
 exact (List.getElem_inj (h₀:=h1) (h₁:=h2) d).mp (by simpa using e)
section
variable {prog:Program}{w:World}{A:Around}{E:Value->Shared->Prop}{s:Shared}
theorem yzg (c:Tps s.heap vs ps) (t:(ps.map (·.1)).Nodup) (i j:Nat) C (n:i<vs.length) (l:j<vs.length) (f:C (ltK (yfF ps) i j) s) :
  kas_ask prog w A (tuples' true) vs i j C s:=by
 obtain ⟨p,b,o,m,k,q,z,D,v⟩:=c.get i n;obtain ⟨d,G,H,m',h,u,r,F,B⟩:=c.get j l;have k1:yfF ps i=p.1:=by unfold yfF;rw [k];rfl
 have k2:yfF ps j=d.1:=by unfold yfF;rw [h];rfl
 unfold ltK at f;rw [k1,k2] at f;unfold kas_ask;rw [q,u];refine kat_lt z v r B ?_;refine kat_cons (L2.eqAt_V (y:=.int p.1) (x:=.int d.1) ⟨_,rfl⟩ ⟨_,rfl⟩ rfl rfl prog w _ _ ?_);show KatGo prog w A true _ C _ _ _ 0 (p.1 == d.1) s
 by_cases e:p.1=d.1
 .rw [beq_iff_eq.mpr e];have g:i=j:=ysm t (by rw [c.len];exact n) (by rw [c.len];exact l) (by rw [k1,k2,e]);subst g;rw [k] at h;cases h;refine kat_yes (kat_cons (SeqAt.EqAt.same _ prog w _ _ (kat_yes (kat_nil ?_))));grind
 .rw [beq_eq_false_iff_ne.mpr e];exact kat_no (oneLt_int f)
theorem yvr {vs:List Value}(ho:s.heap.get? a=some (seqObj "list" vs.toArray n)) (tp:Tps s.heap vs ps) (na:Value.ref a∉vs) (hn:(ps.map (·.1)).Nodup) (h64:vs.length<5)
  (h:∀ q:Array Nat,q.Perm (toArray (List.range vs.length))->Up (yfF ps) q vs.length->P (.done (.ret .none)) { s with heap:=sortedHeap s.heap a vs (toArray (q.toList.map fun i=>vs.getD i Value.none)) }) :
  wpAny (model prog w) A (Builtin.«list.sort» ⟨[.ref a],[]⟩) P E s:=by
 have ha:a<s.heap.objs.size:=Heap.lt_size ho;have z64:vs.length<=sizeLine:=by rw [sizeLine_eq];omega
 rw [list_sort_plain];obtain ⟨e1,ho1⟩:∃ e1,(s.heap.update a (Obj.mapSeq fun _=>(#[]:Array Value))).get? a=some (seqObj "list" #[] e1):=⟨_,get?_update_seq ho _⟩
 refine wpAny_bind (listItems_at ho rfl (wpAny_bind (listUpdate_at ho rfl (wpAny_bind (seqEpoch_at ho1 rfl (wpAny_bind (wpAny_newTuple (wpAny_bind (wpAny_newList (wpAny_holding ?_) (zero_le _))) (by simpa using z64))))) (by simpa using z64) (zero_le _))));generalize hH:((s.heap.update a (Obj.mapSeq fun _=>(#[]:Array Value))).push (seqObj "tuple" vs.toArray 0)).push (seqObj "list" #[] 0)=H6;have keep:∀ b o,b≠a->s.heap.get? b=some o->H6.get? b=some o:=fun b o hb e=>by rw [<- hH];exact Heap.get?_push_of_some _ (Heap.get?_push_of_some _ ((Heap.get?_update_other _ _ (Ne.symm hb)).trans e))
 have ho6:H6.get? a=some (seqObj "list" #[] e1):=by rw [<- hH];exact Heap.get?_push_of_some _ (Heap.get?_push_of_some _ ho1)
 have tp6:Tps H6 vs ps:=tp.mono fun b o hb e=>keep b o (fun z=>na (z ▸ hb)) e
 show wpAny (model prog w) A _ P E { s with heap:=H6 };dsimp only;have fin:∀ q:Array Nat,q.Perm (toArray (List.range vs.length))->Up (yfF ps) q vs.length->P (.done (.ret .none)) { s with heap:=H6.update a (Obj.mapSeq fun _=>toArray (q.toList.map fun i=>vs.getD i Value.none)) }:=fun q h1 h2=>by have:=h q h1 h2;unfold sortedHeap at this;rw [show ((s.heap.update a (Obj.mapSeq fun _=>(#[]:Array Value))).push (seqObj "tuple" vs.toArray 0)).push (seqObj "list" #[] 0)=H6 from hH] at this;exact this
 by_cases h2:vs.toArray.size<2
 .rw [if_pos h2,if_pos h2];refine wpAny_bind (wpAny_pure ?_);rw [StateT.run_pure];have hz:((arrOf (SortSt.mk' general' (vs.toArray.zip vs.toArray) #[] 7 none)).map (·.2))=toArray ((toArray (List.range vs.length)).toList.map fun i=>vs.getD i Value.none):=by
   show (vs.toArray.zip vs.toArray).map (·.2)=_;apply Array.toList_inj.mp;simp only [Array.toList_map,Array.toList_zip,List.map_snd_zip (Nat.le_refl _)];apply List.ext_getElem
   .simp
   .intro i h3 h4;simp;rw [List.getElem?_eq_getElem (by simpa using h3)];rfl
  refine wpAny_bind (wpAny_pure (wpAny_bind (seqEpoch_at ho6 rfl (wpAny_bind (listUpdate_at ho6 rfl ?_ (zero_le _) ?_)))))
  .dsimp only;rw [hz];simp only [bne_self_eq_false,Bool.false_eq_true,if_false];exact wpAny_pure (fin _ (Array.Perm.refl _) fun i j hij hj=>by rw [show i=j by (simp at h2);omega];exact Int.le_refl _)
  .rw [hz];simp;omega
 .rw [if_neg h2,if_neg h2];have hv2:2<=vs.length:=by simp at h2;omega
  refine wpAny_bind (kat_kind (s:={ s with heap:=H6 }) (T:=.type "int") tp6.kat (by rw [length_map,tp.len];omega) (fun v hv=>?_) rfl ?_)
  .obtain ⟨p,_,rfl⟩:=List.mem_map.mp hv;exact .now
  have h2:=yvq (key:=yfF ps) (show vs.length=2\/vs.length=3\/vs.length=4 by omega);have run1:=kat_run (prog:=prog) (w:=w) (A:=A) (E:=E) (s:={ s with heap:=H6 }) (κ:=tuples' true) (ks:=vs) (vs:=vs)
   (Q:=fun st' s'=>s'={ s with heap:=H6 }/\∃ q:Array Nat,q.Perm (toArray (List.range vs.length))/\Up (yfF ps) q vs.length/\(arrOf st').map (·.2)=toArray (q.toList.map fun i=>vs.getD i Value.none)/\failedOf st'=none)
   (G:=fun q s'=>s'={ s with heap:=H6 }/\q.Perm (toArray (List.range vs.length))/\Up (yfF ps) q vs.length) rfl hv2 (by omega)
   (fun q st' s' z1 z2 z3 z4=>⟨z4.1,q,z4.2.1,z4.2.2,kat_snds rfl z2,z3⟩)
   (yCA (P:=(· < vs.length)) (lt:=ltK (yfF ps)) (fun i j C hi hj hC=>yzg tp6 hn i j C hi hj hC) _ h2.1 ⟨rfl,h2.2⟩)
  refine wpAny_bind (wpAny_mono run1 ?_ fun _ _ x=>x);rintro ⟨⟨⟩,st'⟩ s' ⟨rfl,q,z1,z2,z3,z4⟩;refine wpAny_bind (seqEpoch_at ho6 rfl (wpAny_bind (listUpdate_at ho6 rfl ?_ (zero_le _) ?_)))
  .dsimp only;rw [z3,z4];simp only [bne_self_eq_false,Bool.false_eq_true,if_false];exact wpAny_pure (fin q z1 z2)
  .dsimp only;rw [z3];have:=z1.size_eq;simp at this ⊢;omega
end
end KasS
namespace PXS
open PySem L2 PySem.Spec PyProof.Rows KasS PX
theorem yvs (x:ObjOk P w H h a o):∃ u,h.get? a=some u:=by
 cases o with
 | lst xs=>obtain ⟨_,_,_,_,e⟩:=x;exact ⟨_,e⟩
 | tup xs=>obtain ⟨_,_,_,ob,e,_⟩:=x;exact ⟨_,e⟩
 | dK kvs=>obtain ⟨_,_,_,_,o,_,_,e,_⟩:=x;exact ⟨_,e⟩
 | dT kvs=>obtain ⟨_,_,_,_,o,_,_,e,_⟩:=x;exact ⟨_,e⟩
 | set S n=>obtain ⟨o,_,_,_,e,_⟩:=x;exact ⟨_,e⟩
 | ins C dx fs=>obtain ⟨_,_,_,e,_⟩:=x;exact ⟨_,e⟩
 | own y=>obtain ⟨_,e⟩:=x;exact ⟨_,e⟩
 | xd fs=>obtain ⟨_,⟨_,_,_,e,_⟩,_⟩:=x;exact ⟨_,e⟩
 | rng lo hi=>obtain ⟨_,_,_,e⟩:=x;exact ⟨_,e⟩
 | frz ob u=>obtain ⟨e,_⟩:=x;exact ⟨_,e⟩
 | tbl ps=>exact ⟨_,x⟩
 | met f y=>exact ⟨_,x⟩
 | ext R=>obtain ⟨_,⟨_,e⟩,_⟩:=x;exact ⟨_,e⟩
section
variable {X:Cx}
theorem yvt:MtM X "dict.items" ywY:=by intro c s Z H x vs v us Q I j l h;obtain ⟨d,kvs,rfl,rfl,g,q⟩:=h;cases j;have b:=l.zero;subst b;obtain ⟨z,i,ws,m,f⟩:=I.hok d _ g;refine call_meetsIn PySem.F.slot_dict_items f.typeIs PySem.F.entry_dict_items (PySem.F.args_dict_items_1 _) (meets_dict_items _ d i) ⟨⟨ws,f⟩,?_⟩;refine ⟨.ref _,_,I.laid (o:=ypX s.heap.objs.size d) (fun _ _ q=>Heap.get?_push_of_some _ q) (Nat.le_refl _) ⟨Heap.get?_push_size _ rfl,⟨_,Heap.get?_push_size _ rfl⟩,fun h1 h2 e k=>k _ e⟩,rfl,q _ I.fresh⟩
theorem yzh {d:List _}{Z:L2.St}{H f:Hp}{s:Shared}{h':Heap}{t':Nat}(I:Inv X d Z H s) (k:∀ b u,s.heap.get? b=some u->h'.get? b=some u) (sub:∀ b o,H b=some o->f b=some o)
  (h:∀ b o,H b=none->f b=some o->s.heap.get? b=none/\ObjOk X.prog X.w f h' b o):Inv X d Z f { s with heap:=h',toks:=t' }:=by
 refine I.un ⟨fun b u q _ _ _=>k b u q,fun b u q _ _ _=>⟨u.slots,k b u q⟩,fun b u q n _=>?_,fun b u q _=>⟨u,k b u q⟩,fun b xs q=>sub _ _ q,fun b u xs q=>sub _ _ q,fun b ps q=>⟨#[],by rw [sub _ _ q];simp⟩⟩ fun b o e=>?_
 .cases e:f b with
  | none=>rfl
  | some o=>simp_all
 .cases g:H b with
  | none=>exact (h b o g e).2
  | some u =>
   have:=sub _ _ g;rw [e] at this;cases this;exact (I.hok b o g).stay (fun c v _ q=>k c v q) (fun c q=>sub _ _ q) fun c xs q=>sub _ _ q
theorem yxh {h:Heap}:∀ (f:List Addr) (ws:List (Key×Value)) (ns:List Int),f.length=ws.length->ws.map (·.1)=ns.map Sum.inl ->
  (∀ (j:Nat) a,f[j]?=some a->∃ key k x,ws[j]?=some (k,x)/\ymV k key=true/\h.get? a=some { cls:=.type "tuple",data:=.seq #[key,x] }) ->
  ∃ ps,Tps h (f.map Value.ref) ps/\ps.map (·.1)=ns/\ps.map (·.2.2)=ws.map (·.2)
 | [],[],ns,_,e,_=>⟨[],trivial,by simp_all,rfl⟩
 | [],_::_,_,hl,_,_=>by simp at hl
 | _::_,[],_,hl,_,_=>by simp at hl
 | a::f,(k,x)::ws,ns,hl,e,hp=>by
  cases ns with
  | nil=>simp at e
  | cons n ns =>
   simp only [map_cons,List.cons.injEq] at e;obtain ⟨ps,t,s,r⟩:=yxh f ws ns (by simpa using hl) e.2 fun j b p=>by obtain ⟨key,o,x',l,i,m⟩:=hp (j+1) b (by simpa using p);exact ⟨key,o,x',by simpa using l,i,m⟩
   obtain ⟨key,o,x',l,i,m⟩:=hp 0 a rfl;obtain ⟨rfl,rfl⟩:=l;obtain ⟨j,d,g,rfl⟩:∃ j d,k=Sum.inl j/\key=Value.int j d:=by
    rcases ybz i with ⟨j,d,g,q⟩|⟨y,d,g,q⟩
    .simp_all
    simp_all
   rw [g] at e;obtain rfl:j=n:=by injection e.1
   exact ⟨(j,d,x)::ps,⟨⟨a,_,_,rfl,m,rfl,rfl⟩,t⟩,by simp_all,by simp_all⟩
theorem yeJ {Y:Type}:∀ {d:List Addr}{ts:List Y}{b:Addr}{t:Y},(d.zip ts).lookup b=some t->∃ j:Nat,d[j]?=some b/\ts[j]?=some t
 | [],_,_,_,h=>by simp at h
 | _::_,[],_,_,h=>by simp at h
 | a::d,u::ts,b,t,h=>by
  rw [zip_cons_cons,lookup_cons] at h;split at h
  .rename_i e;cases h;exact ⟨0,by rw [eq_of_beq e];rfl,rfl⟩
  .obtain ⟨j,h1,h2⟩:=yeJ h;exact ⟨j+1,by simpa using h1,by simpa using h2⟩
theorem ypf:∀ {kvs:List (Key×V)}{ws:List _},KV kvs ws->ws.map (·.1)=kvs.map (·.1)/\∀ i,i<kvs.length->RelV ((kvs.map (·.2)).getD i .non) ((ws.map (·.2)).getD i .none):=by
 intro kvs ws h
 induction h with
 | nil=>exact ⟨rfl,fun i b=>rfl⟩
 | @cons p q _ _ h1 _ ih =>
  refine ⟨by rw [map_cons,map_cons,ih.1,h1.1],fun i b=>?_⟩;cases i with
  | zero=>exact h1.2
  | succ i=>simpa using ih.2 i (by simpa using b)
theorem ypg {Y:Type}{f:Y->V}{g:Y->Value}:∀ {l:List Y},(∀ i∈l,RelV (f i) (g i))->Vals (l.map f) (l.map g)
 | [],_=>.nil
 | i::l,h=>.cons (h i mem_cons_self) (ypg fun j b=>h j (mem_cons_of_mem _ b))
theorem yhC (hc:X.calm=true):yfR X (.builtin "sorted") rSI:=by
 intro pins s K H xs us Q I rr hh;obtain ⟨r,d,kvs,ns,rfl,hr,hd,hk,h64,q⟩:=hh;obtain ⟨u,rfl,rx⟩:=vals1 rr;cases rx;obtain ⟨W,_,_⟩:=I.hok r _ hr;obtain ⟨z,sy,ws,kv,hD⟩:=I.hok d _ hd;obtain ⟨ep,hat⟩:=hD.dictAt;obtain ⟨M,kv2⟩:=ypf kv;have lw:ws.length=kvs.length:=by have:=congrArg length M;simpa using this
 have ln:ns.length=kvs.length:=by have:=congrArg length hk;simpa using this.symm
 have nd:ns.Nodup:=by obtain ⟨_,_,_,_,_,_,_,_,n⟩:=hD;rw [M,hk] at n;exact (List.pairwise_map.mp n).imp fun h e=>h (by rw [e])
 refine Calls.call_function_entry kind_sorted plain_sorted entry_sorted (args_sorted1 _) ?_;unfold Builtin.«sorted»;refine wpAny_bind (m:=checkCount "sorted" 1 1 _) (wpAny_pure ?_);refine wpAny_bind (PySem.W.kdx_collect (A:=X.A.in1) (knd:=ydc X.prog X.w) (kvs:=ws) (ep:=ep) (I.ok.hd hc) ⟨_,W,rfl,rfl⟩ hat (by rw [lw];exact z) fun h' P g N hl hG=>wpAny_bind (wpAny_newList ?_ (by rw [length_map,hl,lw];exact z)));obtain ⟨ps,tp,e1,G⟩:=yxh (h:=h') g ws ns hl (by rw [M,hk]) fun j a v=>hG.pairs j a v
 have la:g.length=ns.length:=by omega
 have U:∀ a∈g,s.heap.objs.size<a:=hG.above;have F:∀ a∈g,a<h'.objs.size:=fun a v=>hG.there v
 generalize hB:h'.objs.size=B at *;have L:s.heap.get? B=none:=by
  cases e:s.heap.get? B with
  | none=>rfl
  | some o=>exact absurd (Heap.lt_size (N B o e)) (by rw [hB];exact lt_irrefl _)
 have T:∀ a∈g,s.heap.get? a=none:=fun a v=>Heap.get?_none_of_le (le_of_lt (U a v))
 have D:∀ b,s.heap.get? b=none->H b=none:=fun b e=>by
  cases G:H b with
  | none=>rfl
  | some o=>obtain ⟨u,hu⟩:=yvs (I.hok b o G);rw [e] at hu;cases hu
 have Y:(h'.push { cls:=.type "list",data:=.seq (g.map Value.ref).toArray }).get? B=some (seqObj "list" (g.map Value.ref).toArray 0):=by rw [<- hB];exact Heap.get?_push_size _ rfl
 refine wpAny_bind (wpAny_holding (wpAny_call_entry PySem.F.slot_list_sort ⟨_,Y,rfl⟩ PySem.F.entry_list_sort ?body (PySem.F.args_list_sort_1 _)))
 case body =>
  refine yvr (s:={ s with heap:=h'.push { cls:=.type "list",data:=.seq (g.map Value.ref).toArray },toks:=P }) (ps:=ps) Y (tp.mono fun b o _ e=>Heap.get?_push_of_some _ e) (fun z=>?_) (by rw [e1];exact nd) (by rw [length_map];omega) fun w z1 z2=>?_
  .obtain ⟨a,v,e⟩:=List.mem_map.mp z;cases e;exact absurd (F B v) (lt_irrefl _)
  refine ⟨_,rfl,wpAny_pure ⟨_,rfl,?_⟩⟩;have lq:w.toList.length=ns.length:=by have:=z1.size_eq;simpa [la] using this
  have pq:w.toList.Perm (List.range ns.length):=by have:=Array.perm_iff_toList_perm.mp z1;simpa [la] using this
  have E:∀ i∈w.toList,i<ns.length:=fun i C=>by have:=pq.mem_iff.mp C;simpa using this
  have nda:g.Nodup:=hG.rise.imp fun h=>ne_of_lt h
  have ndq:w.toList.Nodup:=pq.nodup_iff.mpr List.nodup_range;generalize hS:sortedHeap (h'.push { cls:=.type "list",data:=.seq (g.map Value.ref).toArray }) B (g.map Value.ref) (toArray (w.toList.map fun i=>(g.map Value.ref).getD i Value.none))=S;have hFa:∀ b o,b≠B->h'.get? b=some o->S.get? b=some o:=fun b o hb e=>by rw [<- hS];unfold sortedHeap;exact (Heap.get?_update_other _ _ (Ne.symm hb)).trans (Heap.get?_push_of_some _ (Heap.get?_push_of_some _ ((Heap.get?_update_other _ _ (Ne.symm hb)).trans (Heap.get?_push_of_some _ e))))
  have hFB:∃ c,S.get? B=some (seqObj "list" (toArray (w.toList.map fun i=>(g.map Value.ref).getD i Value.none)) c):=by rw [<- hS];unfold sortedHeap;exact ⟨_,get?_update_seq (Heap.get?_push_of_some _ (Heap.get?_push_of_some _ (get?_update_seq Y _))) _⟩
  have hF:∀ b o,s.heap.get? b=some o->S.get? b=some o:=fun b o e=>hFa b o (fun z=>by rw [z,L] at e;cases e) (N b o e)
  have p:∀ i,i<ns.length->∃ a,g[i]?=some a/\g.getD i 0=a/\a∈g:=fun i C=>by
   have h1:i<g.length:=by omega
   exact ⟨g[i],List.getElem?_eq_getElem h1,by simp [getD,List.getElem?_eq_getElem h1],getElem_mem h1⟩
  have O:∀ a∈(w.toList.map fun i=>g.getD i 0),a∈g:=fun a v=>by obtain ⟨i,C,rfl⟩:=List.mem_map.mp v;obtain ⟨a,_,e,m⟩:=p i (E i C);rw [e];exact m
  have neB:∀ a∈g,a≠B:=fun a v=>ne_of_lt (F a v)
  have Z:∀ i,yfF ps i=ns.getD i 0:=fun i=>by unfold yfF;rw [<- e1];simp [getD]
  refine ⟨.ref B,yDW H B (w.toList.map fun i=>g.getD i 0) (w.toList.map fun i=>[V.int (ns.getD i 0),(kvs.map (·.2)).getD i .non]),?_,rfl,q B _ w.toList pq ?_ nd (by simp) ?_ ?_⟩
  .show L2.Inv X pins K _ { s with heap:=S,toks:=P };refine yzh I hF (fun b o e=>?_) fun b o e G=>?_
   .unfold yDW upd yoU;rw [if_neg fun z=>by rw [z,D _ L] at e;cases e];cases e3:List.lookup b ((w.toList.map fun i=>g.getD i 0).zip (w.toList.map fun i=>[V.int (ns.getD i 0),(kvs.map (·.2)).getD i .non])) with
    | none=>exact e
    | some t =>
     obtain ⟨j,l,_⟩:=yeJ e3;rw [D _ (T b (O b (mem_of_getElem? l)))] at e;cases e
   .unfold yDW upd yoU at G;split at G
    .rename_i hb;subst hb;cases G;obtain ⟨c,hc⟩:=hFB;refine ⟨L,by simp [lq];rw [ln];exact z,_,c,?_,hc⟩;rw [map_map];refine ypg fun i C=>?_
     obtain ⟨a,f1,f2,_⟩:=p i (E i C);show RelV (V.ref (g.getD i 0)) _;rw [f2];simp [getD,f1];rfl
    .split at G
     .rename_i t e3;cases G;obtain ⟨j,l,J⟩:=yeJ e3;rw [getElem?_map] at l J;cases e4:w.toList[j]? with
      | none=>rw [e4] at l;cases l
      | some i =>
       rw [e4] at l J;have C:=E i (mem_of_getElem? e4);obtain ⟨a,f1,f2,f3⟩:=p i C;simp only [map_some,Option.some.injEq] at l J;rw [f2] at l;subst l;subst J;obtain ⟨key,k,x,w1,w2,w3⟩:=hG.pairs i a f1;have wk:k=Sum.inl (ns.getD i 0):=by
        have h1:(ws.map (·.1))[i]?=some k:=by rw [getElem?_map,w1];rfl
        rw [M,hk,getElem?_map] at h1;rw [List.getElem?_eq_getElem C] at h1;simp [getD,List.getElem?_eq_getElem C] at h1 ⊢;exact h1.symm
       obtain ⟨tk2,rfl⟩:∃ P,key=Value.int (ns.getD i 0) P:=by
        rcases ybz w2 with ⟨j,P,l,J⟩|⟨y,P,l,J⟩
        .rw [wk] at l;cases l;exact ⟨P,J⟩
        .rw [wk] at l;cases l
       have wx:(ws.map (·.2)).getD i .none=x:=by simp [getD,w1]
       refine ⟨T a f3,by simp [sizeLine_eq],[_,x],.cons ⟨_,rfl⟩ (.cons ?_ .nil),_,hFa a _ (neB a f3) w3,rfl,_,rfl⟩;rw [<- wx];exact kv2 i (by omega)
     .rw [e] at G;cases G
  .refine List.pairwise_iff_getElem.mpr fun i j C hj R=>?_
   have:=z2 i j (le_of_lt R) (by simpa [la,lq] using hj);unfold Kp at this;rw [Z,Z] at this;have hi':i<w.size:=by simpa using C
   have hj':j<w.size:=by simpa using hj
   rw [Array.getElem?_eq_getElem hi',Array.getElem?_eq_getElem hj'] at this;simpa using this
  .intro a v;rcases mem_cons.mp v with rfl|v
   .exact D _ L
   .exact D _ (T a (O a v))
  .refine List.nodup_cons.mpr ⟨fun h=>neB _ (O _ h) rfl,?_⟩;refine List.pairwise_map.mpr (ndq.imp_of_mem fun {i j} C hj R e=>R ?_);obtain ⟨a,f1,f2,_⟩:=p i (E i C);obtain ⟨b,l,J,_⟩:=p j (E j hj);rw [f2,J] at e;subst e;exact (List.getElem?_inj (by have:=E i C;omega) nda).mp (f1.trans l.symm)
variable {A:Nat->Addr}{o:Expr}{xa:XE}{pos p apos cpos:Pos}{x:Str}
theorem z_sortI (h:ZE X A o xa) (j:X.mg x=none) (i:X.calm=true:=by rfl) (m:Nm x:=by exact ⟨by rfl',by rfl',by rfl'⟩) (f:Gl X x:=by rfl) (g:bootBuiltins x=some (.builtin "sorted"):=by rfl') (b:attributeBase o "items" X.env (eval o X.env)=eval o X.env:=by rfl) (c:(apos.endLine == cpos.line)=true:=by rfl) (e:starEach [.Call (.Attribute o "items" apos) [] [] cpos] X.env=(false,eval (.Call (.Attribute o "items" apos) [] [] cpos) X.env)::starEach [] X.env:=by rfl) (d:(backTo pos (starEach [] X.env)).any (·.1)=false:=by rfl) :
  ZO X A (.Call (.Name x p) [.Call (.Attribute o "items" apos) [] [] cpos] [] pos) (yim xa) :=
 wO (yjZ (yhC i) f j g (yfS (ywF PySem.F.plainAttrs_dict PySem.F.slot_dict_items PySem.F.type_dict_items yvt h.of b c) yjz e) m.n m.d e d) (yrR sE)
end
end PXS
namespace PX
open PySem L2 PySem.Spec PyProof.Rows
section
theorem yvu {P:Program}{w:World}{K:Frag}{O:Expr}(a l:Addr) (m:Nat):Turn P w K O (ItR K a m) [l] l (fun i h=>i<=m/\h.IsRevIter l a ((m:Int)-1-(i:Nat))) where
 mem:=by simp
 obj:=fun i h st b n=>by
  have e:b=l:=by simpa using n
  subst e;obtain ⟨_,o,e,c,d⟩:=st;simp_all
 keep:=fun i h h' st k=>⟨st.1,st.2.at fun o e=>k l (by simp) o e⟩
 item:=by
  intro X J G F C i q s σ H E I r st t;subst J G F;obtain ⟨Z,xs,x,D,B⟩:=t;obtain ⟨its,Y,p,hz⟩:=I.list D;obtain ⟨u,S,Q⟩:=Y.get B;obtain ⟨f0,z,T,A,v,y⟩:=r l (by simp);have U:(m:Int)-1-(i:Nat)=((m-1-i:Nat):Int):=by omega
  have g:=st.2;rw [U] at g;refine wpAny_pyNext_rev_item g p.isList (x:=u) (by simpa using S) fun h' j W=>?_
  have L:=I.turned (t':=s.toks) (fun b o n e=>(W.2 b n).trans e) f0 z A v y;obtain ⟨o,e,c,d⟩:=id j;have R:((m-1-i:Nat):Int)-1=(m:Int)-1-((i+1:Nat):Int):=by omega
  rw [R] at j;exact ⟨u,rfl,yqE e c d (by decide) ⟨x,H,L,Q,⟨rfl,fun ys N=>by rw [I.list_inj N D];exact B⟩,⟨Z,j⟩,fun b n=>(r b n).1⟩⟩
 done:=by intro X J G F C i q s σ H E I r st t;obtain rfl:i=m:=t;obtain ⟨f0,z,T,A,v,y⟩:=r l (by simp);have g:=st.2;rw [show (i:Int)-1-(i:Nat)=-1 by omega] at g;exact wpAny_pyNext_rev_end (I.ok.hd C) g fun h' M=>⟨rfl,I.turned (fun b o n e=>M b o n e) f0 z A v y⟩
 self:=fun _ _ _ _ _ st h=>wpAny_pyIter_revIter st.2 h
variable {X:Cx}{A:Nat->Addr}{tg a:Expr}{p pos:Pos}{xa:XE}
theorem yCD (m:Gl X "reversed") (v:X.mg "reversed" = none) (t:PE X a j) (n:starEach [a] X.env=(false,eval a X.env)::starEach [] X.env) (hs:starEach [a] X.env=[(false,eval a X.env)]):PI X tg (.Call (.Name "reversed" p) [a] [] pos) (yGL X.K j):=by
 intro d s Z H R I h;refine Call_ (ylm I m v ynR (PyProof.Rows.callWith_type1 (thn (yfS t yjz n pos d s Z H (fun vs f=>match vs with|[x]=>∃ b xs,x=.ref b/\SqL X.K f b xs/\R (ItR X.K b xs.length) f|_=>False) I h) fun us s1 ⟨vs,f,g,l,i⟩=>?_) hs rfl));cases l with
 | nil=>exact i.elim
 | cons r rr =>
  cases rr with
  | cons=>exact i.elim
  | nil =>
  obtain ⟨b,xs,e,u,q⟩:=i;subst e;cases r;obtain ⟨its,y,k,hz⟩:=g.list u;have hl:=y.length;refine call_reversed_list k.isList (wpAny_pyIter_revIter ⟨_,Heap.get?_push_size _ rfl,rfl,rfl⟩ ?_);refine ⟨s1.heap.objs.size,_,_,_,f,rfl,g.kept fun b o e=>Heap.get?_push_of_some _ e,yvu b _ xs.length,⟨zero_le _,_,Heap.get?_push_size _ rfl,rfl,?_⟩,fun b w=>?_,q⟩
  .show Data.fields _=Data.fields _;rw [hl];simp
  .have e:=by simpa using w
   subst e;exact g.fpOk (Nat.le_refl _) (g.hok.fresh (Nat.le_refl _))
theorem ysn {rest:List Stmt}(f:ZE X A a xa) (c:ZG X A tg y) (d:ZSs X A rest s) (hp:PassesOwn (model X.prog X.w) X.A X.env X.xe:=by exact PassesOwn.never) (e:X.calm=true:=by rfl) (hs:∀ x,foldedSetIterable a X.env x=pure x:=by exact fun _=>rfl):ZS X A (.For tg a rest [] pos) (ygX false xa y s) :=
 wS (yqI hp e (ymZ f.of) c.of d.of hs) (yvg sE sG sS)
theorem yzi {rest:List Stmt}{s:XS}{y:XG}{c:Pos}(k:X.mg "reversed" = none) (g:ZE X A a xa) (i:ZG X A tg y) (h:ZSs X A rest s) (hp:PassesOwn (model X.prog X.w) X.A X.env X.xe:=by exact PassesOwn.never) (f:X.calm=true:=by rfl) (d:Gl X "reversed":=by rfl) (j:starEach [a] X.env=(false,eval a X.env)::starEach [] X.env:=by rfl) (e:starEach [a] X.env=[(false,eval a X.env)]:=by rfl) (hs:∀ x,foldedSetIterable (.Call (.Name "reversed" p) [a] [] c) X.env x=pure x:=by exact fun _=>rfl):ZS X A (.For tg (.Call (.Name "reversed" p) [a] [] c) rest [] pos) (ygX true xa y s) :=
 wS (yqI hp f (yCD d k g.of j e) i.of h.of hs) (yvh sE sG sS)
end
section
variable {X:Cx}{A:Nat->Addr}{a o:Expr}{xa xb:XE}{pos apos cpos:Pos}
theorem yCE:MtM X "dict.update" yGM:=by
 intro p s Z H x vs v us Q I r B h;obtain ⟨d,b,kvs,g,rfl,rfl,m,n,w,hz,q⟩:=h;cases r;obtain ⟨u,rfl,t⟩:=B.one;cases t;obtain ⟨z,D,vs,f,dd⟩:=yyO I.hok n;obtain ⟨E,k,j,e,l⟩:=yyO I.hok w;refine call_meetsIn PySem.F.slot_dict_update dd.typeIs PySem.F.entry_dict_update (PySem.F.args_dict_update_2 _ _) (meets_dict_update _ d b m k) ⟨vs,j,dd,l,by rw [<- f.length,<- e.length];exact hz,fun h' i _ hs=>?_⟩;have C:∃ q,h'.get? d=some q:=let ⟨q,_,_,y,_⟩:=i;⟨q,y⟩
 refine ⟨.non,_,ynG I (by rw [n];exact True.intro) hs C (ywV ?_ D (e.merge f) i),rfl,q⟩;exact Nat.le_trans (ygv g kvs) hz
end
variable {X:Cx}{A:Nat->Addr}{x y:Str}{py spos:Pos}{iy:Nat}
theorem yhQ {elt iter:Expr}{l:Pos}{scope:Scope}{g:Pos}{s:XA}{xe:XE}{ix:List Nat} j (B:ZI X A (.Name x l) iter s) (w:∀ k C c d fp b,ZE (cxC X scope k C (x::j) c d fp b) A elt xe) (u:X.calm=true:=by rfl) (o:FrOk X scope ix j:=by repeat' first|exact True.intro|exact rfl|refine And.intro ?_ ?_) (n:(x::j).Nodup:=by rfl') (i:scope.kind=.function:=by rfl) (h:∀ y∈scope.names,y.2≠.cell:=by rfl') (e:∀ y∈scope.names,y.2=.local->scope.names.lookup y.1=some .local:=by rfl') (f:∀ y∈scope.names,y.2=.free->y.1∈j:=by rfl') (t:scope.names.lookup x=some .local:=by rfl) (hs:∀ v,foldedSetIterable iter X.env v=pure v:=by exact fun _=>rfl) (z:X.N.Nodup:=by exact nd) (q:X.N[iy]?=some y:=by rfl) (m:Loc X.env.scope y:=by first|exact Or.inl rfl|exact Or.inr rfl) (r:X.fn y=true\/X.env.scope.names.lookup y=some .local:=by exact Or.inl rfl) (p:swapsWith (.ListComp elt [⟨.Name x l,iter,[],0⟩] scope g) (some (.Name y py)) spos.line X.env=pure true:=by rfl):ZS X A (.Assign [.Name y py] (.ListComp elt [⟨.Name x l,iter,[],0⟩] scope g) spos) (ybu (xFz (yet s ix xe)) (yq iy)) :=
 wS (yFv (yvn ix j u B.of o (fun k C c d fp b=>(w k C c d fp b).of) (fun _ _ _ _ _ _=>.nil) n i h e f t hs z q m r p)) (yrp (ywK (yoF ix sI sE)) (yie iy))
theorem yzj {k b:Nat}{f:Addr}{a:FuncData}{ps:List Str}{p pos:Pos}{c} (M:Mk X.K (A k) f) (F:FnOk X.prog X.w X.K X.mg X.base CX0 b f a ps (spI (ckX X A) 0 k c)) (g:X.mg x=some (.ref (A k))) (e:Binds X.K a ps []) (hr:Room (b+1) X.A:=by exact hr.mono (by omega)) (m:Nm x:=by exact ⟨by rfl',by rfl',by rfl'⟩) (d:Gl X x:=by rfl):ZO X A (.Call (.Name x p) [] [] pos) (yfY c yh) :=
 wO (yue M F hr d g e .nil ylw m.d) (yoK ykj ynx)
end PX
namespace PX
open PySem L2 PySem.Spec PyProof.Rows KasS PXS
section
variable {X:Cx}{A:Nat->Addr}
theorem yia (h:IntsAre vs ns):Vals (ns.map V.int) vs:=by
 induction h with
 | nil=>exact .nil
 | cons n t _ ih=>exact .cons ⟨t,rfl⟩ ih
variable {a:Expr}{xa:XE}{aa:XA}{pos p:Pos}{x:Str}{n:Nat}
end
section
noncomputable def NF (X:Cx) (a:Addr):Prop:=∀ o u,X.H₀ a≠some (.frz o u)
theorem yGO {X:Cx}{f:List _}{Z:L2.St}{H:Hp}{s:Shared}{d:Addr}{g u1:HO}(I:L2.Inv X f Z H s) (v:H d=some g) (B:∀ xs,g≠.tup xs) (A:∀ y,g≠.own y) (nb:∀ ps,g≠.tbl ps) (m:NF X d)
  (w:ObjOk X.prog X.w H s.heap d g->ObjOk X.prog X.w H s.heap d u1):L2.Inv X f Z (upd H d u1) s:=by
 have i:∀ {b:Addr},H b=none->upd H d u1 b=none:=fun {b} e=>(yR fun z=>by simp_all).trans e
 refine ⟨I.ok,I.os,I.bare,⟨I.base.keep,I.base.slot,fun b o e n t=>i (I.base.free b o e n t),I.base.there,fun b xs e=>?_,fun b o u e=>?_,fun b ps e=>?_⟩,I.loc,I.cell,i I.free,fun x c e=>i (I.freeC x c e),fun p hp=>?_,fun b u e=>?_,I.len⟩
 .have:=I.base.tups b xs e
  exact (yR fun z=>by simp_all).trans this
 .have:=I.base.frzs b o u e
  exact (yR fun z=>by subst z;exact m o u e).trans this
 .obtain ⟨h,this⟩:=I.base.tbls b ps e;exact ⟨h,(yR fun z=>by simp_all).trans this⟩
 .obtain ⟨h1,h2,r⟩:=I.pin p hp;exact ⟨h1,i h2,r⟩
 .have l:∀ c y,H c=some _->upd H d u1 c=some (.own y):=fun c y q=>(yR fun z=>by simp_all).trans q
  have k:∀ c xs,H c=some _->upd H d u1 c=some (.tup xs):=fun c xs q=>(yR fun z=>by simp_all).trans q
  by_cases j:b=d
  .subst j;rw [yP] at e;cases e;exact (w (I.hok b g v)).stay (fun _ _ _ q=>q) (fun c q=>l c b q) k
  .rw [yR j] at e;exact (I.hok b u e).stay (fun _ _ _ q=>q) (fun c q=>l c b q) k
theorem yso {P:Program}{w:World}{K:Frag}{tg:Expr}(d t:Addr) (ob:Obj) (kvs:List (Key×V)) {es:Array DictEntry}{ep:Nat}(n:ob.data=.dict es ep):Turn P w K tg (ItD d ob kvs) [t] t (fun i h=>h.IsKeyIter t d i kvs.length ep) where
 mem:=by simp
 obj:=fun i h st b p=>by
  have e:b=t:=by simpa using p
  subst e;obtain ⟨o,e,c,q⟩:=st;exact ⟨o,e,fun v z=>by rw [q] at z;cases z⟩
 keep:=fun i h h' st k=>st.at fun o e=>k t (by simp) o e
 item:=by
  intro X hP L hK hc i m s σ H E I C st Z;subst hP L hK;obtain ⟨r,S⟩:=Z;obtain ⟨u,z,sy,ws,T,hD⟩:=I.hok d _ S;obtain ⟨M,f⟩:=hD.dictAt;obtain ⟨o',J,g,D,j,G⟩:=id f;rw [u] at g;cases g;rw [n] at j;cases j;obtain ⟨l,F⟩:=ypf T;have lw:ws.length=kvs.length:=by have:=congrArg length l;simpa using this
  have A:i<ws.length:=by omega
  obtain ⟨f0,R,f2,f3,Y,O⟩:=C t (by simp);rw [<- lw] at st;refine wpAny_pyNext_dict_item st f (k:=ws[i].1) (v:=ws[i].2) (List.getElem?_eq_getElem A) fun key h' B x sb=>?_
  have I1:L2.Inv X m σ H { s with heap:=h' }:=I.turned (t':=s.toks) (fun b o p e=>(sb.2 b p).trans e) f0 R f3 Y O;obtain ⟨o,e,c,q⟩:=id x;rw [lw] at x;have hk:(kvs[i]'r).1=ws[i].1:=by
   have h1:(ws.map (·.1))[i]?=(kvs.map (·.1))[i]?:=by rw [l]
   rw [getElem?_map,getElem?_map,List.getElem?_eq_getElem A,List.getElem?_eq_getElem r] at h1;exact (Option.some.inj h1).symm
  have Q:RelV (kV (kvs[i]'r).1) key:=by
   rw [hk];rcases ybz B with ⟨i,N,W,U⟩|⟨y,N,W,U⟩
   .rw [W,U];exact ⟨N,rfl⟩
   .rw [W,U];exact ⟨N,rfl⟩
  exact ⟨key,rfl,yqE (s:={ s with heap:=h' }) e c q (by decide) ⟨kV (kvs[i]'r).1,H,I1,Q,⟨rfl,_,List.getElem?_eq_getElem r,rfl⟩,x,fun b p=>(C b p).1⟩⟩
 done:=by
  intro X hP L hK hc i m s σ H E I C st Z;subst hP L hK;obtain ⟨r,S⟩:=Z;subst r;obtain ⟨u,z,sy,ws,T,hD⟩:=I.hok d _ S;obtain ⟨M,f⟩:=hD.dictAt;obtain ⟨o',J,g,D,j,G⟩:=id f;rw [u] at g;cases g;rw [n] at j;cases j;obtain ⟨l,F⟩:=ypf T;have lw:ws.length=kvs.length:=by have:=congrArg length l;simpa using this
  obtain ⟨f0,R,f2,f3,Y,O⟩:=C t (by simp);rw [<- lw] at st;exact wpAny_pyNext_dict_end (I.ok.hd hc) st f (by simp) fun h' eb=>⟨rfl,I.turned (t':=s.toks) (fun b o p e=>eb b o p e) f0 R f3 Y O⟩
 self:=fun _ _ _ _ _ st h=>wpAny_pyIter_keyiter st h
variable {X:Cx}{A:Nat->Addr}{tg a:Expr}{p pos:Pos}{xa:XE}
theorem yzk (y:PE X a n):PI X tg a (yCo (NF X) n):=by
 intro f s Z H R I h;refine thn (y f s Z H _ I h) fun v s1 ⟨x,M,i,L,B⟩=>?_
 obtain ⟨d,kvs,e,r,q⟩:=B;subst e;cases L;have m:NF X d:=fun o u z=>by have:=i.base.frzs d o u z;simp_all
 obtain ⟨z,D,ws,J,G⟩:=id (i.hok d _ r);obtain ⟨ep,g⟩:=G.dictAt;obtain ⟨ob,es,E,t,k,w⟩:=id g;obtain ⟨l,F⟩:=ypf J;have lw:=by have:=congrArg length l;simpa using this
 have j:=yGO (u1:=.frz ob _) i r (fun _ z=>by cases z) (fun _ z=>by cases z) (fun _ z=>by cases z) m fun x=>⟨E,x⟩
 refine wpAny_pyIter_dict D g ?_;refine ⟨s1.heap.objs.size,_,_,_,_,rfl,j.kept fun b o e=>Heap.get?_push_of_some _ e,yso d _ ob kvs k,⟨_,Heap.get?_push_size _ rfl,rfl,by rw [lw];rfl⟩,fun b C=>?_,q ob m⟩;have e:=by simpa using C
 subst e;exact j.fpOk (Nat.le_refl _) (j.hok.fresh (Nat.le_refl _))
end
end PX
namespace PX
open PySem L2 PySem.Spec PyProof.Rows
section
variable {X:Cx}{A:Nat->Addr}
theorem yzl:MtR X "str.find" yre:=by
 intro b s Z H x xs v us Q I f g h;obtain ⟨z,c,rfl,rfl,hz,d,q⟩:=h;obtain ⟨t,rfl⟩:=f;obtain ⟨u,rfl,i,rfl⟩:=vals1 g;rcases yrf z c with ⟨_,h2⟩|⟨r,h1,_⟩
 .exact absurd d h2
 .refine SC.find ?_;have e:Txt.find z ⟨#[c]⟩=(z.cps.toList.idxOf c:Int):=by unfold Txt.find;rw [h1]
  rw [e];exact ⟨.int _,H,I.tok _,⟨_,rfl⟩,q⟩
variable {pos p apos:Pos}{x m:Str}{e:Expr}{es:List Expr}{aa:XA}{n:Nat}
theorem yCF {ss:List Str}(f:X.mg x=some (.ref a)) (c:KTp X.K a (ss.map V.str)) (nm:Nm x:=by exact ⟨by rfl',by rfl',by rfl'⟩) (d:Gl X x:=by rfl):ZE X A (.Name x pos) (xC (.tup (ss.map PV.str))):=wE (ynl d f nm.d) (yvj c)
structure yvv (K:Frag) (C:Addr) (m:Str) (f:Addr):Prop where
 rd:PySem.W.readsIn K C (.type "type")=true
 fc:PySem.W.findCls K (.ref C) (.type "type") m=some (.val (.ref f))
 sp:PySem.W.specialIn K (.ref C) "__getattribute__" = some (some (.builtin "type.__getattribute__"))
 kp:keepIn K (.ref f)=true
theorem yzm {pl:Sem Bool}(c:yvv X.K C m f) (J:Gl X x) (N:X.mg x=some (.ref C)) (F:FnOk X.prog X.w X.K X.mg X.base CX k f l ps sp) (y:Room k X.A) (O:Binds X.K l ps []) (G:ygq CX X E) (L:PA X (e::es) t)
  (P:(x == "__debug__")=false)
  (i:starEach (e::es) X.env=(false,eval e X.env)::starEach es X.env) (g:(backTo pos (starEach es X.env)).any (·.1)=false)
  (B:eval (.Call (.Attribute (.Name x p) m apos) (e::es) [] pos) X.env=do
   let q <- eval (.Name x p) X.env
   standAt apos.atName
   let (f,first) <- holding [q] (getMethod q m pl)
   callWith pos f first (backTo pos (starEach (e::es) X.env)) (backToKw pos (keywordEach [] X.env))) :
  PE X (.Call (.Attribute (.Name x p) m apos) (e::es) [] pos) (yub sp [] E t):=by
 intro b s Z H Q I h;refine PySem.W.methodCall_KW (thn (ynl J N P b s Z H (fun v j=>v=.ref C/\j=H) I ⟨rfl,rfl⟩) fun u s1 ⟨v,j,d,z,w,D⟩=>?_) B;subst w D;obtain rfl:u=Value.ref C:=z;refine PySem.W.method_cls d.kIn c.sp (PySem.W.cls_value d.kIn c.rd c.fc rfl ?_);have d:=d.tok (s1.toks+1);refine PySem.W.callWith_K I.ok.mod.kin c.kp (thn (L pos b _ Z j _ d h) fun us s2 ⟨vs,R,o,r,M⟩=>⟨o.kIn,?_⟩) i g;exact ylo F y O .nil G o r M
theorem yzn {C f:Addr}{d k:Nat}{g:FuncData}{ps:List Str}{j} {pl:Sem Bool}{o:Expr}{sp:Pos}(c:yvv X.K C m f) (l:X.mg x=some (.ref C)) (F:FnOk X.prog X.w X.K X.mg X.base CX0 d f g ps (spJ (ckX X A) n k j)) (q:Binds X.K g ps []) (h:ZA X A es n aa) (nm:Nm x:=by exact ⟨by rfl',by rfl',by rfl'⟩) (u:Gl X x:=by rfl) (hr:Room d X.A:=by exact hr.mono (by omega)) (s:PE X o (yqs 0):=by exact yjx rfl (by first|exact Or.inl rfl|exact Or.inr (Or.inl rfl)) (by rfl') (by rfl')) (a:starEach (o::es) X.env=(false,eval o X.env)::starEach es X.env:=by rfl) (b:(backTo pos (starEach es X.env)).any (·.1)=false:=by rfl) (r:eval (.Call (.Attribute (.Name x p) m apos) (o::es) [] pos) X.env=(do
   let i <- eval (.Name x p) X.env
   standAt apos.atName
   let (f,first) <- holding [i] (getMethod i m pl)
   callWith pos f first (backTo pos (starEach (o::es) X.env)) (backToKw pos (keywordEach [] X.env))):=by rfl) (t:swapsWith (.Call (.Attribute (.Name x p) m apos) (o::es) [] pos) none sp.line X.env=pure false:=by rfl):ZF X A (.Expr (.Call (.Attribute (.Name x p) m apos) (o::es) [] pos) sp) (xBI k j aa) :=
 wF (yjV (yzm c u l F hr q ylw (yfS s h.of a) nm.d a b r) t) (yzb sA h.len)
end
section
variable {P:Program}{w:World}{K:Frag}{mg:Str->Option Value}{base:Heap}{A:Nat->Addr}
theorem yHs {x b:Str}{st:Stmt}{f:Addr}{i:FuncData}{N ps:List Str}{k g n:Nat}{s:XS}(F:Fun K x b st f i) (S:yeE N ps (ybT st)) (m:ps.length=n+1) (l:n+1<=N.length)
  (h:∀ c e outer d H E,Room k (e.deeper (envOfC b (ybT st) d.heap.objs.size f c))->ZFs (yuf CX0 P w K mg base N b (ybT st) f c e outer d H E).nox A (yfT st) s) :
  FnOk P w K mg base CX0 (k+1) f i ps (spJ ⟨K,A⟩ n g (ymT N.length g s)) :=
 F.ok S (fun _ _ _ _ h=>(yza h).trans m.symm) fun c e outer d H vs Q E o j=>⟨_,(h c e outer d H E o).of,yrV l sF j⟩
end
open Builtin Builtin.Str in
section
variable {prog:Program}{w:World}{A:Around}{E:Value->Shared->Prop}{s:Shared}
theorem yqa {x y:Str}{Q:Value->Shared->Prop}(e:(y.length == 0)=false) (hz:x.length+2<=sizeLine)
  (h:∀ l k,l.map (·.1)=Txt.split x y->Q (.ref s.heap.objs.size) { s with heap:=s.heap.push { cls:=.type "list",data:=.seq (strValues l).toArray },toks:=k }) :
  wpAny (model prog w) A (call (.builtin "str.split") [.str x t,.str y u]) Q E s:=by
 have h2:(partsBetween x (occurrences x y 0 x.length (x.length+1)) y.length).length<=sizeLine:=by have:=StrLaws.occ_length_le x y 0 x.length (x.length+1);rw [length_partsBetween];omega
 by_cases b:(decide (x.length<y.length) || decide (strKind x<strKind y))=true
 .exact call_meets F.slot_str_split (typeIs_str _ _ _) F.entry_str_split (F.args_str_split_2 _ _) (meets_str_split_cannot_occur x y t u b) (h [(x,t)] s.toks (if_pos b).symm)
 .have c:(decide (x.length<y.length) || decide (strKind x<strKind y))=false:=by simpa using b
  by_cases d:(occurrences x y 0 x.length (x.length+1)).isEmpty=true
  .exact call_meets F.slot_str_split (typeIs_str _ _ _) F.entry_str_split (F.args_str_split_2 _ _) (meets_str_split_not_found x y t u c e d) (h [(x,t)] s.toks ((if_neg b).trans (if_pos d)).symm)
  .refine call_meets F.slot_str_split (typeIs_str _ _ _) F.entry_str_split (F.args_str_split_2 _ _) (meets_str_split_sep x y t u c e (by simpa using d) (by omega) h2) ?_;rw [strsFrom_eq];exact h _ _ ((numbered_texts _ _).trans ((if_neg b).trans (if_neg d)).symm)
end
theorem yph z:Txt.split z " " = yxa z:=by have e:(" ":Str)=⟨#[32]⟩:=rfl;have h:=yin (Txt.split z " ") (fun q=>by have:=split_pos z " ";rw [q] at this;simp at this) (by exact StrLaws.split_free z 32);rw [StrLaws.join_split] at h;exact h.symm
theorem ymk:∀ l,Vals ((l.map (·.1)).map V.str) (strValues l)
 | []=>.nil
 | (_,t)::l=>.cons ⟨t,rfl⟩ (ymk l)
section
variable {X:Cx}{A:Nat->Addr}
theorem yvw:MtR X "str.split" yxb:=by
 intro c s Z H x xs v us Q I i j h;obtain ⟨z,rfl,rfl,hz,q⟩:=h;obtain ⟨t,rfl⟩:=i;obtain ⟨u,rfl,f⟩:=vals1 j;obtain ⟨t',rfl⟩:=f;have hs:z.length+2<=sizeLine:=by simp only [PySem.sizeLine_eq];omega
 refine yqa (rfl) hs fun l k e=>?_
 have g:=e.trans (yph z);have d:=split_le z " ";rw [yph] at d;refine ⟨.ref s.heap.objs.size,_,I.laid (fun b o e=>Heap.get?_push_of_some _ e) (Nat.le_refl _) ?_,rfl,q _ (I.hok.fresh (Nat.le_refl _))⟩;exact ⟨by rw [length_map];exact Nat.le_trans d hs,_,0,g ▸ ymk l,Heap.get?_push_size _ rfl⟩
end
section
variable {X:Cx}{A:Nat->Addr}{tg a:Expr}{p pos:Pos}{xa:XE}{x:Str}{es:List Expr}{aa:XA}{n:Nat}
theorem ykz (M:Mk X.K (A k) f) (F:FnOk X.prog X.w X.K X.mg X.base CX0 c f g ps (spE (ckX X A) (n+1+1) e)) (h:X.mg x=some (.ref (A k))) (j:Binds X.K g ps []) (d:ZA X A (a::es) (n+1) aa) (hr:Room (c+1) X.A:=by exact hr.mono (by omega)) (m:Nm x:=by exact ⟨by rfl',by rfl',by rfl'⟩) (l:Gl X x:=by rfl) (i:starEach (a::es) X.env=(false,eval a X.env)::starEach es X.env:=by rfl) (b:(backTo pos (starEach es X.env)).any (·.1)=false:=by rfl):ZE X A (.Call (.Name x p) (a::es) [] pos) (yfe k e aa) :=
 wE (yqT M F hr l h j .nil ylw d.of m.d i b) (yrY sA d.len)
theorem ypi (hc:X.calm=true):yfR X (.builtin "any") yGN:=by
 intro pins s Z H xs us Q I r h;obtain ⟨p,bs,rfl,hp,q⟩:=h;obtain ⟨u,rfl,rx⟩:=vals1 r;cases rx;obtain ⟨its,n,rv,e,hz⟩:=I.lst hp;have eb:=ykc rv;subst eb;have hl:s.heap.IsList p (bs.map Value.bool).toArray:=⟨_,e,rfl,n,rfl⟩
 have hlt:p<s.heap.objs.size:=Heap.lt_size e;refine call_any_walk (wpAny_pyIter_list hl ?_);refine ⟨s.heap.objs.size,[s.heap.objs.size,p],[s.heap.objs.size],(bs.map Value.bool).toArray.size,_,_,fun i=>(bs[i]?).getD false,rfl,Walks.list (A:=X.A.in1) (I.ok.hd hc) _ p (ne_of_lt hlt) _,
  ⟨⟨_,Heap.get?_push_size _ rfl,rfl,rfl⟩,hl.push _⟩,fun i v s' Q' E' hP hQ=>?_,fun h' tk hk=>?_⟩
 .have hP:(bs.map Value.bool)[i]?=some v:=by simpa using hP
  rw [getElem?_map] at hP;cases eb:bs[i]? with
  | none=>rw [eb] at hP;cases hP
  | some b =>
   rw [eb] at hP;cases hP;simp only [eb,Option.getD_some] at hQ;exact wpAny_truthy_bool hQ
 .have ea:((List.range (bs.map Value.bool).toArray.size).any fun i=>(bs[i]?).getD false)=bs.any id:=by rw [size_toArray,length_map];exact LSm.range_any bs
  rw [ea];exact ⟨.bl _,H,I.kept (t':=tk) fun b o eo=>hk b o (fun hm=>by rw [List.mem_singleton.mp hm] at eo;exact absurd (Heap.lt_size eo) (lt_irrefl _)) (Heap.get?_push_of_some _ eo),rfl,q⟩
theorem ygd {elt iter:Expr}{t:Pos}{scope:Scope}{k:Pos}{xe:XE}{ix:List Nat} j (u:ZE X A iter xa) (q:∀ l C d e fp c,ZE (cxC X scope l C (x::j) d e fp c) A elt xe) (r:X.calm=true:=by rfl) (o:FrOk X scope ix j:=by repeat' first|exact True.intro|exact rfl|refine And.intro ?_ ?_) (m:(x::j).Nodup:=by rfl') (h:scope.kind=.function:=by rfl) (i:∀ y∈scope.names,y.2≠.cell:=by rfl') (f:∀ y∈scope.names,y.2=.local->scope.names.lookup y.1=some .local:=by rfl') (g:∀ y∈scope.names,y.2=.free->y.1∈j:=by rfl') (s:scope.names.lookup x=some .local:=by rfl) (hs:∀ v,foldedSetIterable iter X.env v=pure v:=by exact fun _=>rfl):ZO X A (.ListComp elt [⟨.Name x t,iter,[],0⟩] scope k) (ydB xa ix xe) :=
 wO (yzd (ykw ix j r (ymZ u.of) o (fun l C d e fp c=>(q l C d e fp c).of) (fun _ _ _ _ _ _=>.nil) m h i f g s hs)) (yrZ ix sE sE)
end
open KasS PXS
section
variable {X:Cx}{A:Nat->Addr}{xa:XE}{x:Str}
theorem yzo {elt iter:Expr}{p:Pos}{scope:Scope}{i:Pos}{xe:XE}{ix:List Nat} l (E:ZE X A iter xa) (t:∀ m C c e fp b,ZE (cxC X scope m C (x::l) c e fp b) A elt xe) (D:X.calm=true:=by rfl) (n:FrOk X scope ix l:=by repeat' first|exact True.intro|exact rfl|refine And.intro ?_ ?_) (o:(x::l).Nodup:=by rfl') (k:scope.kind=.function:=by rfl) (j:∀ y∈scope.names,y.2≠.cell:=by rfl') (f:∀ y∈scope.names,y.2=.local->scope.names.lookup y.1=some .local:=by rfl') (g:∀ y∈scope.names,y.2=.free->y.1∈l:=by rfl') (G:scope.names.lookup x=some .local:=by rfl) (hs:∀ v,foldedSetIterable iter X.env v=pure v:=by exact fun _=>rfl):ZO X A (.ListComp elt [⟨.Name x p,iter,[],0⟩] scope i) (yjI xa ix xe):=by
 have u:PE X (.ListComp elt [⟨.Name x p,iter,[],0⟩] scope i) (yxe (NF X) (cE (ckX X A) xa) ix (cE (ckX X A) xe)):=by
  intro b s Z H Q I h;refine thn (yzd (ykw ix l D (yzk E.of) n (fun m C c e fp b=>(t m C c e fp b).of) (fun _ _ _ _ _ _=>.nil) o k j f g G hs) b s Z H _ I h) fun v s1 ⟨y,J,B,w,d,ob,kvs,r,F,q⟩=>?_
  exact ⟨y,_,yGO B F (fun _ z=>by cases z) (fun _ z=>by cases z) (fun _ z=>by cases z) r fun x=>x.2,w,q⟩
 exact wO u (ysa ix sE sE)
end
end PX
namespace L2
open PySem
noncomputable def yha {Y:Type}(xs:List Y) (k n:Nat):List Y:=(List.range xs.length).filterMap fun j=>xs[k+j*n]?
theorem yml {Y:Type}(xs:List Y) k n:(yha xs k n).length<=xs.length:=Nat.le_trans (List.length_filterMap_le _ _) (by simp_all)
def yGP (K:Frag):V->Option Int->Option Int->Hp->VK->Prop:=fun x lo st H Q=>∃ a xs,∃ k n:Nat,x=.ref a/\SqL K H a xs/\lo=some (k:Int)/\st=some (n:Int)/\1<=n/\∀ p,H p=none->Q (.ref p) (upd H p (.lst (yha xs k n)))
end L2
namespace PX
open PySem L2
variable {K:Ck}
theorem RepL.pick (r:RepL K F m xs vs) (f:Nat->Nat):∀ l:List Nat,RepL K F m (l.filterMap fun j=>xs[f j]?) (l.filterMap fun j=>vs[f j]?)
 | []=>rfl
 | j::l=>by
  rw [List.filterMap_cons,List.filterMap_cons];cases e:xs[f j]? with
  | none =>
   rw [show vs[f j]?=none by rw [List.getElem?_eq_none_iff] at e ⊢;rw [r.len];exact e];exact r.pick f l
  | some x =>
   obtain ⟨v,h1,h2⟩:=r.get e;rw [h1];exact ⟨v,_,rfl,h2,r.pick f l⟩
def yzp:PV->Option Int->Option Int->AH->Option (Nd×AH):=fun x lo st h=>match listOf x h,lo,st with|some xs,some k,some n=>if 0<=k/\1<=n then some (.lst (yha xs k.toNat n.toNat),h) else none|_,_,_=>none
theorem yFC:yoE K (yGP K.K) yzp:=by
 intro W x v i j Q d h' w h e q;unfold yzp at e;split at e
 .rename_i xs k n g;split at e
  .rename_i f;cases e;obtain ⟨a,vs,ev,hs,c⟩:=yfv w g h;refine ⟨a,vs,k.toNat,n.toNat,ev,hs,by rw [Int.toNat_of_nonneg f.1],by grind,by omega,fun p hp=>yAz w hp ?_ q⟩;unfold yha;rw [c.len];exact c.pick _ _
  .cases e
 .cases e
end PX
namespace L2
open PySem PySem.W PySem.Calls PyProof.Rows
section
variable {X:Cx}{te:TE}{tl th:TO}{e:Expr}{lo:Option Expr}{st:Expr}{p2 pos:Pos}
theorem ysp (its:List Value) (k n:Nat) (g:1<=n):slicePick its.toArray (some (k:Int)) none (some (n:Int))=(yha its k n).toArray:=by
 unfold slicePick yha;have hp:(n:Int)>0:=by omega
 simp only [sliceBounds,Option.getD_some,hp,if_true,size_toArray];rw [if_neg (show ¬ (k:Int)<0 by omega)];congr 1;unfold sliceRange;simp only [hp,if_true,List.filterMap_map]
 by_cases h:k<its.length
 .have h2:max 0 (min (k:Int) its.length)=k:=by omega
  rw [h2,if_pos (show (k:Int)<its.length by omega)];have d:∀ j:Nat,(((its.length:Int)-k+n-1)/n).toNat<=j->its[k+j*n]?=none:=fun j i=>by
   rw [List.getElem?_eq_none_iff];have c:((its.length:Int)-k+n-1)/n<j+1:=by omega
   have f:=(Int.ediv_lt_iff_lt_mul hp).mp c;grind
  have hl:(((its.length:Int)-k+n-1)/n).toNat<=its.length:=by have:=ceilDiv_le ((its.length:Int)-k) n (by omega) (by omega);omega
  have e:List.range its.length=List.range (((its.length:Int)-k+n-1)/n).toNat++(List.range (its.length-(((its.length:Int)-k+n-1)/n).toNat)).map (· + (((its.length:Int)-k+n-1)/n).toNat):=by have:=List.range_add (n:=(((its.length:Int)-k+n-1)/n).toNat) (m:=its.length-(((its.length:Int)-k+n-1)/n).toNat);rw [show (((its.length:Int)-k+n-1)/n).toNat+(its.length-(((its.length:Int)-k+n-1)/n).toNat)=its.length by omega] at this;rw [this];congr 1;exact List.map_congr_left fun a _=>Nat.add_comm _ _
  rw [e,List.filterMap_append,List.filterMap_map];have z:(List.range (its.length-(((its.length:Int)-k+n-1)/n).toNat)).filterMap ((fun j=>its[k+j*n]?) ∘ (· + (((its.length:Int)-k+n-1)/n).toNat))=[]:=by rw [List.filterMap_eq_nil_iff];exact fun a _=>d _ (Nat.le_add_left _ _)
  rw [z,append_nil];congr 1;funext a;show its.toArray[((k:Int)+n*a).toNat]?=_;rw [List.getElem?_toArray,show ((k:Int)+n*a).toNat=k+a*n by rw [Nat.mul_comm a n,<- Int.natCast_mul];omega]
 .rw [if_neg (by omega)];refine (List.filterMap_eq_nil_iff.mpr fun a _=>?_).symm;rw [List.getElem?_eq_none_iff];omega
theorem ysq (D:PE X e te) (hl:PO X lo tl) (A:PO X (some st) th):PE X (.Subscript e (.Slice lo none (some st) p2) pos) (tSl (yGP X.K) te tl th):=by
 intro d s Z H Q I h;refine Subscript_ (thn (D d s Z H _ I h) fun v s1 ⟨x,G,y,B,E⟩=>?_);refine wpAny_Slice (thn (hl d s1 Z G _ y E) fun w s2 ⟨l,L,z,pl,N⟩=>?_);refine wpAny_pure (thn (A d s2 Z L _ z N) fun C s3 ⟨u,m,o,O,t⟩=>?_);have g:Inv X d Z m { s3 with heap:=s3.heap.push { cls:=.type "slice",data:=.fields #[w,.none,C] } }:=o.kept fun b J q=>Heap.get?_push_of_some _ q
 obtain ⟨a,xs,k,n,rfl,M,rfl,rfl,F,q⟩:=t;cases B;obtain ⟨its,r,i,hz⟩:=g.list M;have f:=r.length;refine tail_any i.isList.typeIs slot_list_getitem.lookup ?_ (by with_unfolding_all rfl);refine wpAny_getItem_list_slice i.isList (Heap.IsSliceOf.new ..) pl .none O (by grind) ?_;rw [ysp its k n F];refine ⟨.ref _,_,g.laid (fun b J q=>Heap.get?_push_of_some _ q) (Nat.le_refl _) ?_,rfl,q _ (g.hok.fresh (Nat.le_refl _))⟩;have p:Vals (yha xs k n) (yha its k n):=by
  unfold yha;rw [f];generalize List.range its.length=l
  induction l with
  | nil=>exact .nil
  | cons j l ih =>
   rw [List.filterMap_cons,List.filterMap_cons];cases e:xs[k+j*n]? with
   | none =>
    simp_all
   | some x =>
    obtain ⟨u,h1,h2⟩:=r.get e;rw [h1];exact .cons h2 ih
 exact ⟨Nat.le_trans (yml _ _ _) hz,_,0,p,Heap.get?_push_size _ rfl⟩
end
end L2
namespace PX
open PySem L2
theorem yFD (f:ZE X A a xa) (hl:ZP X A e c) (g:ZP X A (some st) d):ZO X A (.Subscript a (.Slice e none (some st) h) pos) (yqt yzp xa c d):=wO (ysq f.of hl.of g.of) (yrn yFC sE sP sP)
end PX
namespace My
open PySem L2 PX
theorem yGQ:("":Str).length=0:=by rfl'
theorem yzq:("abcdefgh":Str).length=8:=by rfl'
section
def sl_ (s:String):Array (Lean.TSyntax `Lean.Parser.Tactic.simpLemma):=(s.splitOn " ").toArray.map fun s=>⟨Lean.mkNode `Lean.Parser.Tactic.simpLemma #[Lean.mkNullNode,Lean.mkNullNode,Lean.mkIdent s.toName]⟩
local macro_rules | `(tactic| simpa [$ls,*])=>`(tactic| simp only [$(sl_ "ybE yEI yBM yBN yBO x_c yDU yEK yHh yGF yyI ywR yBP yEL yHi yEM yHj yuO yBQ yEN yEO yAA yEP yyJ x_call yHk yEQ yDV yyK yBR yBS yeb yfD yER yrF ykl yyL ypS yBT yBU yES yET yEU yEV ypT yEW yEX x_i yHl ykm yBV yrG yBW yEY yEZ yFa yFb yFc yFd yBX ywS ygu yFe yyM yBY yrH yFf yFg yCa yuQ yCb yCc yCd ywT yyN ywU yEJ bind_some Option.bind_none List.set_cons_zero List.set_cons_succ length_cons List.length_nil decide_eq_true_eq Bool.not_eq_true' decide_eq_false_iff_not if_true if_false ite_true ite_false and_self Int.reducePow Int.reduceToNat Int.reduceLT Int.reduceLE Int.reduceNeg Int.reduceAdd Int.reduceSub Nat.reduceLT Nat.reduceLeDiff Nat.reduceAdd true_and and_true reduceIte Nat.reduceEqDiff eq_self yGH yHn yHo yHp yHq yHr yFl yFm yFn yFo Int.reduceEq Bool.not_true Bool.not_false yzq"),*,$ls,*])
local macro_rules | `(tactic| symm)=>`(tactic| simpa [ybE])
noncomputable def tbO (cs:List Nat):List (Nat×Nat×Bool):=cs.flatMap fun i=>cs.map fun j=>(i,j,i == j)
def yge:List (Nat×Nat×Bool):=tbO [1,2,3,4,5,6,7,8,9]
def yfM:List PV->AH->Option (Nd×AH):=ymT 1 11 (yl (ycK [11] 0 "stack" (ydl (ycl (yb (ydl (ypV)) (yh))))) (ycK [11] 0 "last_seen" (ydl (ypV))))
def yeK:Fn:=ybp 4 (yl (ybu (xOp (ybd) (ybc [11] "stack" (ye 0)) (xUn yBA (xC (.int 1)))) (yq 3)) (yks (ye 3) (ye 1) (ye 2)))
def yev:Fn:=ybp 3 (yl (ygX true (ybc [11] "stack" (ye 0)) (yq 2) (yby (yv (yAB false (ye 1) (ye 2))) (yQ (yii (ye 2) (ye 1))) (yN))) (yQ (xC .non)))
def yeL:Fn:=ybp 1 (yW (xBM ydz (ydR) (ybc [11] "stack" (ye 0)) (yb (ydl (ypV)) (yh))))
def yeg:Fn:=ybp 3 (yl (ybu (xBM ydz (yhA) (ybc [11] "stack" (ye 0)) (yh)) (yq 1)) (yl (ybu (xOp (ybd) (ybc [11] "stack" (ye 0)) (xUn yBA (xC (.int 1)))) (yq 2)) (yW (xBM yrS (yCn) (ye 2) (yb (ye 1) (yh))))))
def yfx:Fn:=ybp 1 (yW (xBM ydz (yhA) (ybc [11] "stack" (ye 0)) (yh)))
def ygy:Fn:=ybp 3 (yks (ybc [11] "last_seen" (ye 0)) (ye 1) (ye 2))
def yew:Fn:=ybp 1 (yQ (xFz (yim (ybc [11] "last_seen" (ye 0)))))
def yeM:Fn:=ybp 1 (yQ (ydl (yim (ybc [11] "last_seen" (ye 0)))))
def yeN:Fn:=ybp 2 (yl (ybu (xOp (ybd) (ybc [11] "stack" (ye 0)) (xC (.int 0))) (yq 1)) (yQ (xFz (yim (ye 1)))))
def yhR:Fn:=ybp 3 (yl (yby (yv (xOp (oEq) (ye 0) (xC (.str "plus")))) (yQ (xOp oMod (xOp yeG (ye 1) (ye 2)) (xC (.int 18446744073709551616)))) (yN)) (yl (yby (yv (xOp (oEq) (ye 0) (xC (.str "minus")))) (yQ (xOp oMod (xOp yoG (ye 1) (ye 2)) (xC (.int 18446744073709551616)))) (yN)) (yl (yby (yv (xOp (oEq) (ye 0) (xC (.str "times")))) (yQ (xOp oMod (xOp ynA (ye 1) (ye 2)) (xC (.int 18446744073709551616)))) (yN)) (yl (yby (yv (xOp (oEq) (ye 0) (xC (.str "less")))) (yQ (xIf (yv (xOp (oLt) (ye 1) (ye 2))) (xC (.int 1)) (xC (.int 0)))) (yN)) (yQ (xIf (yv (xOp (oEq) (ye 1) (ye 2))) (xC (.int 1)) (xC (.int 0))))))))
def yex:Fn:=ybp 1 (yQ (yjh (xCB (ymU yge) (yb (ye 0) (yb (xC (.ty "int")) (yh)))) (yyf (xCB (ymU yge) (yb (ye 0) (yb (xC (.ty "bool")) (yh)))))))
def ydo:Fn:=ybp 1 (yQ (yjh (yT yex (yb (ye 0) (yh))) (yfH (oLe) (oLt) (xC (.int 0)) (ye 0) (xC (.int 18446744073709551616)))))
def ydC:Fn:=ybp 2 (yQ (xCB (yyF) (yb (xFz (yet (xIS (ye 0)) [1] (xOp (yDS) (ye 0) (ye 1)))) (yh))))
def yeO:Fn:=ybp 2 (yl (yby (xOr (ynv (yv (yfH (oLe) (oLe) (xC (.int 1)) (xCB (ynB) (yb (ye 0) (yh))) (xC (.int 20))))) (ynv (yv (yT ydC (yb (ye 0) (yb (xC (.str "0123456789")) (yh))))))) (yQ (xC .non)) (yN)) (yl (yby (ywJ (yv (xOp (oEq) (xOp (ytH) (ye 0) (xC (.int 0))) (xC (.str "0")))) (yv (xOp (oNe) (ye 0) (xC (.str "0"))))) (yQ (xC .non)) (yN)) (yl (ybu (xCB (yrC) (yb (ye 0) (yh))) (yq 1)) (yQ (xIf (yv (xOp (oLt) (ye 1) (xC (.int 18446744073709551616)))) (ye 1) (xC .non))))))
def yir:Fn:=ybp 1 (yQ (xOp (yFj false) (ye 0) (xC (.tup [.str "plus",.str "minus",.str "times",.str "less",.str "same"]))))
def yis:Fn:=ybp 1 (yQ (yjh (xOp (oEq) (xCB (ynB) (yb (ye 0) (yh))) (xC (.int 1))) (xOp (yDS) (ye 0) (xC (.str "abcdefgh")))))
def yeh:Fn:=ybp 1 (yQ (xBM isStr (ynE) (xC (.str "abcdefgh")) (yb (ye 0) (yh))))
def yit:Fn:=ybp 1 (yQ (yjh (yfH (oLe) (oLe) (xC (.int 1)) (xCB (ynB) (yb (ye 0) (yh))) (xC (.int 8))) (yT ydC (yb (ye 0) (yb (xC (.str "abcdefghijklmnopqrstuvwxyz")) (yh))))))
def yfh:List PV->AH->Option (Nd×AH):=ymT 3 12 (yl (ycK [12] 0 "held" (ydl (yea (yI) (yb (ye 1) (yh))))) (yl (ycK [12,14] 0 "width" (ye 2)) (ycK [12] 0 "log" (ydl (yfY yfM (yh))))))
def ybk:Fn:=ybp 2 (yQ (xOp (ybd) (ybc [12] "held" (ye 0)) (yT yeh (yb (ye 1) (yh)))))
def yci:Fn:=ybp 3 (yec (ybc [12] "held" (ye 0)) (yT yeh (yb (ye 1) (yh))) (ye 2))
def ybV:Fn:=ybp 2 (yQ (xOp oMod (yi 12 "held_in" ybk (ye 0) (yb (ye 1) (yh))) (ybc [12,14] "width" (ye 0))))
def ycm:Fn:=ybp 5 (yW (yi 12 "hold" yci (ye 0) (yb (ye 2) (yb (yT yhR (yb (ye 1) (yb (yi 12 "held_in" ybk (ye 0) (yb (ye 3) (yh))) (yb (yi 12 "held_in" ybk (ye 0) (yb (ye 4) (yh))) (yh))))) (yh)))))
def ydd:Fn:=ybp 3 (yW (yi 11 "write" yeK (ybc [12] "log" (ye 0)) (yb (yi 12 "box_at" ybV (ye 0) (yb (ye 1) (yh))) (yb (yi 12 "held_in" ybk (ye 0) (yb (ye 2) (yh))) (yh)))))
def ydt:Fn:=ybp 2 (yQ (xOp (yyE) (yi 11 "own" yev (ybc [12] "log" (ye 0)) (yb (yi 12 "box_at" ybV (ye 0) (yb (ye 1) (yh))) (yh))) (xC .non)))
def ycx:Fn:=ybp 3 (yW (yi 12 "hold" yci (ye 0) (yb (ye 1) (yb (yi 11 "own" yev (ybc [12] "log" (ye 0)) (yb (yi 12 "box_at" ybV (ye 0) (yb (ye 2) (yh))) (yh))) (yh)))))
def ycP:Fn:=ybp 5 (yl (ybu (yi 12 "box_at" ybV (ye 0) (yb (ye 2) (yh))) (yq 4)) (yl (yW (yi 11 "see" ygy (ybc [12] "log" (ye 0)) (yb (ye 4) (yb (xOp (ybd) (ye 3) (ye 4)) (yh))))) (yW (yi 12 "hold" yci (ye 0) (yb (ye 1) (yb (xOp (ybd) (ye 3) (ye 4)) (yh)))))))
def yiu:Fn:=ybp 2 (yl (yby (yv (xOp (oEq) (xOp (ybF) (ye 1) (xC (.int 0))) (xC (.str "wait")))) (yQ (xOp (oEq) (xOp (ybF) (ye 0) (xC (.int 0))) (xC (.str "either")))) (yN)) (yQ (yjh (xOp (oEq) (xOp (ybF) (ye 0) (xC (.int 0))) (xC (.str "guard"))) (xOp (oEq) (xOp (ybF) (ye 0) (xC (.int 1))) (xOp (ybF) (ye 1) (xC (.int 1)))))))
def yes:List PV->AH->Option (Nd×AH):=ymT 4 12 (yl (xBI 12 yfh (yb (ye 2) (yb (ye 3) (yh)))) (yl (ycK [12] 0 "rows" (ye 1)) (yl (ycK [10,12] 0 "at" (xC (.int 0))) (yl (ycK [12] 0 "seen_stamps" (ydl (ypV))) (ycK [12] 0 "sides" (ydl (ycl (yh))))))))
def ydS:Fn:=ybp 1 (yQ (xOp (ybd) (ybc [12] "rows" (ye 0)) (ybc [10,12] "at" (ye 0))))
def ycM:Fn:=ybp 2 (yQ (xCB (yxc) (yb (xFz (yjI (ybc [12] "seen_stamps" (ye 0)) [1,0] (xOp (oNe) (xOp (ybd) (ye 1) (ye 0)) (yii (ybc [12] "seen_stamps" (ye 2)) (ye 0))))) (yh))))
def ybK:Fn:=ybp 3 (yl (ybu (xCB (ydP) (yb (ybc [12] "sides" (ye 0)) (yh))) (yq 2)) (yl (yfI 1000 (ywJ (yv (xOp (oGt) (ye 2) (xC (.int 0)))) (ynv (yv (yT yiu (yb (xOp (ybF) (xOp (ybd) (ybc [12] "sides" (ye 0)) (xOp yoG (ye 2) (xC (.int 1)))) (xC (.int 0))) (yb (ye 1) (yh))))))) (ybu (xOp yoG (ye 2) (xC (.int 1))) (yq 2))) (yQ (ye 2))))
def loB:XS:=(yl (yby (yv (xOp (oEq) (xOp (ybF) (ye 1) (xC (.int 0))) (xC (.str "take")))) (yQ (yi 12 "sees_at" ydt (ye 0) (yb (xOp (ybF) (ye 1) (xC (.int 2))) (yh)))) (yN)) (yl (yby (xOr (yv (xOp (oEq) (xOp (ybF) (ye 1) (xC (.int 0))) (xC (.str "wait")))) (yv (xOp (oEq) (xOp (ybF) (ye 1) (xC (.int 0))) (xC (.str "throw"))))) (yQ (xOp (oEq) (yi 12 "taker_layer" ybK (ye 0) (yb (ye 1) (yh))) (xC (.int 0)))) (yN)) (yQ (xOp (oEq) (xOp (ybF) (ye 1) (xC (.int 0))) (xC (.str "lay"))))))
def ybD:Fn:=ybp 2 (yl (ybu (yi 12 "row" ydS (ye 0) (yh)) (yq 1)) loB)
def ydu:Fn:=ybp 5 (yl (ybu (yi 12 "row" ydS (ye 0) (yh)) (yq 3)) (yl (ybu (yi 12 "box_at" ybV (ye 0) (yb (xOp (ybF) (ye 3) (xC (.int 2))) (yh))) (yq 4)) (yl (yks (ybc [12] "seen_stamps" (ye 0)) (ye 4) (xOp (ybd) (ye 2) (ye 4))) (yl (yW (yi 12 "take_seen" ycP (ye 0) (yb (xOp (ybF) (ye 3) (xC (.int 1))) (yb (xOp (ybF) (ye 3) (xC (.int 2))) (yb (ye 1) (yh)))))) (yl (ydm [10,12] "at" (ye 0) (xOp yeG (ybc [10,12] "at" (ye 0)) (xC (.int 1)))) (yQ (ye 4)))))))
def yH:Fn:=ybp 2 (yby (yv (xOp (oEq) (xOp (ybF) (ye 1) (xC (.int 0))) (xC (.str "let")))) (yW (yi 12 "hold" yci (ye 0) (yb (xOp (ybF) (ye 1) (xC (.int 1))) (yb (xOp (ybF) (ye 1) (xC (.int 2))) (yh))))) (yby (yv (xOp (oEq) (xOp (ybF) (ye 1) (xC (.int 0))) (xC (.str "take")))) (yW (yi 12 "take_own" ycx (ye 0) (yb (xOp (ybF) (ye 1) (xC (.int 1))) (yb (xOp (ybF) (ye 1) (xC (.int 2))) (yh))))) (yby (yv (xOp (oEq) (xOp (ybF) (ye 1) (xC (.int 0))) (xC (.str "put")))) (yW (yi 12 "do_put" ydd (ye 0) (yb (xOp (ybF) (ye 1) (xC (.int 1))) (yb (xOp (ybF) (ye 1) (xC (.int 2))) (yh))))) (yW (yi 12 "do_reckon" ycm (ye 0) (yb (xOp (ybF) (ye 1) (xC (.int 0))) (yb (xOp (ybF) (ye 1) (xC (.int 1))) (yb (xOp (ybF) (ye 1) (xC (.int 2))) (yb (xOp (ybF) (ye 1) (xC (.int 3))) (yh))))))))))
def ycd:Fn:=ybp 2 (yby (yv (xOp (oEq) (xOp (ybF) (ye 1) (xC (.int 0))) (xC (.str "jump")))) (ydm [10,12] "at" (ye 0) (xOp (ybF) (ye 1) (xC (.int 1)))) (yby (yv (xOp (oEq) (yi 12 "held_in" ybk (ye 0) (yb (xOp (ybF) (ye 1) (xC (.int 1))) (yh))) (xC (.int 0)))) (ydm [10,12] "at" (ye 0) (xOp (ybF) (ye 1) (xC (.int 2)))) (yN)))
abbrev lvC:XT:=(yv (xOp (oGe) (xCB (ydP) (yb (ybc [12] "sides" (ye 0)) (yh))) (ye 2)))
abbrev lvB:XS:=(yl (yW (xBM ydz (yhA) (ybc [12] "sides" (ye 0)) (yh))) (yW (yi 11 "drop" yfx (ybc [12] "log" (ye 0)) (yh))))
def ycy:Fn:=ybp 5 (yl (ybu (yi 12 "taker_layer" ybK (ye 0) (yb (ye 1) (yh))) (yq 2)) (yl (ybu (xOp (ybd) (ybc [12] "sides" (ye 0)) (xOp yoG (ye 2) (xC (.int 1)))) (yq 3)) (yl (yfI 1000 lvC lvB) (yl (ybu (xOp (ybF) (ye 3) (xC (.int 0))) (yq 4)) (yl (ydm [12] "held" (ye 0) (ydl (yea (yI) (yb (xOp (ybF) (ye 3) (xC (.int 1))) (yh))))) (yl (ydm [10,12] "at" (ye 0) (xOp (ybF) (ye 4) (xUn yBA (xC (.int 1))))) (yQ (ye 4))))))))
def ycT:Fn:=ybp 4 (yl (ybu (yi 12 "held_in" ybk (ye 0) (yb (xOp (ybF) (ye 1) (xC (.int 2))) (yh))) (yq 2)) (yl (ybu (yi 12 "leave" ycy (ye 0) (yb (ye 1) (yh))) (yq 3)) (yW (yi 12 "hold" yci (ye 0) (yb (xOp (ybF) (ye 3) (xC (.int 2))) (yb (ye 2) (yh)))))))
def goS:XS:=(yl (yW (xBM ydz (yhA) (ybc [12] "sides" (ye 0)) (yh))) (yW (yi 11 "settle" yeg (ybc [12] "log" (ye 0)) (yh))))
def goE:XS:=(yl (yW (xBM ydz (ydR) (ybc [12] "sides" (ye 0)) (yb (yfa (yb (ye 1) (yb (xFz (yea (yI) (yb (ybc [12] "held" (ye 0)) (yh)))) (yh)))) (yh)))) (yW (yi 11 "begin" yeL (ybc [12] "log" (ye 0)) (yh))))
def goB:XS:=(yby (yv (xOp (oEq) (xOp (ybF) (ye 1) (xC (.int 0))) (xC (.str "wait")))) (yW (yi 12 "leave" ycy (ye 0) (yb (ye 1) (yh)))) (yby (yv (xOp (oEq) (xOp (ybF) (ye 1) (xC (.int 0))) (xC (.str "throw")))) (yW (yi 12 "throw" ycT (ye 0) (yb (ye 1) (yh)))) (yby (xOr (yv (xOp (oEq) (xOp (ybF) (ye 1) (xC (.int 0))) (xC (.str "jump")))) (yv (xOp (oEq) (xOp (ybF) (ye 1) (xC (.int 0))) (xC (.str "unless"))))) (yW (yi 12 "lead" ycd (ye 0) (yb (ye 1) (yh)))) (yby (xOr (yv (xOp (oEq) (xOp (ybF) (ye 1) (xC (.int 0))) (xC (.str "either")))) (yv (xOp (oEq) (xOp (ybF) (ye 1) (xC (.int 0))) (xC (.str "guard"))))) goE (yby (yv (xOp (oEq) (xOp (ybF) (ye 1) (xC (.int 0))) (xC (.str "settle")))) goS (yW (yi 12 "go_plain" yH (ye 0) (yb (ye 1) (yh)))))))))
def ycs:Fn:=ybp 2 (yl (ybu (yi 12 "row" ydS (ye 0) (yh)) (yq 1)) (yl (ydm [10,12] "at" (ye 0) (xOp yeG (ybc [10,12] "at" (ye 0)) (xC (.int 1)))) goB))
def ycz:Fn:=ybp 1 (yl (yby (yv (xOp (oEq) (ybc [14] "nth" (ye 0)) (xCB (ydP) (yb (ybc [14] "deeds" (ye 0)) (yh))))) (yQ (xC (.str "ended"))) (yN)) (yQ (xIf (yv (ybc [14] "sleeps" (ye 0))) (xC (.str "asleep")) (xC (.str "awake")))))
def ycn:Fn:=ybp 2 (yl (ybu (xIf (yv (xOp (oLt) (ybc [14] "nth" (ye 0)) (xCB (ydP) (yb (ybc [14] "deeds" (ye 0)) (yh))))) (xOp (ybd) (ybc [14] "deeds" (ye 0)) (ybc [14] "nth" (ye 0))) (xFz (ycl (yh)))) (yq 1)) (yQ (ydl (yfY yes (yb (ye 1) (yb (ybc [14] "before" (ye 0)) (yb (ybc [12,14] "width" (ye 0)) (yh))))))))
def yce:Fn:=ybp 1 (yl (ydm [14] "sleeps" (ye 0) (xC (.bl false))) (ydm [14] "run" (ye 0) (yi 14 "new_run" ycn (ye 0) (yh))))
def yct:Fn:=ybp 1 (ydm [14] "sleeps" (ye 0) (xC (.bl true)))
def yei:Fn:=ybp 2 (yl (ydm [14] "nth" (ye 0) (xOp yeG (ybc [14] "nth" (ye 0)) (xC (.int 1)))) (yl (ydm [14] "before" (ye 0) (xFz (yea (yI) (yb (ye 1) (yh))))) (ydm [14] "run" (ye 0) (yi 14 "new_run" ycn (ye 0) (yh)))))
def ybO:Fn:=ybp 3 (yl (ydm [14] "deeds" (ye 0) (xFz (yea (yI) (yb (ye 1) (yh))))) (yl (ydm [12,14] "width" (ye 0) (ye 2)) (yl (ydm [14] "nth" (ye 0) (xC (.int 0))) (yl (ydm [14] "sleeps" (ye 0) (xC (.bl false))) (yl (ydm [14] "before" (ye 0) (xFz (ypL yBG (xFz (ycl (yb (xC (.int 0)) (yh)))) (xCB (ynB) (yb (xC (.str "abcdefgh")) (yh)))))) (ydm [14] "run" (ye 0) (yi 14 "new_run" ycn (ye 0) (yh))))))))
def yfN:List PV->AH->Option (Nd×AH):=ymT 3 1 (yl (ycK [1,2,3,4,5,7,8] 0 "slot" (ye 1)) (ycK [1] 0 "number" (ye 2)))
def yey:List PV->AH->Option (Nd×AH):=ymT 5 2 (yl (ycK [2] 0 "word" (ye 1)) (yl (ycK [1,2,3,4,5,7,8] 0 "slot" (ye 2)) (yl (ycK [2] 0 "one" (ye 3)) (ycK [2] 0 "other" (ye 4)))))
def yfi:List PV->AH->Option (Nd×AH):=ymT 3 3 (yl (ycK [1,2,3,4,5,7,8] 0 "slot" (ye 1)) (ycK [3,4] 0 "place" (ye 2)))
def yfO:List PV->AH->Option (Nd×AH):=ymT 3 4 (yl (ycK [3,4] 0 "place" (ye 1)) (ycK [1,2,3,4,5,7,8] 0 "slot" (ye 2)))
def ygz:List PV->AH->Option (Nd×AH):=ymT 4 5 (yl (ycK [1,2,3,4,5,7,8] 0 "slot" (ye 1)) (yl (ycK [5,6,7] 0 "parts" (xFz (yea (yI) (yb (ye 2) (yh))))) (ycK [5,6,7] 0 "others" (xFz (yea (yI) (yb (ye 3) (yh)))))))
def yez:List PV->AH->Option (Nd×AH):=ymT 3 6 (yl (ycK [5,6,7] 0 "parts" (xFz (yea (yI) (yb (ye 1) (yh))))) (ycK [5,6,7] 0 "others" (xFz (yea (yI) (yb (ye 2) (yh))))))
def yfP:List PV->AH->Option (Nd×AH):=ymT 5 7 (yl (ycK [5,6,7] 0 "parts" (xFz (yea (yI) (yb (ye 1) (yh))))) (yl (ycK [7,8] 0 "name" (ye 2)) (yl (ycK [1,2,3,4,5,7,8] 0 "slot" (ye 3)) (ycK [5,6,7] 0 "others" (xFz (yea (yI) (yb (ye 4) (yh))))))))
def yeV:List PV->AH->Option (Nd×AH):=ymT 3 8 (yl (ycK [7,8] 0 "name" (ye 1)) (ycK [1,2,3,4,5,7,8] 0 "slot" (ye 2)))
def yjJ:Fn:=ybp 1 (yQ (xC (.int 1)))
def ygA:Fn:=ybp 1 (yQ (xC (.int 1)))
def yiv:Fn:=ybp 1 (yQ (xC (.int 1)))
def yjK:Fn:=ybp 1 (yQ (xC (.int 1)))
def yhm:Fn:=ybp 1 (yQ (xC (.int 1)))
def yiw:Fn:=ybp 1 (yQ (xC (.int 1)))
mutual
noncomputable def yix:Nat->Nat->Fn
 | 0,_=>fun _ _=>none
 | n+1,k=>match k with|1=>yjJ|2=>ygA|3=>yiv|4=>yjK|5=>yiy n|6=>yeP n|7=>yhb n|8=>yhm|9=>yiw|_=>fun _ _=>none
noncomputable def yY:Nat->Fn
 | 0=>fun _ _=>none
 | n+1=>ybp 1 (yQ (xCB (yDT) (yb (xFz (yet (xIL (ye 0)) [] (ynF "long" (yix n) (ye 0)))) (yh))))
noncomputable def yiy:Nat->Fn
 | 0=>fun _ _=>none
 | n+1=>ybp 1 (yQ (xOp yeG (xOp yeG (xC (.int 2)) (yT (yY n) (yb (ybc [5,6,7] "parts" (ye 0)) (yh)))) (yT (yY n) (yb (ybc [5,6,7] "others" (ye 0)) (yh)))))
noncomputable def yeP:Nat->Fn
 | 0=>fun _ _=>none
 | n+1=>ybp 1 (yQ (xOp yeG (xOp yeG (xC (.int 3)) (yT (yY n) (yb (ybc [5,6,7] "parts" (ye 0)) (yh)))) (yT (yY n) (yb (ybc [5,6,7] "others" (ye 0)) (yh)))))
noncomputable def yhb:Nat->Fn
 | 0=>fun _ _=>none
 | n+1=>ybp 1 (yQ (xOp yeG (xOp yeG (xC (.int 3)) (yT (yY n) (yb (ybc [5,6,7] "parts" (ye 0)) (yh)))) (yT (yY n) (yb (ybc [5,6,7] "others" (ye 0)) (yh)))))
end
def yhn:Fn:=ybp 1 (yl (yby (yv (xCB (ymU yge) (yb (ye 0) (yb (xC (.cls 1)) (yh))))) (yQ (xFz (ycl (yb (yfa (yb (xC (.str "let")) (yb (ybc [1,2,3,4,5,7,8] "slot" (ye 0)) (yb (ybc [1] "number" (ye 0)) (yh))))) (yh))))) (yN)) (yl (yby (yv (xCB (ymU yge) (yb (ye 0) (yb (xC (.cls 2)) (yh))))) (yQ (xFz (ycl (yb (yfa (yb (ybc [2] "word" (ye 0)) (yb (ybc [1,2,3,4,5,7,8] "slot" (ye 0)) (yb (ybc [2] "one" (ye 0)) (yb (ybc [2] "other" (ye 0)) (yh)))))) (yh))))) (yN)) (yl (yby (yv (xCB (ymU yge) (yb (ye 0) (yb (xC (.cls 3)) (yh))))) (yQ (xFz (ycl (yb (yfa (yb (xC (.str "take")) (yb (ybc [1,2,3,4,5,7,8] "slot" (ye 0)) (yb (ybc [3,4] "place" (ye 0)) (yh))))) (yh))))) (yN)) (yl (yby (yv (xCB (ymU yge) (yb (ye 0) (yb (xC (.cls 4)) (yh))))) (yQ (xFz (ycl (yb (yfa (yb (xC (.str "put")) (yb (ybc [3,4] "place" (ye 0)) (yb (ybc [1,2,3,4,5,7,8] "slot" (ye 0)) (yh))))) (yh))))) (yN)) (yl (yby (yv (xCB (ymU yge) (yb (ye 0) (yb (xC (.cls 8)) (yh))))) (yQ (xFz (ycl (yb (yfa (yb (xC (.str "throw")) (yb (ybc [7,8] "name" (ye 0)) (yb (ybc [1,2,3,4,5,7,8] "slot" (ye 0)) (yh))))) (yh))))) (yN)) (yl (yby (yv (xCB (ymU yge) (yb (ye 0) (yb (xC (.cls 9)) (yh))))) (yQ (xFz (ycl (yb (yfa (yb (xC (.str "wait")) (yh))) (yh))))) (yN)) (yQ (xFz (ycl (yh))))))))))
def yeQ:Fn:=ybp 2 (yl (yby (yv (xCB (ymU yge) (yb (ye 0) (yb (xC (.cls 5)) (yh))))) (yQ (yfa (yb (xC (.str "unless")) (yb (ybc [1,2,3,4,5,7,8] "slot" (ye 0)) (yb (ye 1) (yh)))))) (yN)) (yl (yby (yv (xCB (ymU yge) (yb (ye 0) (yb (xC (.cls 6)) (yh))))) (yQ (yfa (yb (xC (.str "either")) (yb (ye 1) (yh))))) (yN)) (yQ (yfa (yb (xC (.str "guard")) (yb (ybc [7,8] "name" (ye 0)) (yb (ybc [1,2,3,4,5,7,8] "slot" (ye 0)) (yb (ye 1) (yh)))))))))
def ydv:Fn:=ybp 2 (yl (yby (yv (xCB (ymU yge) (yb (ye 0) (yb (xC (.cls 5)) (yh))))) (yQ (xFz (ycl (yb (yfa (yb (xC (.str "jump")) (yb (ye 1) (yh)))) (yh))))) (yN)) (yQ (xFz (ycl (yb (yfa (yb (xC (.str "settle")) (yh))) (yb (yfa (yb (xC (.str "jump")) (yb (ye 1) (yh)))) (yh)))))))
def ptT:XT:=xOr (yv (xCB (ymU yge) (yb (ye 0) (yb (xC (.cls 5)) (yh))))) (xOr (yv (xCB (ymU yge) (yb (ye 0) (yb (xC (.cls 6)) (yh))))) (yv (xCB (ymU yge) (yb (ye 0) (yb (xC (.cls 7)) (yh))))))
mutual
noncomputable def ycA:Nat->Fn
 | 0=>fun _ _=>none
 | n+1=>ybp 4 (yl (yid (ycl (yh)) 2) (yl (yjd (xIL (ye 0)) (yq 3) (ynK 2 (yT (ydT n) (yb (ye 3) (yb (xOp yeG (ye 1) (yhB 2)) (yh)))))) (ytF 2 (yQ (ye 2)))))
noncomputable def ydT:Nat->Fn
 | 0=>fun _ _=>none
 | n+1=>ybp 2 (yl (yby (ptT) (yQ (yT (yej n) (yb (ye 0) (yb (ye 1) (yh))))) (yN)) (yQ (yT yhn (yb (ye 0) (yh)))))
noncomputable def yej:Nat->Fn
 | 0=>fun _ _=>none
 | n+1=>ybp 6 (yl (ybu (xOp yeG (ye 1) (ynF "long" (yix 45) (ye 0))) (yq 2)) (yl (ybu (xOp yoG (ye 2) (yT (yY 45) (yb (ybc [5,6,7] "others" (ye 0)) (yh)))) (yq 3)) (yl (ybu (yT (ycA n) (yb (ybc [5,6,7] "parts" (ye 0)) (yb (xOp yeG (ye 1) (xC (.int 1))) (yh)))) (yq 4)) (yl (ybu (yT (ycA n) (yb (ybc [5,6,7] "others" (ye 0)) (yb (ye 3) (yh)))) (yq 5)) (yQ (xFz (ypL ymS (xFz (ypL ymS (xFz (ypL ymS (xFz (ycl (yb (yT yeQ (yb (ye 0) (yb (ye 3) (yh)))) (yh)))) (ye 4))) (yT ydv (yb (ye 0) (yb (ye 2) (yh)))))) (ye 5))))))))
end
def yeA:Fn:=ybp 1 (yQ (xFz (ypL ymS (yT (ycA 45) (yb (ye 0) (yb (xC (.int 0)) (yh)))) (xFz (ycl (yb (yfa (yb (xC (.str "lay")) (yh))) (yh)))))))
def ydp:List PV->AH->Option (Nd×AH):=ymT 2 10 (yl (ycK [10] 0 "words" (xFz (yea (yI) (yb (ye 1) (yh))))) (ycK [10,12] 0 "at" (xC (.int 0))))
def yfy:Fn:=ybp 1 (yl (yby (yv (xOp (oEq) (ye 0) (xC (.str "")))) (yQ (xFz (ycl (yh)))) (yN)) (yQ (xBM isStr (yoY) (ye 0) (yb (xC (.str " ")) (yh)))))
def ybH:Fn:=ybp 1 (yl (yby (yv (xOp (oLt) (ybc [10,12] "at" (ye 0)) (xCB (ydP) (yb (ybc [10] "words" (ye 0)) (yh))))) (yQ (xOp (ybd) (ybc [10] "words" (ye 0)) (ybc [10,12] "at" (ye 0)))) (yN)) (yQ (xC .non)))
def ybI:Fn:=ybp 2 (yl (ybu (yi 10 "ahead" ybH (ye 0) (yh)) (yq 1)) (yl (yby (yv (xOp (yyE) (ye 1) (xC .non))) (yfE) (yN)) (yl (ydm [10,12] "at" (ye 0) (xOp yeG (ybc [10,12] "at" (ye 0)) (xC (.int 1)))) (yQ (ye 1)))))
def yS:Fn:=ybp 3 (yl (ybu (yi 10 "taken" ybI (ye 0) (yh)) (yq 2)) (yby (yv (xOp (oNe) (ye 2) (ye 1))) (yfE) (yN)))
def yz:Fn:=ybp 2 (yl (ybu (yi 10 "taken" ybI (ye 0) (yh)) (yq 1)) (yl (yby (ynv (yv (yT yis (yb (ye 1) (yh))))) (yfE) (yN)) (yQ (ye 1))))
def ybP:Fn:=ybp 2 (yl (ybu (yi 10 "taken" ybI (ye 0) (yh)) (yq 1)) (yl (yby (ynv (yv (yT yit (yb (ye 1) (yh))))) (yfE) (yN)) (yQ (ye 1))))
def ybW:Fn:=ybp 3 (yl (ybu (yi 10 "taken" ybI (ye 0) (yh)) (yq 1)) (yl (ybu (yT yeO (yb (ye 1) (yh))) (yq 2)) (yl (yby (yv (xOp (yyE) (ye 2) (xC .non))) (yfE) (yN)) (yQ (ye 2)))))
def ybX:Fn:=ybp 5 (yl (ybu (yi 10 "slot_taken" yz (ye 0) (yh)) (yq 2)) (yl (ybu (yi 10 "slot_taken" yz (ye 0) (yh)) (yq 3)) (yl (ybu (yi 10 "slot_taken" yz (ye 0) (yh)) (yq 4)) (yQ (xFz (yfY yey (yb (ye 1) (yb (ye 2) (yb (ye 3) (yb (ye 4) (yh)))))))))))
def yA:Fn:=ybp 5 (yl (yby (yv (xOp (oEq) (ye 1) (xC (.str "let")))) (yl (ybu (yi 10 "slot_taken" yz (ye 0) (yh)) (yq 2)) (yQ (xFz (yfY yfN (yb (ye 2) (yb (yi 10 "number_taken" ybW (ye 0) (yh)) (yh))))))) (yN)) (yl (yby (yv (xOp (oEq) (ye 1) (xC (.str "take")))) (yl (ybu (yi 10 "slot_taken" yz (ye 0) (yh)) (yq 2)) (yQ (xFz (yfY yfi (yb (ye 2) (yb (yi 10 "slot_taken" yz (ye 0) (yh)) (yh))))))) (yN)) (yl (yby (yv (xOp (oEq) (ye 1) (xC (.str "put")))) (yl (ybu (yi 10 "slot_taken" yz (ye 0) (yh)) (yq 3)) (yQ (xFz (yfY yfO (yb (ye 3) (yb (yi 10 "slot_taken" yz (ye 0) (yh)) (yh))))))) (yN)) (yl (yby (yv (xOp (oEq) (ye 1) (xC (.str "throw")))) (yl (ybu (yi 10 "name_taken" ybP (ye 0) (yh)) (yq 4)) (yQ (xFz (yfY yeV (yb (ye 4) (yb (yi 10 "slot_taken" yz (ye 0) (yh)) (yh))))))) (yN)) (yl (yby (yv (xOp (oEq) (ye 1) (xC (.str "wait")))) (yQ (xFz (yrD 9))) (yN)) (yl (yby (yv (yT yir (yb (ye 1) (yh)))) (yQ (yi 10 "reckon_taken" ybX (ye 0) (yb (ye 1) (yh)))) (yN)) (yfE)))))))
def ykA:XT:=yv (xOp (oEq) (yi 10 "ahead" ybH (ye 0) (yh)) (xC (.str ";")))
mutual
noncomputable def ybQ:Nat->Fn
 | 0=>fun _ _=>none
 | n+1=>ybp 3 (yl (yby (xOr (yv (xOp (yyE) (yi 10 "ahead" ybH (ye 0) (yh)) (xC .non))) (yv (xOp (oEq) (yi 10 "ahead" ybH (ye 0) (yh)) (xC (.str ")"))))) (yQ (xFz (ycl (yh)))) (yN)) (yl (yid (ycl (yb (yi 10 "part_taken" (yJ n) (ye 0) (yb (ye 1) (yh))) (yh))) 2) (yl (yfI 100 (ykA) (yl (yW (yi 10 "pass_over" yS (ye 0) (yb (xC (.str ";")) (yh)))) (yfW 2 (yi 10 "part_taken" (yJ n) (ye 0) (yb (ye 1) (yh)))))) (ytF 2 (yQ (ye 2))))))
noncomputable def yt:Nat->Fn
 | 0=>fun _ _=>none
 | n+1=>ybp 3 (yl (yW (yi 10 "pass_over" yS (ye 0) (yb (xC (.str "(")) (yh)))) (yl (ybu (yi 10 "list_taken" (ybQ n) (ye 0) (yb (ye 1) (yh))) (yq 2)) (yl (yW (yi 10 "pass_over" yS (ye 0) (yb (xC (.str ")")) (yh)))) (yQ (ye 2)))))
noncomputable def yJ:Nat->Fn
 | 0=>fun _ _=>none
 | n+1=>ybp 3 (yl (yby (yv (xOp (oGt) (ye 1) (xC (.int 8)))) (yfE) (yN)) (yl (ybu (yi 10 "taken" ybI (ye 0) (yh)) (yq 2)) (yl (yby (yv (xOp (oEq) (ye 2) (xC (.str "if")))) (yQ (yi 10 "if_taken" (ycf n) (ye 0) (yb (xOp yeG (ye 1) (xC (.int 1))) (yh)))) (yN)) (yl (yby (yv (xOp (oEq) (ye 2) (xC (.str "either")))) (yQ (yi 10 "either_taken" (ybw n) (ye 0) (yb (xOp yeG (ye 1) (xC (.int 1))) (yh)))) (yN)) (yl (yby (yv (xOp (oEq) (ye 2) (xC (.str "try")))) (yQ (yi 10 "try_taken" (ybY n) (ye 0) (yb (xOp yeG (ye 1) (xC (.int 1))) (yh)))) (yN)) (yQ (yi 10 "plain_taken" yA (ye 0) (yb (ye 2) (yh)))))))))
noncomputable def ycf:Nat->Fn
 | 0=>fun _ _=>none
 | n+1=>ybp 5 (yl (ybu (yi 10 "slot_taken" yz (ye 0) (yh)) (yq 2)) (yl (ybu (yi 10 "side_taken" (yt n) (ye 0) (yb (ye 1) (yh))) (yq 3)) (yl (yW (yi 10 "pass_over" yS (ye 0) (yb (xC (.str "else")) (yh)))) (yl (ybu (yi 10 "side_taken" (yt n) (ye 0) (yb (ye 1) (yh))) (yq 4)) (yQ (xFz (yfY ygz (yb (ye 2) (yb (ye 3) (yb (ye 4) (yh)))))))))))
noncomputable def ybw:Nat->Fn
 | 0=>fun _ _=>none
 | n+1=>ybp 4 (yl (ybu (yi 10 "side_taken" (yt n) (ye 0) (yb (ye 1) (yh))) (yq 2)) (yl (yW (yi 10 "pass_over" yS (ye 0) (yb (xC (.str "or")) (yh)))) (yl (ybu (yi 10 "side_taken" (yt n) (ye 0) (yb (ye 1) (yh))) (yq 3)) (yQ (xFz (yfY yez (yb (ye 2) (yb (ye 3) (yh)))))))))
noncomputable def ybY:Nat->Fn
 | 0=>fun _ _=>none
 | n+1=>ybp 6 (yl (ybu (yi 10 "side_taken" (yt n) (ye 0) (yb (ye 1) (yh))) (yq 2)) (yl (yW (yi 10 "pass_over" yS (ye 0) (yb (xC (.str "on")) (yh)))) (yl (ybu (yi 10 "name_taken" ybP (ye 0) (yh)) (yq 3)) (yl (ybu (yi 10 "slot_taken" yz (ye 0) (yh)) (yq 4)) (yl (ybu (yi 10 "side_taken" (yt n) (ye 0) (yb (ye 1) (yh))) (yq 5)) (yQ (xFz (yfY yfP (yb (ye 2) (yb (ye 3) (yb (ye 4) (yb (ye 5) (yh)))))))))))))
end
def ymm:Fn:=ybp 3 (yl (ybu (ydl (yfY ydp (yb (yT yfy (yb (ye 0) (yh))) (yh)))) (yq 1)) (yl (ybu (yi 10 "list_taken" (ybQ 45) (ye 1) (yb (xC (.int 0)) (yh))) (yq 2)) (yl (yby (yv (xOp (yuG) (yi 10 "ahead" ybH (ye 1) (yh)) (xC .non))) (yfE) (yN)) (yl (yby (yv (xOp (oGt) (xOp yeG (yT (yY 45) (yb (ye 2) (yh))) (xC (.int 1))) (xC (.int 80)))) (yfE) (yN)) (yQ (ye 2))))))
def ydM:Fn:=ybp 1 (yl (yby (ynv (yv (yfH (oLe) (oLe) (xC (.int 1)) (xCB (ydP) (yb (ye 0) (yh))) (xC (.int 16))))) (yfE) (yN)) (yby (ynv (yv (xCB (yyF) (yb (xFz (ydB (ye 0) [] (yT ydo (yb (ye 0) (yh))))) (yh))))) (yfE) (yN)))
def ycB:Fn:=ybp 1 (yQ (xFz (ydB (ye 0) [] (yT yeA (yb (yT ymm (yb (ye 0) (yh))) (yh))))))
def ycC:Fn:=ybp 1 (yl (yby (ynv (yv (yfH (oLe) (oLe) (xC (.int 1)) (xCB (ydP) (yb (ye 0) (yh))) (xC (.int 8))))) (yfE) (yN)) (yl (yby (yv (xCB (yxc) (yb (xFz (ydB (ye 0) [] (xOp (oGt) (xCB (ydP) (yb (ye 0) (yh))) (xC (.int 6))))) (yh)))) (yfE) (yN)) (yQ (xFz (ydB (ye 0) [] (yT ycB (yb (ye 0) (yh))))))))
def yZ:Fn:=ybp 3 (yl (yW (yT ydM (yb (ye 1) (yh)))) (yl (ydm [15] "numbers" (ye 0) (ydl (yea (yI) (yb (ye 1) (yh))))) (yl (ydm [15] "marks" (ye 0) (ydl (ypL yBG (xFz (ycl (yb (xC (.int 0)) (yh)))) (xCB (ydP) (yb (ye 1) (yh)))))) (yl (ydm [15] "crew" (ye 0) (ydl (yet (xIL (yT ycC (yb (ye 2) (yh)))) [1] (yfe 14 ybO (yb (ye 0) (yb (xCB (ydP) (yb (ye 1) (yh))) (yh))))))) (ydm [15] "entries" (ye 0) (ydl (ycl (yh))))))))
def ycD:Fn:=ybp 1 (yQ (xFz (yea (yI) (yb (ybc [15] "numbers" (ye 0)) (yh)))))
def ycj:Fn:=ybp 1 (yQ (xFz (yea (yI) (yb (ybc [15] "marks" (ye 0)) (yh)))))
def ybe:Fn:=ybp 2 (yl (yby (xOr (ynv (yv (yT yex (yb (ye 1) (yh))))) (ynv (yv (yfH (oLe) (oLt) (xC (.int 0)) (ye 1) (xCB (ydP) (yb (ybc [15] "crew" (ye 0)) (yh))))))) (yfE) (yN)) (yQ (xOp (ybd) (ybc [15] "crew" (ye 0)) (ye 1))))
def ycW:Fn:=ybp 2 (yQ (yi 14 "state" ycz (yi 15 "hand_at" ybe (ye 0) (yb (ye 1) (yh))) (yh)))
def ycX:Fn:=ybp 2 (yQ (ybc [14] "nth" (yi 15 "hand_at" ybe (ye 0) (yb (ye 1) (yh)))))
def ycE:Fn:=ybp 2 (yQ (xFz (yea (yI) (yb (ybc [12] "held" (ybc [14] "run" (yi 15 "hand_at" ybe (ye 0) (yb (ye 1) (yh))))) (yh)))))
def ydN:Fn:=ybp 2 (yQ (yi 11 "saw" yew (ybc [12] "log" (ybc [14] "run" (yi 15 "hand_at" ybe (ye 0) (yb (ye 1) (yh))))) (yh)))
def yca:Fn:=ybp 1 (yQ (xFz (ydB (ybc [15] "entries" (ye 0)) [] (yfa (yb (xOp (ybF) (ye 0) (xC (.int 0))) (yb (xOp (ybF) (ye 0) (xC (.int 1))) (yb (xOp (ybF) (ye 0) (xC (.int 2))) (yb (xFz (yea (yI) (yb (xOp (ybF) (ye 0) (xC (.int 3))) (yh)))) (yb (xFz (yea (yI) (yb (xOp (ybF) (ye 0) (xC (.int 4))) (yh)))) (yb (xFz (yea (yI) (yb (xOp (ybF) (ye 0) (xC (.int 5))) (yh)))) (yh)))))))))))
def ydw:Fn:=ybp 1 (yQ (ydl (yea (yI) (yb (ybc [15] "numbers" (ye 0)) (yh)))))
def yde:Fn:=ybp 1 (yQ (ydl (yea (yI) (yb (ybc [15] "marks" (ye 0)) (yh)))))
def ydx:Fn:=ybp 2 (yQ (ydl (yea (yI) (yb (ybc [12] "held" (ybc [14] "run" (yi 15 "hand_at" ybe (ye 0) (yb (ye 1) (yh))))) (yh)))))
def yek:Fn:=ybp 2 (yQ (yi 11 "saw" yeM (ybc [12] "log" (ybc [14] "run" (yi 15 "hand_at" ybe (ye 0) (yb (ye 1) (yh))))) (yh)))
def jlE:XE:=yfa (yb (xOp (ybF) (ye 0) (xC (.int 0))) (yb (xOp (ybF) (ye 0) (xC (.int 1))) (yb (xOp (ybF) (ye 0) (xC (.int 2))) (yb (ydl (yea (yI) (yb (xOp (ybF) (ye 0) (xC (.int 3))) (yh)))) (yb (ydl (yea (yI) (yb (xOp (ybF) (ye 0) (xC (.int 4))) (yh)))) (yb (ydl (yea (yI) (yb (xOp (ybF) (ye 0) (xC (.int 5))) (yh)))) (yh)))))))
def ycQ:Fn:=ybp 1 (yQ (ydl (ydB (ybc [15] "entries" (ye 0)) [] (jlE))))
def wkB:XS:=(yby (ywJ (yv (xOp (oEq) (yi 14 "state" ycz (ye 1) (yh)) (xC (.str "asleep")))) (yv (yi 12 "is_stale" ycM (ybc [14] "run" (ye 1)) (yb (ybc [15] "marks" (ye 0)) (yh))))) (yW (yi 14 "begin_anew" yce (ye 1) (yh))) (yN))
def ybL:Fn:=ybp 2 (ygX false (ybc [15] "crew" (ye 0)) (yq 1) wkB)
def ycF:Fn:=ybp 6 (yl (ybu (xOp (ybd) (ybc [15] "crew" (ye 0)) (ye 1)) (yq 5)) (yl (yW (xBM ydz (ydR) (ybc [15] "entries" (ye 0)) (yb (yfa (yb (ye 1) (yb (ybc [14] "nth" (ye 5)) (yb (ye 2) (yb (yi 11 "saw" yew (ybc [12] "log" (ybc [14] "run" (ye 5))) (yh)) (yb (ye 3) (yb (xFz (yea (yI) (yb (ye 4) (yh)))) (yh)))))))) (yh)))) (yW (yi 14 "go_on" yei (ye 5) (yb (ye 4) (yh))))))
def ldB:XS:=(yl (ybu (xOp (ybF) (ye 4) (xC (.int 0))) (yq 5)) (yl (yec (ybc [15] "numbers" (ye 0)) (ye 5) (xOp (ybF) (ye 4) (xC (.int 1)))) (yec (ybc [15] "marks" (ye 0)) (ye 5) (xOp yeG (xOp (ybd) (ybc [15] "marks" (ye 0)) (ye 5)) (xC (.int 1))))))
def ydf:Fn:=ybp 6 (yl (ybu (ybc [14] "run" (xOp (ybd) (ybc [15] "crew" (ye 0)) (ye 1))) (yq 2)) (yl (ybu (yi 11 "wrote" yeN (ybc [12] "log" (ye 2)) (yh)) (yq 3)) (yl (yjd (xIL (ye 3)) (yq 4) ldB) (yl (yW (yi 15 "end_deed" ycF (ye 0) (yb (ye 1) (yb (yfa (yb (xC (.str "done")) (yh))) (yb (ye 3) (yb (ybc [12] "held" (ye 2)) (yh))))))) (yW (yi 15 "wake_stale" ybL (ye 0) (yh)))))))
def yU:Fn:=ybp 6 (yl (ybu (xOp (ybd) (ybc [15] "crew" (ye 0)) (ye 1)) (yq 3)) (yl (ybu (yi 12 "row" ydS (ybc [14] "run" (ye 3)) (yh)) (yq 4)) (yl (yby (yv (xOp (oEq) (xOp (ybF) (ye 4) (xC (.int 0))) (xC (.str "take")))) (yl (ybu (yi 12 "see_next" ydu (ybc [14] "run" (ye 3)) (yb (ybc [15] "numbers" (ye 0)) (yb (ybc [15] "marks" (ye 0)) (yh)))) (yq 5)) (yQ (yfa (yb (xC (.str "seen")) (yb (ye 2) (yb (ye 5) (yb (xOp (ybd) (ybc [15] "numbers" (ye 0)) (ye 5)) (yh)))))))) (yN)) (yl (yby (yv (xOp (oEq) (xOp (ybF) (ye 4) (xC (.int 0))) (xC (.str "wait")))) (yl (yW (yi 14 "fall_asleep" yct (ye 3) (yh))) (yQ (yfa (yb (xC (.str "asleep")) (yb (ye 2) (yh)))))) (yN)) (yl (yby (yv (xOp (oEq) (xOp (ybF) (ye 4) (xC (.int 0))) (xC (.str "throw")))) (yl (yW (yi 15 "end_deed" ycF (ye 0) (yb (ye 1) (yb (yfa (yb (xC (.str "fell")) (yb (xOp (ybF) (ye 4) (xC (.int 1))) (yb (yi 12 "held_in" ybk (ybc [14] "run" (ye 3)) (yb (xOp (ybF) (ye 4) (xC (.int 2))) (yh))) (yh))))) (yb (xFz (ycl (yh))) (yb (ybc [14] "before" (ye 3)) (yh))))))) (yQ (yfa (yb (xC (.str "fell")) (yb (ye 2) (yh)))))) (yN)) (yl (yW (yi 15 "lay_down" ydf (ye 0) (yb (ye 1) (yh)))) (yQ (yfa (yb (xC (.str "done")) (yb (ye 2) (yh)))))))))))
def yK:Fn:=ybp 4 (yl (ybu (yi 15 "hand_at" ybe (ye 0) (yb (ye 1) (yh))) (yq 2)) (yl (yby (yv (xOp (oNe) (yi 14 "state" ycz (ye 2) (yh)) (xC (.str "awake")))) (yQ (yfa (yb (xC (.str "idle")) (yh)))) (yN)) (yl (ybu (ybc [10,12] "at" (ybc [14] "run" (ye 2))) (yq 3)) (yl (yby (ynv (yv (yi 12 "is_looked_over" ybD (ybc [14] "run" (ye 2)) (yh)))) (yl (yW (yi 12 "go" ycs (ybc [14] "run" (ye 2)) (yh))) (yQ (yfa (yb (xC (.str "gone")) (yb (ye 3) (yh)))))) (yN)) (yl (yby (yv (yi 12 "is_stale" ycM (ybc [14] "run" (ye 2)) (yb (ybc [15] "marks" (ye 0)) (yh)))) (yl (yW (yi 14 "begin_anew" yce (ye 2) (yh))) (yQ (yfa (yb (xC (.str "anew")) (yb (ye 3) (yh)))))) (yN)) (yQ (yi 15 "looked_over_told" yU (ye 0) (yb (ye 1) (yb (ye 3) (yh))))))))))
def ybl:Fn:=ybp 2 (yl (yby (yv (xOp (oLt) (ye 1) (xCB (ydP) (yb (ye 0) (yh))))) (yQ (xOp (ybd) (ye 0) (ye 1))) (yN)) (yQ (xC (.int 0))))
def ybA:Fn:=ybp 2 (yl (ybu (xOp oDiv (ye 0) (xC (.int 3))) (yq 1)) (yl (yby (yv (xOp (oEq) (xOp oMod (ye 0) (xC (.int 3))) (xC (.int 1)))) (yQ (xOp oMod (ye 1) (xC (.int 5)))) (yN)) (yl (yby (yv (xOp (oEq) (xOp oMod (ye 0) (xC (.int 3))) (xC (.int 2)))) (yQ (xOp yoG (xOp yoG (xOp yEG (xC (.int 2)) (xC (.int 64))) (xC (.int 1))) (xOp oMod (ye 1) (xC (.int 5))))) (yN)) (yQ (xOp oMod (ye 1) (xOp yEG (xC (.int 2)) (xC (.int 64))))))))
def plC:XS:=yl (yby (yv (xOp (oEq) (ye 3) (xC (.int 0)))) (yQ (xOp ybn (xOp ybn (xOp ybn (xC (.str "let ")) (xOp (ybd) (ye 2) (xC (.int 0)))) (xC (.str " "))) (xCB (yif) (yb (ye 1) (yh))))) (yN)) (yl (yby (yv (xOp (oEq) (ye 3) (xC (.int 1)))) (yl (ybu (xOp (ybd) (xFz (ycl (yb (xC (.str "plus")) (yb (xC (.str "minus")) (yb (xC (.str "times")) (yb (xC (.str "less")) (yb (xC (.str "same")) (yh)))))))) (xOp oMod (xOp oDiv (ye 0) (xC (.int 1024))) (xC (.int 5)))) (yq 4)) (yQ (xOp ybn (xOp ybn (xOp ybn (xOp ybn (xOp ybn (xOp ybn (ye 4) (xC (.str " "))) (xOp (ybd) (ye 2) (xC (.int 0)))) (xC (.str " "))) (xOp (ybd) (ye 2) (xC (.int 1)))) (xC (.str " "))) (xOp (ybd) (ye 2) (xC (.int 2)))))) (yN)) (yl (yby (yv (xOp (oEq) (ye 3) (xC (.int 2)))) (yQ (xOp ybn (xOp ybn (xOp ybn (xC (.str "take ")) (xOp (ybd) (ye 2) (xC (.int 0)))) (xC (.str " "))) (xOp (ybd) (ye 2) (xC (.int 2))))) (yN)) (yl (yby (yv (xOp (oEq) (ye 3) (xC (.int 3)))) (yQ (xOp ybn (xOp ybn (xOp ybn (xC (.str "put ")) (xOp (ybd) (ye 2) (xC (.int 2)))) (xC (.str " "))) (xOp (ybd) (ye 2) (xC (.int 0))))) (yN)) (yl (yby (yv (xOp (oLt) (ye 3) (xC (.int 6)))) (yQ (xOp ybn (xOp ybn (xC (.str "let a ")) (xCB (yif) (yb (xOp oMod (xOp oDiv (ye 0) (xC (.int 1024))) (xC (.int 3))) (yh)))) (xC (.str " ; take b a ; plus b b c ; put a b")))) (yN)) (yl (yby (yv (xOp (oEq) (ye 3) (xC (.int 6)))) (yQ (xOp ybn (xOp ybn (xC (.str "let d ")) (xCB (yif) (yb (xOp oMod (xOp oDiv (ye 0) (xC (.int 1024))) (xC (.int 3))) (yh)))) (xC (.str " ; take c d")))) (yN)) (yQ (xC (.str "let e 1 ; plus c c e"))))))))
def ych:Fn:=ybp 5 (yl (ybu (xFz (ycl (yb (xOp (ytH) (xC (.str "abcd")) (xOp oMod (xOp oDiv (ye 0) (xC (.int 8))) (xC (.int 4)))) (yb (xOp (ytH) (xC (.str "abcd")) (xOp oMod (xOp oDiv (ye 0) (xC (.int 32))) (xC (.int 4)))) (yb (xOp (ytH) (xC (.str "abcdefgh")) (xOp oMod (xOp oDiv (ye 0) (xC (.int 128))) (xC (.int 8)))) (yh)))))) (yq 2)) (yl (ybu (xOp oMod (ye 0) (xC (.int 8))) (yq 3)) (plC)))
def pcC:XS:=yl (yby (yv (xOp (oLt) (ye 6) (xC (.int 5)))) (yQ (xOp ybn (xOp ybn (ye 4) (xC (.str " ; "))) (ye 5))) (yN)) (yl (yby (yv (xOp (oEq) (ye 6) (xC (.int 5)))) (yQ (xOp ybn (xOp ybn (xOp ybn (xOp ybn (xC (.str "if b ( ")) (ye 4)) (xC (.str " ) else ( "))) (ye 5)) (xC (.str " )")))) (yN)) (yl (yby (yv (xOp (oLt) (ye 6) (xC (.int 8)))) (yQ (xOp ybn (xOp ybn (xOp ybn (xOp ybn (xC (.str "either ( ")) (ye 4)) (xC (.str " ; if c ( ) else ( wait ) ) or ( "))) (ye 5)) (xC (.str " )")))) (yN)) (yl (yby (yv (xOp (oLt) (ye 6) (xC (.int 10)))) (yl (ybu (xOp (ybd) (xFz (ycl (yb (xC (.str "low")) (yb (xC (.str "high")) (yh))))) (xOp oMod (ye 6) (xC (.int 2)))) (yq 7)) (yl (ybu (xOp ybn (xOp ybn (xOp ybn (xOp ybn (xC (.str "if b ( throw ")) (ye 7)) (xC (.str " c ) else ( "))) (ye 5)) (xC (.str " )"))) (yq 8)) (yQ (xOp ybn (xOp ybn (xOp ybn (xOp ybn (xOp ybn (xOp ybn (xC (.str "try ( ")) (ye 4)) (xC (.str " ; "))) (ye 8)) (xC (.str " ) on low d ( "))) (ye 5)) (xC (.str " )")))))) (yN)) (yl (yby (yv (xOp (oEq) (ye 6) (xC (.int 10)))) (yQ (xOp ybn (xOp ybn (xC (.str "let a ")) (xCB (yif) (yb (xOp oMod (ye 1) (xC (.int 3))) (yh)))) (xC (.str " ; take b a ; if b ( ) else ( wait )")))) (yN)) (yQ (xOp (ybd) (xFz (ycl (yb (xC (.str "wait")) (yb (xC (.str "throw low c")) (yb (xC (.str "throw high b")) (yb (ye 4) (yh))))))) (xOp oMod (ye 1) (xC (.int 4)))))))))
def ycY:Fn:=ybp 9 (yl (ybu (xOp oMod (xOp ynA (ye 0) (xC (.int 48271))) (xC (.int 2147483647))) (yq 1)) (yl (ybu (xOp oMod (xOp ynA (xOp yeG (xOp oDiv (ye 0) (xC (.int 2))) (xC (.int 7))) (xC (.int 69621))) (xC (.int 2147483629))) (yq 2)) (yl (ybu (yT ybA (yb (xOp oDiv (ye 0) (xC (.int 12))) (yh))) (yq 3)) (yl (ybu (yT ych (yb (ye 1) (yb (ye 3) (yh)))) (yq 4)) (yl (ybu (yT ych (yb (ye 2) (yb (ye 3) (yh)))) (yq 5)) (yl (ybu (xOp oMod (ye 0) (xC (.int 12))) (yq 6)) (pcC)))))))
def ldQ:XS:=yl (yfW 2 (yT ycY (yb (ye 3) (yh)))) (yby (ywJ (yv (xOp (oGt) (yhB 2) (xOp oMod (xOp oDiv (ye 3) (xC (.int 12))) (xC (.int 3))))) (yv (xOp (oLt) (yhB 1) (xC (.int 6))))) (ytF 2 (yl (yfW 1 (xBM isStr (ynD) (xC (.str " ; ")) (yb (ye 2) (yh)))) (yid (ycl (yh)) 2))) (yN))
def ycZ:Fn:=ybp 4 (yl (yid (ycl (yh)) 1) (yl (yid (ycl (yh)) 2) (yl (yjd (xIL (ye 0)) (yq 3) (ldQ)) (ytF 1 (yQ (ye 1))))))
def ydO:Fn:=ybp 6 (yl (ybu (ydl (ycl (yb (xFz (ycl (yh))) (yb (xFz (ycl (yh))) (yb (xFz (ycl (yh))) (yb (xFz (ycl (yh))) (yb (xFz (ycl (yh))) (yb (xFz (ycl (yh))) (yb (xFz (ycl (yh))) (yh)))))))))) (yq 3)) (yl (yjd (yhz (yb (xC (.int 7)) (yh))) (yq 4) (yl (ybu (xOp oMod (xOp yeG (xOp ynA (ye 4) (xC (.int 3))) (ye 2)) (xC (.int 7))) (yq 5)) (yl (yby (yv (xOp (oEq) (ye 5) (xC (.int 0)))) (yec (ye 3) (xC (.int 0)) (yi 15 "boxes" ycD (ye 0) (yh))) (yN)) (yl (yby (yv (xOp (oEq) (ye 5) (xC (.int 1)))) (yec (ye 3) (xC (.int 1)) (yi 15 "stamps" ycj (ye 0) (yh))) (yN)) (yl (yby (yv (xOp (oEq) (ye 5) (xC (.int 2)))) (yec (ye 3) (xC (.int 2)) (yi 15 "journal" yca (ye 0) (yh))) (yN)) (yl (yby (yv (xOp (oEq) (ye 5) (xC (.int 3)))) (yec (ye 3) (xC (.int 3)) (xFz (yet (yhz (yb (ye 1) (yh))) [0] (yi 15 "state" ycW (ye 1) (yb (ye 0) (yh)))))) (yN)) (yl (yby (yv (xOp (oEq) (ye 5) (xC (.int 4)))) (yec (ye 3) (xC (.int 4)) (xFz (yet (yhz (yb (ye 1) (yh))) [0] (yi 15 "slots" ycE (ye 1) (yb (ye 0) (yh)))))) (yN)) (yl (yby (yv (xOp (oEq) (ye 5) (xC (.int 5)))) (yec (ye 3) (xC (.int 5)) (xFz (yet (yhz (yb (ye 1) (yh))) [0] (yi 15 "saw" ydN (ye 1) (yb (ye 0) (yh)))))) (yN)) (yby (yv (xOp (oEq) (ye 5) (xC (.int 6)))) (yec (ye 3) (xC (.int 6)) (xFz (yet (yhz (yb (ye 1) (yh))) [0] (yi 15 "which" ycX (ye 1) (yb (ye 0) (yh)))))) (yN)))))))))) (yQ (ye 3))))
def cyB:XS:=yfW 1 (yfa (yb (xOp (ybF) (ye 2) (xC (.int 0))) (yb (xOp (ybF) (ye 2) (xC (.int 1))) (yb (xOp (ybF) (ye 2) (xC (.int 2))) (yb (xFz (yea (yI) (yb (xOp (ybF) (ye 2) (xC (.int 3))) (yh)))) (yb (xFz (yea (yI) (yb (xOp (ybF) (ye 2) (xC (.int 4))) (yh)))) (yb (xFz (yea (yI) (yb (xOp (ybF) (ye 2) (xC (.int 5))) (yh)))) (yh))))))))
def ycU:Fn:=ybp 5 (yl (yid (ycl (yh)) 1) (yl (yjd (xIL (xOp (ybd) (ye 0) (xC (.int 2)))) (yq 2) (cyB)) (yl (ybu (xFz (yet (xIL (xOp (ybd) (ye 0) (xC (.int 4)))) [] (xFz (yea (yI) (yb (ye 0) (yh)))))) (yq 3)) (yl (ybu (xFz (yet (xIL (xOp (ybd) (ye 0) (xC (.int 5)))) [] (xFz (yea (yI) (yb (ye 0) (yh)))))) (yq 4)) (ytF 1 (yQ (xFz (ycl (yb (xFz (yea (yI) (yb (xOp (ybd) (ye 0) (xC (.int 0))) (yh)))) (yb (xFz (yea (yI) (yb (xOp (ybd) (ye 0) (xC (.int 1))) (yh)))) (yb (ye 1) (yb (xFz (yea (yI) (yb (xOp (ybd) (ye 0) (xC (.int 3))) (yh)))) (yb (ye 3) (yb (ye 4) (yb (xFz (yea (yI) (yb (xOp (ybd) (ye 0) (xC (.int 6))) (yh)))) (yh))))))))))))))))
def shB:XS:=yl (yW (xBM ydz (ydR) (yi 15 "slots" ydx (ye 0) (yb (ye 5) (yh))) (yb (xC (.int 88)) (yh)))) (yW (xBM ydz (ydR) (yi 15 "saw" yek (ye 0) (yb (ye 5) (yh))) (yb (yfa (yb (xC (.int 1)) (yb (xC (.int 1)) (yh)))) (yh))))
def spB:XS:=yl (yW (xBM ydz (ydR) (xOp (ybF) (ye 4) (xC (.int 3))) (yb (yfa (yb (xC (.int 0)) (yb (xC (.int 0)) (yh)))) (yh)))) (yl (yW (xBM ydz (ydR) (xOp (ybF) (ye 4) (xC (.int 4))) (yb (yfa (yb (xC (.int 0)) (yb (xC (.int 0)) (yh)))) (yh)))) (yW (xBM ydz (ydR) (xOp (ybF) (ye 4) (xC (.int 5))) (yb (xC (.int 77)) (yh)))))
def ycG:Fn:=ybp 6 (yl (yW (xBM ydz (ydR) (yi 15 "boxes" ydw (ye 0) (yh)) (yb (xC (.int 9)) (yh)))) (yl (ybu (yi 15 "stamps" yde (ye 0) (yh)) (yq 2)) (yl (yec (ye 2) (xC (.int 0)) (xC (.int 44))) (yl (ybu (yi 15 "journal" ycQ (ye 0) (yh)) (yq 3)) (yl (ygX false (ye 3) (yq 4) (spB)) (yl (yW (xBM ydz (ydR) (ye 3) (yb (xC (.int 5)) (yh)))) (yjd (yhz (yb (ye 1) (yh))) (yq 5) (shB))))))))
def agE:XE:=yi 15 "turn" yK (ye 1) (yb (ye 0) (yh))
def ybZ:Fn:=ybp 5 (yl (ybu (yfe 15 yZ (yb (ydl (yea (yI) (yb (ye 0) (yh)))) (yb (ydl (yet (xIL (ye 1)) [] (ydl (yea (yI) (yb (ye 0) (yh)))))) (yh)))) (yq 4)) (yQ (xOp (yCk) (xFz (ydB (ye 2) [4] (agE))) (ye 3))))
def ydg:Fn:=ybp 5 (yl (yW (xBM ydz (ydR) (xOp (ybd) (ye 1) (ye 3)) (yb (ye 4) (yh)))) (yW (xBM ydz (ydR) (xOp (ybd) (ye 2) (ye 3)) (yb (yi 15 "turn" yK (xOp (ybd) (ye 0) (ye 3)) (yb (ye 4) (yh))) (yh)))))
def heB:XS:=yby (yv (xOp (ynL) (ye 16) (ye 17))) (yQ (xC (.bl false))) (yN)
def tnB:XS:=yW (yT ydg (yb (ye 7) (yb (ye 8) (yb (ye 9) (yb (ye 13) (yb (xOp oMod (xOp oDiv (ye 12) (xOp yeG (xC (.int 70)) (xOp ynA (xC (.int 7)) (ye 15)))) (ye 3)) (yh)))))))
def lbD:XS:=yby (yv (xOp (oEq) (xOp oMod (xOp oDiv (ye 12) (xC (.int 300))) (xC (.int 3))) (xC (.int 0)))) (yW (yT ydg (yb (ye 7) (yb (ye 8) (yb (ye 9) (yb (xOp yoG (xC (.int 1)) (ye 13)) (yb (xOp oMod (xOp oDiv (ye 12) (xC (.int 900))) (ye 3)) (yh)))))))) (yN)
def yvx:Fn:=ybp 18 (yl (ybu (xOp yeG (xC (.int 1)) (xOp oMod (yT ybl (yb (ye 0) (yb (xC (.int 0)) (yh)))) (xC (.int 4)))) (yq 1)) (yl (ybu (xFz (yet (yhz (yb (ye 1) (yh))) [0] (yT ybA (yb (xOp yeG (yT ybl (yb (ye 1) (yb (xC (.int 1)) (yh)))) (xOp ynA (xOp ynA (xC (.int 31)) (ye 0)) (ye 0))) (yh))))) (yq 2)) (yl (ybu (xOp yeG (xC (.int 2)) (xOp oMod (xOp oDiv (yT ybl (yb (ye 0) (yb (xC (.int 1)) (yh)))) (xC (.int 3))) (xC (.int 2)))) (yq 3)) (yl (ybu (xFz (yqt ytI (ye 0) (yfU (xC (.int 2))) (yfU (xC (.int 22))))) (yq 4)) (yl (ybu (xFz (yet (yhz (yb (ye 3) (yh))) [4,3] (yT ycZ (yb (xFz (yqt yzp (ye 1) (yfU (ye 0)) (yfU (ye 2)))) (yh))))) (yq 5)) (yl (ybu (ydl (ycl (yb (ydl (yea (yI) (yb (ye 2) (yh)))) (yb (ydl (yet (xIL (ye 5)) [] (ydl (yea (yI) (yb (ye 0) (yh)))))) (yh))))) (yq 6)) (yl (ybu (xFz (ycl (yb (yfe 15 yZ (yb (xOp (ybd) (ye 6) (xC (.int 0))) (yb (xOp (ybd) (ye 6) (xC (.int 1))) (yh)))) (yb (yfe 15 yZ (yb (xOp (ybd) (ye 6) (xC (.int 0))) (yb (xOp (ybd) (ye 6) (xC (.int 1))) (yh)))) (yh))))) (yq 7)) (yl (yby (yv (xOp (ynL) (ye 6) (xFz (ycl (yb (ye 2) (yb (ye 5) (yh))))))) (yQ (xC (.bl false))) (yN)) (yl (yec (xOp (ybd) (ye 6) (xC (.int 0))) (xC (.int 0)) (xC (.int 5))) (yl (yW (xBM ydz (ydR) (xOp (ybd) (xOp (ybd) (ye 6) (xC (.int 1))) (xC (.int 0))) (yb (xC (.str "let a 1")) (yh)))) (yl (ybu (ydl (ycl (yb (ydl (ycl (yh))) (yb (ydl (ycl (yh))) (yh))))) (yq 8)) (yl (ybu (ydl (ycl (yb (ydl (ycl (yh))) (yb (ydl (ycl (yh))) (yh))))) (yq 9)) (yl (yid (ycl (yh)) 10) (yl (yjd (xIL (xFz (ypL ymS (xFz (yqt ytI (ye 0) (yfV) (yfU (xC (.int 66))))) (xFz (ycl (yb (xC (.int 4)) (yb (xC (.int 9)) (yb (xC (.int 25)) (yh))))))))) (yq 11) (yl (ybu (xOp oMod (xOp ynA (ye 11) (xC (.int 16807))) (xC (.int 2147483587))) (yq 12)) (yl (ybu (xOp oMod (ye 12) (xC (.int 2))) (yq 13)) (yl (ybu (yT ydO (yb (xOp (ybd) (ye 7) (xOp yoG (xC (.int 1)) (ye 13))) (yb (ye 3) (yb (xOp oMod (xOp oDiv (ye 12) (xC (.int 2))) (xC (.int 7))) (yh))))) (yq 14)) (yl (yfW 10 (yfa (yb (ye 14) (yb (yT ycU (yb (ye 14) (yh))) (yh))))) (yl (yjd (yhz (yb (xOp yeG (xC (.int 1)) (xOp oMod (xOp oDiv (ye 12) (xC (.int 14))) (xC (.int 5)))) (yh))) (yq 15) (tnB)) (yl (yW (yT ycG (yb (xOp (ybd) (ye 7) (ye 13)) (yb (ye 3) (yh))))) (yl (yby (yv (xOp (ynL) (yT ydO (yb (xOp (ybd) (ye 7) (xOp yoG (xC (.int 1)) (ye 13))) (yb (ye 3) (yb (xOp oMod (xOp oDiv (ye 12) (xC (.int 98))) (xC (.int 7))) (yh))))) (ye 14))) (yQ (xC (.bl false))) (yN)) (lbD))))))))) (ytF 10 (yl (yjd (xIL (ye 10)) (yBw 2 (ypP (yq 16) (ypP (yq 17) (yDQ)))) (heB)) (yQ (yjh (yT ybZ (yb (ye 2) (yb (ye 5) (yb (xOp (ybd) (ye 8) (xC (.int 0))) (yb (xOp (ybd) (ye 9) (xC (.int 0))) (yh)))))) (yT ybZ (yb (ye 2) (yb (ye 5) (yb (xOp (ybd) (ye 8) (xC (.int 1))) (yb (xOp (ybd) (ye 9) (xC (.int 1))) (yh))))))))))))))))))))))))
noncomputable abbrev tI (n:Int):Str:=Str.ofString (toString n)
noncomputable abbrev B64:Int:=18446744073709551616
theorem yxi:("":Str).length=0:=by rfl'
theorem yC (a b:Str):(a++b).length=a.length+b.length:=by show (a.cps++b.cps).size=_;simp [Str.length]
theorem ymn (a b c:Str):a++b++c=a++(b++c):=by
 show (⟨a.cps++b.cps++c.cps⟩:Str)=⟨a.cps++(b.cps++c.cps)⟩
 rw [Array.append_assoc]
theorem ypj a {b:Int}(h:0<b):0<=a%b/\a%b<b:=⟨Int.emod_nonneg a (by omega),Int.emod_lt_of_pos a h⟩
theorem ysr:B64<10 ^ 20:=by decide
theorem yvy sep x r (h:1<=x.length):1<=(Str.join sep (x::r)).length:=by
 cases r with
 | nil=>exact h
 | cons y r =>
  show 1<=(x++sep++Str.join sep _).length;rw [yC,yC];omega
noncomputable def yss (m:Nat):List Nat:=(Nat.toDigits 10 m).map Char.toNat
theorem yCG:∀ d,d<10->(Nat.digitChar d).toNat=48+d:=by
 intro d h;have:d=0\/d=1\/d=2\/d=3\/d=4\/d=5\/d=6\/d=7\/d=8\/d=9:=by omega
 rcases this with rfl|rfl|rfl|rfl|rfl|rfl|rfl|rfl|rfl|rfl
 all_goals decide
theorem yvz cs (c:Nat):yya (cs++[c])=yya cs*10+(c-48):=by unfold yya;simp_all
theorem yst:∀ m:Nat,yss m≠[]/\(∀ c∈yss m,48<=c/\c<=57)/\yya (yss m)=m/\(m≠0->(yss m)[0]?≠some 48):=by
 intro m
 induction m using Nat.strongRecOn with
 | ind m ih =>
  unfold yss at *
  by_cases h:m<10
  .rw [Nat.toDigits_of_lt_base h,List.map_singleton,yCG m h];refine ⟨by simp,fun c d=>?_,?_,fun i e=>?_⟩
   .rw [List.mem_singleton.mp d];omega
   .show (0:Int)*10+(((48+m:Nat):Int)-48)=m;omega
   .have:48+m=48:=by simpa using e
    omega
  .rw [Nat.toDigits_of_base_le (by decide) (by omega),map_append,List.map_singleton,yCG (m%10) (by omega)];obtain ⟨h1,h2,f,g⟩:=ih (m/10) (by omega);refine ⟨by simp,fun c d=>?_,?_,fun _ e=>?_⟩
   .rcases List.mem_append.mp d with d|d
    .exact h2 c d
    .rw [List.mem_singleton.mp d];omega
   .rw [yvz,f];omega
   .refine g (by omega) ?_;generalize (Nat.toDigits 10 (m/10)).map Char.toNat=l at *;cases l with
    | nil=>exact absurd rfl h1
    | cons a l=>simpa using e
theorem ysu {n:Int}(h:0<=n):(Str.ofString (toString n)).cps.toList=yss n.toNat:=by
 obtain ⟨m,rfl⟩:∃ m:Nat,n=m:=⟨n.toNat,by omega⟩
 rw [Str.ofString_eq_toList];show (toString m).toList.map Char.toNat=_;rw [show toString m=m.repr from rfl,Nat.toList_repr];rfl
theorem yfz:∀ {a b:List Str},a≠[]->b≠[]->Str.join sep (a++b)=Str.join sep a++sep++Str.join sep b
 | [],_,h,_=>absurd rfl h
 | [x],[],_,h=>absurd rfl h
 | [x],y::b,_,_=>rfl
 | x::y::a,b,_,d=>by have e:=yfz (sep:=sep) (a:=y::a) (fun z=>by cases z) d;show x++sep++Str.join sep (y::a++b)=x++sep++Str.join sep _++sep++Str.join sep b;rw [e];simp only [ymn]
theorem ysv (h:b≠[]):Str.join sep (x::b)=x++sep++Str.join sep b:=yfz (a:=[x]) (fun z=>by cases z) h
theorem yCH:(" ; ":Str) = " "++";"++" ":=by rfl'
noncomputable def fr (w:Str):Prop:=32∉w.cps.toList/\w.length≠0/\w.length<=20
theorem yxj (h:0<=n) (h2:n<B64):fr (toString n):=by
 have e:=ysu h;obtain ⟨b,c,_⟩:=yst n.toNat;refine ⟨fun z=>?_,fun z=>b ?_,str_len h (by decide) (Int.lt_trans h2 ysr)⟩
 .rw [e] at z;have:=c _ z;omega
 .rw [<- e];have:(Str.ofString _).cps.size=0:=z;simp_all
theorem yjf s (h:decide (32∉s.cps.toList/\s.length≠0/\s.length<=20)=true):fr s:=show 32∉s.cps.toList/\s.length≠0/\s.length<=20 from of_decide_eq_true h
def frs (l:List Str):Prop:=∀ w∈l,fr w
theorem yfj (h:frs a) (k:frs b):frs (a++b):=fun x d=>(List.mem_append.mp d).elim (h x) (k x)
theorem yzr (h:frs l) (hl:l≠[]):Str.join sep l≠"":=by
 cases l with
 | nil=>exact absurd rfl hl
 | cons x r =>
  intro e;have h1:=(h x mem_cons_self).2.1;have:=yvy sep x r;rw [e,yxi] at this;omega
theorem yhS sep (hs:sep.length<=3):∀ l,frs l->(Str.join sep l).length<=23*l.length
 | [],_=>by show ("":Str).length<=_;rw [yxi];omega
 | [x],f=>by have:=(f x mem_cons_self).2.2;show x.length<=23*1;omega
 | x::y::r,f=>by
  have h1:=(f x mem_cons_self).2.2;have h2:=yhS sep hs _ fun w b=>f w (mem_cons_of_mem _ b)
  show (x++sep++Str.join sep _).length<=23*((y::r).length+1);rw [yC,yC];omega
theorem ymo:(("throw":Str) = "take")=False:=eq_false (by rfl')
theorem yho:(("throw":Str) = "wait")=False:=eq_false (by rfl')
theorem ynS:(("wait":Str) = "take")=False:=eq_false (by rfl')
section
variable {h:AH}
theorem ynT (e:ye i ρ h=some (.lst xs,h)):xIL (ye i) ρ h=some (xs,h):=yCe e
theorem yFE (e:ye i ρ h=some (.str z,h)) (hl:z.length<=100000):xIS (ye i) ρ h=some (z.cps.toList.map sgn,h):=by unfold xIS;rw [e];exact if_pos hl
theorem yqb {x y:Str}(hl:x.length<=1000):ydC [.str x,.str y] h=some (.bl (x.cps.toList.all fun c=>decide (c∈y.cps.toList)),h):=by unfold ydC;rw [yo];have hz:x.cps.toList.length=x.length:=rfl;symm;rw [yFE rfl (by omega),ybE];rw [if_pos (by grind)];rw [ygb (f:=sgn) (g:=fun c=>.bl _) fun c _=>rfl];symm;unfold yyF ybr;rw [show (x.cps.toList.map _)=(x.cps.toList.map _).map PV.bl by rw [map_map];rfl];simp only [ylU,List.all_map];rfl
theorem yvA (h1:48<=c) (h2:c<=57):c∈("0123456789":Str).cps.toList:=by rw [show ("0123456789":Str).cps.toList=(List.range 10).map (· + 48) by rfl'];exact List.mem_map.mpr ⟨c-48,List.mem_range.mpr (by omega),by omega⟩
theorem ymp (g:0<=n) (h1:n<B64):yeO [.str (toString n:String)] h=some (.int n,h):=by
 obtain ⟨d1,d2,d3,r⟩:=yst n.toNat;have hl:=str_len g (k:=20) (by decide) (Int.lt_trans h1 ysr);have t:(Str.ofString (toString n)).length≠0:=(yxj g h1).2.1;have e:=ysu g;have hz:n=0->Str.ofString (toString n) = "0":=fun z=>by subst z;rfl'
 have i:atI (Str.ofString (toString n)).cps.toList 0=some ((yss n.toNat).headD 0):=by
  rw [e];cases q:yss n.toNat with
  | nil=>exact absurd q d1
  | cons a l=>exact yGH
 have p:(yss n.toNat).headD 0=48->n=0:=fun q=>Classical.byContradiction fun z=>r (by omega) (by
  cases f:yss n.toNat with
  | nil=>exact absurd f d1
  | cons a l=>rw [f] at q;simpa using q)
 generalize hs:Str.ofString (toString n)=z at *;unfold yeO;rw [yo];show ob (yl _ _ [.val (.str z),.no] h) fnK=_;have o:=List.all_eq_true.mpr fun c j=>decide_eq_true (yvA (d2 c (e ▸ j)).1 (d2 c (e ▸ j)).2)
 symm;rw [if_pos (by omega:z.length<=100000)];simp only [show (1:Int)<=z.length by omega,show (z.length:Int)<=20 by omega];symm;rw [yqb (by omega),o];symm;rw [i];symm;have m:∀ h:AH,yrC [.str z] h=some (.int n,h):=fun h=>by unfold yrC;show (if _ then _ else _)=_;rw [if_pos ⟨by rw [e];exact d1,by rw [e];exact d2,by omega⟩,e,d3,Int.toNat_of_nonneg g]
 rw [if_neg (not_not_intro trivial),if_pos (by omega)];simp only [sgn,m];symm;rw [if_pos h1];split
 .rename_i q;have q:(yss n.toNat).headD 0=48:=by have f:=congrArg (fun s:Str=>s.cps.toList) q;rw [show ("0":Str).cps.toList=[48] by rfl'] at f;simpa using f
  rw [if_neg (not_not_intro (hz (p q)))]
 .rfl
theorem yCI {sep:Str}(e:strsOf xs=some ts) (hs:sep.length<=16) (hl:(ts.map (·.length)).sum+ts.length<=1048576):ynD (.str sep) [.lst xs] h=some (.str (Str.join sep ts),h):=by unfold ynD ybr;simp only [e];exact if_pos ⟨hs,hl⟩
end
theorem ykB:(("times":Str) = "plus")=False:=eq_false (by rfl')
theorem yjn:(("times":Str) = "minus")=False:=eq_false (by rfl')
theorem ymq:(("less":Str) = "plus")=False:=eq_false (by rfl')
theorem ykC:(("less":Str) = "minus")=False:=eq_false (by rfl')
theorem ykD:(("less":Str) = "times")=False:=eq_false (by rfl')
theorem ykE:(("times":Str) = "less")=False:=eq_false (by rfl')
theorem ymr:(("same":Str) = "plus")=False:=eq_false (by rfl')
theorem ykF:(("same":Str) = "minus")=False:=eq_false (by rfl')
theorem ykG:(("same":Str) = "times")=False:=eq_false (by rfl')
theorem yms:(("same":Str) = "less")=False:=eq_false (by rfl')
section
variable {h:AH}
noncomputable def Stk (h:AH):List Nat->List (List Key×List PV)->Prop
 | [],[]=>True
 | l::ls,d::ds=>h[l]?=some (.dct d.1 d.2)/\Stk h ls ds
 | _,_=>False
theorem Stk.get {h:AH}:∀ {ls:List Nat}{ds:List (List Key×List PV)}(k:Nat),Stk h ls ds->k<ls.length->∃ l d,ls[k]?=some l/\ds[k]?=some d/\h[l]?=some (.dct d.1 d.2)
 | l::ls,d::ds,0,s,_=>⟨l,d,rfl,rfl,s.1⟩
 | l::ls,d::ds,k+1,s,hk=>by obtain ⟨l',d',e1,e2,e3⟩:=Stk.get k s.2 (by simpa using hk);exact ⟨l',d',by simpa using e1,by simpa using e2,e3⟩
 | [],[],_,_,hk=>by simp at hk
 | [],_::_,_,s,_=>s.elim
 | _::_,[],_,s,_=>s.elim
def yxk (ds:List (List Key×List PV)) (j:Key):Nat->PV
 | 0=>.non
 | k+1=>match ds[k]? with|some d=>(match ykp d.1 d.2 j with|some x=>x|none=>yxk ds j k)|none=>.non
structure LG (h:AH) (o s b:Nat) (ls:List Nat) (ds:List (List Key×List PV)) (ks:List Key) (xs:List PV):Prop where
 ob:h[o]?=some (.ins 11 ["stack","last_seen"] [.loc s,.loc b])
 st:h[s]?=some (.lst (ls.map .loc))
 sn:h[b]?=some (.dct ks xs)
 dl:Stk h ls ds
theorem ygf (e:h[o]?=some (.ins 11 ["stack","last_seen"] [.loc s,.loc b])):yfb [11] "stack" (.loc o) h=some (.loc s,h):=by unfold yfb ygT;simp only [e];rfl
theorem ysw (e:h[o]?=some (.ins 11 ["stack","last_seen"] [.loc s,.loc b])):yfb [11] "last_seen" (.loc o) h=some (.loc b,h):=by unfold yfb ygT;simp only [e];rfl
theorem ysx (e:h[n]?=some (.lst ((l++[t]).map PV.loc))):ybd (.loc n) (.int (-1)) h=some (.loc t,h):=by
 unfold ybd;simp only [e];have:atI ((l++[t]).map PV.loc) (-1)=some (.loc t):=by unfold atI ixN;simp;rw [if_pos (by omega),show (-1+((l.length:Int)+1)).toNat=l.length by omega];simp
 rw [this]
theorem yzs (c:ek ρ h=some (.int i,h)) (b:ed ρ h=some (.loc n,h)) (e:h[n]?=some (.dct ks xs)):yAB false ek ed ρ h=some (.bl (ykp ks xs (.inl i)).isSome,h):=by unfold yAB;rw [c,ybE,b,ybE];unfold yyS;simp only [e,keyOf];rfl
theorem yvB (b:ed ρ h=some (.loc n,h)) (c:ek ρ h=some (.int i,h)) (e:h[n]?=some (.dct ks xs)) (d:ykp ks xs (.inl i)=some x):yii ed ek ρ h=some (x,h):=by unfold yii;rw [b,ybE,c,ybE];unfold yyS;simp only [e,keyOf,d]
theorem ykH (b:ev ρ h=some (x,h)) (c:ed ρ h=some (.loc n,h)) (d:ek ρ h=some (.int i,h)) (e:h[n]?=some (.dct ks xs)) (hl:ks.length<1000) :
  yks ed ek ev ρ h=some (.nx ρ,h.set n (.dct (ydA ks xs (.inl i) x).1 (ydA ks xs (.inl i) x).2)):=by
 unfold yks;rw [b,ybE,c,ybE,d,ybE];simp only [e,keyOf];rw [if_pos hl]
end
section
variable {h:AH}{o s b:Nat}{ls:List Nat}{ds:List (List Key×List PV)}{ks:List Key}{xs:List PV}
theorem yvC (g:LG h o s b ls ds ks xs):∀ k,k<=ls.length->∀ c,
  ob (yjl s true (yq 2) (yby (yv (yAB false (ye 1) (ye 2))) (yQ (yii (ye 2) (ye 1))) yN) k (ls.length-k) [.val (.loc o),.val (.int i),c] h) (fun o h1=>ob (sqK (yQ (xC .non)) o h1) fnK)=some (yxk ds (.inl i) k,h):=by
 intro k
 induction k with
 | zero =>
  intro _ c;unfold yjl;simp only [g.st];rw [if_pos (by simp),ybE];rfl
 | succ k ih =>
  intro n c;unfold yjl;simp only [g.st];obtain ⟨l,d,p,f,a⟩:=g.dl.get k (by omega);have j:(ls.map PV.loc)[k]?=some (.loc l):=by simp_all
  simp only [if_true,j];have e:yq 2 (.loc l) [.val (.loc o),.val (.int i),c]=some _:=rfl;rw [e,bind_some,yyL,ywR,yzs rfl rfl a,ybE,yGF,ybE];have ek:ls.length-(k+1)+1=ls.length-k:=by omega
  unfold yxk;simp only [f];cases m:ykp d.1 d.2 _ with
  | none =>
   rw [ek];exact ih (by omega) _
  | some x =>
   rw [if_pos (show (some x).isSome=true from rfl),ykl,yvB rfl rfl a m,ybE];rfl
theorem yCJ (g:LG h o s b ls ds ks xs):yev [.loc o,.int i] h=some (yxk ds (.inl i) ls.length,h):=by unfold yev;rw [yo];show ob (yl _ _ [.val _,.val _,.no] h) fnK=_;rw [yeb];have:=yvC (i:=i) g ls.length (Nat.le_refl _) .no;rw [sub_self] at this;rw [yBM,<- this];unfold ygX;rw [ykm,show ye 0 _ h=some _ from rfl,ybE,ygf g.ob,ybE];simp only [g.st,length_map]
theorem yvD {d:List Key×List PV}(g:LG h o s b (ls++[t]) ds ks xs) (a:h[t]?=some (.dct d.1 d.2)) (hl:d.1.length<1000):yeK [.loc o,.int i,v] h=some (.non,h.set t (.dct (ydA d.1 d.2 (.inl i) v).1 (ydA d.1 d.2 (.inl i) v).2)):=by unfold yeK;rw [yo,yeb,ypS,yDU,ykm,show ye 0 _ h=some _ from rfl,ybE,ygf g.ob];show ob (ob (ob (ybd (.loc s) (.int _) h) _) _) _=_;rw [ysx g.st];show ob (yks (ye 3) (ye 1) (ye 2) [.val _,.val (.int i),.val v,.val (.loc t)] h) fnK=_;rw [ykH rfl rfl rfl a hl];rfl
theorem yvE (g:LG h o s b ls ds ks xs) (hl:ls.length<1000):yeL [.loc o] h=some (.non,(h++[Nd.dct [] []]).set s (.lst ((ls++[h.length]).map .loc))):=by
 have hs:(h++[Nd.dct [] []])[s]?=some (.lst (ls.map .loc)):=by rw [getElem?_append_left (List.getElem?_eq_some_iff.mp g.st).1];exact g.st
 unfold yeL;rw [yo,yrF,yDV,ykm,show ye 0 _ h=some _ from rfl,ybE,ygf g.ob,ybE,if_pos (ycc g.st)];show ob (ob (ydR (.loc s) [.loc h.length] (h++[Nd.dct [] []])) _) fnK=_;rw [yeH hs (by rw [length_map];omega),map_append];rfl
theorem ysy (e:h[n]?=some (.lst ((l++[t]).map PV.loc))):yhA (.loc n) [] h=some (.loc t,h.set n (.lst (l.map .loc))):=by
 unfold yhA;simp only [e];have:((l++[t]).map PV.loc)[((l++[t]).map PV.loc).length-1]?=some (.loc t):=by simp
 rw [this];simp
theorem yzt (g:LG h o s b (ls++[t]) ds ks xs):yfx [.loc o] h=some (.non,h.set s (.lst (ls.map .loc))):=by unfold yfx;rw [yo,yrF,yDV,ykm,show ye 0 _ h=some _ from rfl,ybE,ygf g.ob,ybE,if_pos (ycc g.st),yuO,ybE,ysy g.st,ybE];rfl
end
section
variable {h:AH}{o s b:Nat}{ls:List Nat}{ds:List (List Key×List PV)}{ks:List Key}{xs:List PV}
theorem ysz {c a:List Key×List PV}(g:LG h o s b (ls++[u]++[t]) ds ks xs) (n:o≠s) (e:u≠s) (f:t≠s) (d:u≠t) (p:h[u]?=some (.dct a.1 a.2)) (i:h[t]?=some (.dct c.1 c.2)) (hl:a.1.length+c.1.length<1000) :
  yeg [.loc o] h=some (.non,(h.set s (.lst ((ls++[u]).map .loc))).set u (.dct (yje c.1 c.2 a.1 a.2).1 (yje c.1 c.2 a.1 a.2).2)):=by
 have hs:=(List.getElem?_eq_some_iff.mp g.st).1;have j:(h.set s _)[s]?=some (.lst ((ls++[u]).map PV.loc)):=getElem?_set_self hs;have m:(h.set s (.lst ((ls++[u]).map PV.loc)))[o]?=some _:=(getElem?_set_ne (Ne.symm n)).trans g.ob;have l:(h.set s (.lst ((ls++[u]).map PV.loc)))[u]?=some _:=(getElem?_set_ne (Ne.symm e)).trans p;have k:(h.set s (.lst ((ls++[u]).map PV.loc)))[t]?=some _:=(getElem?_set_ne (Ne.symm f)).trans i;unfold yeg;rw [yo,yeb,ypS,yDV,ykm,show ye 0 _ h=some _ from rfl,ybE,ygf g.ob,ybE,if_pos (ycc g.st),yuO,ybE,ysy g.st,ybE];generalize q:h.set s _=h1 at *;show ob (yl _ _ _ h1) fnK=_;rw [yeb,ypS,yDU,ykm,show ye 0 _ h1=some _ from rfl,ybE,ygf m];show ob (ob (ob (ybd (.loc s) (.int _) h1) _) _) _=_;rw [ysx j,ybE];show ob (yW _ _ h1) fnK=_;show ob (ob (if yrS _ h1=true then yCn (.loc u) [.loc t] h1 else none) _) fnK=_;rw [if_pos (by unfold yrS ylX;simp_all)];unfold yCn;simp only [l,k];rw [if_pos ⟨d,hl⟩,ybE];rfl
end
noncomputable def At (h:AH) (m:List (Nat×Nd)):Prop:=(m.map (·.1)).Nodup/\∀ p∈m,h[p.1]?=some p.2
section
variable {h:AH}{m a b:List (Nat×Nd)}
theorem At.get (A:At h m) (i:Nat) (e:m[i]?=some (n,d)):h[n]?=some d:=A.2 _ (mem_of_getElem? e)
theorem At.lt (A:At h m) (hp:p∈m):p.1<h.length:=(List.getElem?_eq_some_iff.mp (A.2 p hp)).1
theorem At.upd d' (A:At h (a++(n,d)::b)):At (h.set n d') (a++(n,d')::b):=by
 have e:=A.lt (p:=(n,d)) (by simp);refine ⟨by have:=A.1;simpa using this,fun p hp=>?_⟩
 by_cases q:p.1=n
 .have:p=(n,d'):=by
   have c:=A.1;rw [map_append,List.nodup_append] at c;rcases List.mem_append.mp hp with z|z
   .exact absurd q (c.2.2 _ (List.mem_map_of_mem z) _ mem_cons_self)
   .rcases mem_cons.mp z with z|z
    .exact z
    .exact absurd (show n∈b.map _ by rw [<- q];exact List.mem_map_of_mem z) (List.nodup_cons.mp c.2.1).1
  rw [this,getElem?_set_self e]
 .rw [getElem?_set_ne fun z=>q z.symm];refine A.2 p ?_;rcases List.mem_append.mp hp with z|z
  .exact mem_append_left _ z
  .rcases mem_cons.mp z with z|z
   .exact absurd (by rw [z]) q
   .exact mem_append_right _ (mem_cons_of_mem _ z)
theorem At.new d (A:At h (a++b)):At (h++[d]) (a++(h.length,d)::b):=by
 have lt:∀ p∈a++b,p.1<h.length:=fun p hp=>A.lt hp
 refine ⟨?_,fun p hp=>?_⟩
 .have c:=A.1;rw [map_append,List.nodup_append] at c;rw [map_append,List.nodup_append];refine ⟨c.1,List.nodup_cons.mpr ⟨fun z=>?_,c.2.1⟩,fun x g y f=>?_⟩
  .obtain ⟨p,hp,e⟩:=List.mem_map.mp z;grind
  .rcases mem_cons.mp f with rfl|f
   .obtain ⟨p,hp,e⟩:=List.mem_map.mp g;grind
   .exact c.2.2 x g y f
 .rcases List.mem_append.mp hp with z|z
  .rw [getElem?_append_left (lt p (mem_append_left _ z))];exact A.2 p (mem_append_left _ z)
  .rcases mem_cons.mp z with z|z
   .rw [z];simp
   .rw [getElem?_append_left (lt p (mem_append_right _ z))];exact A.2 p (mem_append_right _ z)
theorem At.sub {m':List _}(A:At h m) (s:m'.Sublist m):At h m':=⟨(s.map _).nodup A.1,fun p hp=>A.2 p (s.subset hp)⟩
theorem At.junk (d:Nd) (A:At h m):At (h++[d]) m:=⟨A.1,fun p hp=>by rw [getElem?_append_left (A.lt hp)];exact A.2 p hp⟩
theorem At.perm {m':List _}(A:At h m) (s:m'.Perm m):At h m':=⟨(s.map _).nodup_iff.mpr A.1,fun p hp=>A.2 p (s.subset hp)⟩
theorem fl i {cs:List Nat}{f:Str}{y:PV}(e:h[n]?=some (.ins k ns xs)) (d:k∈cs) (c:(decide (f∈ns) && ns.idxOf f == i)=true) (g:xs[i]?=some y):yfb cs f (.loc n) h=some (y,h):=by obtain ⟨h1,h2⟩:=Bool.and_eq_true_iff.mp c;unfold yfb ygT;simp_all
noncomputable def ynU (nu ma cr en:Nat):Nd:=.ins 15 ["numbers","marks","crew","entries"] [.loc nu,.loc ma,.loc cr,.loc en]
def ydU (ds:List PV) (w nth:Int) (sl:Bool) (bf:List Int) (rn:Nat):Nd:=.ins 14 ["deeds","width","nth","sleeps","before","run"] [.lst ds,.int w,.int nth,.bl sl,.lst (bf.map .int),.loc rn]
noncomputable def ykI (hl:Nat) (w:Int) (lg:Nat) (rows:List PV) (t:Int) (sn sd:Nat):Nd:=.ins 12 ["held","width","log","rows","at","seen_stamps","sides"] [.loc hl,.int w,.loc lg,.lst rows,.int t,.loc sn,.loc sd]
theorem ydi (e:h[n]?=some (ynU nu ma c en)):yfb [15] "numbers" (.loc n) h=some (.loc nu,h)/\yfb [15] "marks" (.loc n) h=some (.loc ma,h)/\yfb [15] "crew" (.loc n) h=some (.loc c,h)/\yfb [15] "entries" (.loc n) h=some (.loc en,h) :=
 ⟨fl 0 e (by decide) (rfl) rfl,fl 1 e (by decide) (rfl) rfl,fl 2 e (by decide) (rfl) rfl,fl 3 e (by decide) (rfl) rfl⟩
theorem ydj {sl:Bool}(e:h[n]?=some (ydU ds w nth sl bf c)):yfb [14] "deeds" (.loc n) h=some (.lst ds,h)/\yfb [12,14] "width" (.loc n) h=some (.int w,h)/\yfb [14] "nth" (.loc n) h=some (.int nth,h)/\yfb [14] "sleeps" (.loc n) h=some (.bl sl,h)/\yfb [14] "before" (.loc n) h=some (.lst (bf.map .int),h)/\yfb [14] "run" (.loc n) h=some (.loc c,h) :=
 ⟨fl 0 e (by decide) (rfl) rfl,fl 1 e (by decide) (rfl) rfl,fl 2 e (by decide) (rfl) rfl,fl 3 e (by decide) (rfl) rfl,fl 4 e (by decide) (rfl) rfl,fl 5 e (by decide) (rfl) rfl⟩
theorem ycV {sn sd:Nat}(e:h[n]?=some (ykI hl w c rows t sn sd)):yfb [12] "held" (.loc n) h=some (.loc hl,h)/\yfb [12,14] "width" (.loc n) h=some (.int w,h)/\yfb [12] "log" (.loc n) h=some (.loc c,h)/\yfb [12] "rows" (.loc n) h=some (.lst rows,h)/\yfb [10,12] "at" (.loc n) h=some (.int t,h)/\yfb [12] "seen_stamps" (.loc n) h=some (.loc sn,h)/\yfb [12] "sides" (.loc n) h=some (.loc sd,h) :=
 ⟨fl 0 e (by decide) (rfl) rfl,fl 1 e (by decide) (rfl) rfl,fl 2 e (by decide) (rfl) rfl,fl 3 e (by decide) (rfl) rfl,fl 4 e (by decide) (rfl) rfl,fl 5 e (by decide) (rfl) rfl,fl 6 e (by decide) (rfl) rfl⟩
end
def mK (k:Nat) (m:Str) (f:Fn) (as:XA) (ρ:PSt) (x:PV) (h1:AH):Option (PV×AH):=match ygT x h1 with
 | some (k',ns,_)=>if k'=k/\m∉ns then ob (as ρ h1) fun ys h2=>f (x::ys) h2 else none
 | none=>none
def fL (cs:List Nat) (f:Str) (ρ:PSt) (y x:PV) (h2:AH):Option (Out×AH):=match x with
 | .loc n=>(match h2[n]? with|some (.ins k ns xs)=>if k∈cs/\ns.length<1000 then some (.nx ρ,h2.set n (.ins k (putN f y ns xs).1 (putN f y ns xs).2)) else none|_=>none)
 | _=>none
section
variable {h:AH}{ρ:PSt}
theorem ycu:yi k m f e b ρ h=ob (e ρ h) fun x h1=>mK k m f b ρ x h1:=id rfl
theorem yqw:ydm cs f eo ev ρ h=ob (ev ρ h) fun y h1=>ob (eo ρ h1) fun x h2=>fL cs f ρ y x h2:=id rfl
theorem yG (e:h[n]?=some (.ins k ns xs)) (c:decide (m∈ns)=false):mK k m f b ρ (.loc n) h=ob (b ρ h) fun ys h2=>f (.loc n::ys) h2:=by unfold mK ygT;simp_all
theorem yfk (e:h[n]?=some (.ins k ns xs)) (b:(decide (k∈cs) && decide (ns.length<1000))=true) (hp:putN f y ns xs=(ns',xs')):fL cs f ρ y (.loc n) h=some (.nx ρ,h.set n (.ins k ns' xs')):=by obtain ⟨h1,h2⟩:=Bool.and_eq_true_iff.mp b;unfold fL;simp only [e];rw [if_pos ⟨of_decide_eq_true h1,of_decide_eq_true h2⟩,hp]
end
noncomputable def W5:List Str:=["plus","minus","times","less","same"]
theorem yxl (h:w∈W5):w = "plus"\/w = "minus"\/w = "times"\/w = "less"\/w = "same":=by simpa [W5] using h
inductive Rw where
 | let_ (r:Str) (n:Int)|take (r p:Str)|put (p s:Str)|throw (nm r:Str)|wait|either (k:Int)|guard (nm r:Str) (k:Int)|settle|reckon (w r s t:Str)|jump (k:Int)|unl (s:Str) (k:Int)|lay
noncomputable def yba:Rw->PV
 | .let_ r n=>.tup [.str "let",.str r,.int n]
 | .take r p=>.tup [.str "take",.str r,.str p]
 | .put p s=>.tup [.str "put",.str p,.str s]
 | .throw nm r=>.tup [.str "throw",.str nm,.str r]
 | .wait=>.tup [.str "wait"]
 | .either k=>.tup [.str "either",.int k]
 | .guard nm r k=>.tup [.str "guard",.str nm,.str r,.int k]
 | .settle=>.tup [.str "settle"]
 | .jump k=>.tup [.str "jump",.int k]
 | .unl s k=>.tup [.str "unless",.str s,.int k]
 | .reckon w r s t=>.tup [.str w,.str r,.str s,.str t]
 | .lay=>.tup [.str "lay"]
noncomputable def rdr (ws:List Str) (k:Nat):Nd:=.ins 10 ["words","at"] [.lst (ws.map .str),.int k]
def hR (h:AH) (o:Nat) (ws:List Str) (k:Nat):AH:=h.set o (rdr ws k)
noncomputable def hdV:List Str->PV
 | []=>.non
 | w::_=>.str w
def Tk (m:Str) (f:Fn) (xs:List PV) (v:PV) (w:List Str):Prop:=∀ ⦃h:AH⦄ ⦃o:Nat⦄ ⦃ws:List Str⦄ ⦃k:Nat⦄ ⦃r:List Str⦄ ⦃as:XA⦄ ⦃ρ:PSt⦄,o<h.length/\ws.length<=100000->ws.drop k=w++r->as ρ (hR h o ws k)=some (xs,hR h o ws k)->mK 10 m f as ρ (.loc o) (hR h o ws k)=some (v,hR h o ws (k+w.length))
section
variable {h:AH}{o:Nat}{ws:List Str}{k:Nat}{w m:Str}{r:List Str}{f:Fn}{xs:List PV}{v:PV}{ρ:PSt}
theorem yqc (b:o<h.length):(hR h o ws k)[o]?=some (rdr ws k):=getElem?_set_self b
theorem Tk.mk {w:List Str}(c:decide (m∈(["words","at"]:List Str))=false) (H:∀ {h:AH}{o:Nat}{ws:List Str}{k:Nat}{r:List Str},o<h.length/\ws.length<=100000->ws.drop k=w++r->f (.loc o::xs) (hR h o ws k)=some (v,hR h o ws (k+w.length))):Tk m f xs v w:=fun _ _ _ _ _ _ _ G e b=>by rw [yG (yqc G.1) c,b,ybE,H G e]
theorem ypk (b:o<h.length):yfb [10] "words" (.loc o) (hR h o ws k)=some (.lst (ws.map .str),hR h o ws k):=fl 0 (yqc b) (by decide) (rfl) rfl
theorem yzu (b:o<h.length):yfb [10,12] "at" (.loc o) (hR h o ws k)=some (.int k,hR h o ws k):=fl 1 (yqc b) (by decide) (rfl) rfl
theorem pR {j:Nat}(b:o<h.length):fL [10,12] "at" ρ (.int j) (.loc o) (hR h o ws k)=some (.nx ρ,hR h o ws j):=(yfk (ns':=["words","at"]) (xs':=[.lst (ws.map _),.int j]) (yqc b) (rfl) (rfl)).trans (by unfold hR rdr;rw [List.set_set])
theorem yGR (e:ws.drop k=w::r):ws[k]?=some w/\k<ws.length/\ws.drop (k+1)=r:=by
 have b:k<ws.length:=Classical.byContradiction fun z=>by rw [List.drop_of_length_le (by omega)] at e;cases e
 rw [List.drop_eq_getElem_cons b] at e;cases e;exact ⟨List.getElem?_eq_getElem b,b,rfl⟩
theorem d_1 (e:ws.drop k=w::r):ws.drop (k+1)=r:=(yGR e).2.2
theorem yqd (e:ws.drop k=a++b):ws.drop (k+a.length)=b:=by rw [<- List.drop_drop,e,List.drop_left]
variable (G:o<h.length/\ws.length<=100000)
include G
theorem yeR (e:ws.drop k=r):mK 10 "ahead" ybH yh ρ (.loc o) (hR h o ws k)=some (hdV r,hR h o ws k):=by
 rw [yG (yqc G.1) (by rfl'),yuO,ybE];unfold ybH;rw [yo];show ob (yl _ _ [.val _] _) fnK=_;cases r with
 | nil=>simpa [ypk G.1,yzu G.1,length_map,Int.ofNat_lt,show ¬ k<ws.length from by simp_all,G.2,hdV,↓reduceIte]
 | cons w r =>
  obtain ⟨c,d,_⟩:=yGR e;have g:atI (ws.map PV.str) k=some _:=ycR (by rw [getElem?_map,c];rfl)
  simpa [ypk G.1,yzu G.1,length_map,Int.ofNat_lt,d,g,G.2,hdV,↓reduceIte]
end
section
variable {w nm a b c:Str}{n:Int}
theorem ynV {w:Str}:(isN (.str w)=true)=False:=eq_false (by intro z;cases z)
theorem yzv {w:Int}:(isN (.int w)=true)=False:=eq_false (by intro z;cases z)
theorem ygg:Tk "taken" ybI [] (.str w) [w]:=.mk (rfl) fun {h o ws k r} G e=>by
 unfold ybI;rw [yo];show ob (yl _ _ [.val _,.no] _) fnK=_
 simpa [ycu,yeR G e,hdV,List.cons_append,ynV,yzu G.1,yqw,↓reduceIte]
 rw [show (k:Int)+1=(k+1:Nat) from rfl,pR G.1];symm
theorem yjL:Tk "pass_over" yS [.str w] .non [w]:=.mk (rfl) fun {h o ws k r} G e=>by
 unfold yS;rw [yo];show ob (yl _ _ [.val _,.val _,.no] _) fnK=_
 simpa [ycu,ygg G e]
def yel (r:Str):Prop:=∀ h,yis [.str r] h=some (.bl true,h)
theorem ygB (g:yel w):Tk "slot_taken" yz [] (.str w) [w]:=.mk (rfl) fun {h o ws k r} G e=>by
 unfold yz;rw [yo];show ob (yl _ _ [.val _,.no] _) fnK=_
 simpa [ycu,ygg G e,g _]
def yiz (r:Str):Prop:=∀ h,yit [.str r] h=some (.bl true,h)
theorem yxm (g:yiz w):Tk "name_taken" ybP [] (.str w) [w]:=.mk (rfl) fun {h o ws k r} G e=>by
 unfold ybP;rw [yo];show ob (yl _ _ [.val _,.no] _) fnK=_
 simpa [ycu,ygg G e,g _]
theorem yvF (g:0<=n/\n<B64):Tk "number_taken" ybW [] (.int n) [toString n]:=.mk (rfl) fun {h o ws k r} G e=>by
 unfold ybW;rw [yo];show ob (yl _ _ [.val _,.no,.no] _) fnK=_
 simpa [ycu,ygg G e,ymp g.1 g.2,yzv,↓reduceIte]
theorem yFF (e:ρ[i]?=some (.val (.str w))) (n:decide (w=l)=false):yl (yby (yv (xOp oEq (ye i) (xC (.str l)))) A yN) B ρ h=B ρ h:=by
 have f:ye i ρ h=some (.str w,h):=by unfold ye;rw [e]
 simpa [f,of_decide_eq_false n,↓reduceIte]
theorem yvG (g:yel a) (f:yel b) (i:yel c):Tk "reckon_taken" ybX [.str w] (.ins 2 ["word","slot","one","other"] [.str w,.str a,.str b,.str c]) [a,b,c]:=.mk (rfl) fun {h o ws k r} G e=>by
 unfold ybX;rw [yo];show ob (yl _ _ [.val _,.val _,.no,.no,.no] _) fnK=_
 simpa [ycu,ygB g G e,ygB f G (d_1 e),ygB i G (d_1 (d_1 e))]
 rfl
end
section
variable {w nm a b:Str}{n:Int}
theorem yFG (d:yel a) (g:0<=n/\n<B64):Tk "plain_taken" yA [.str "let"] (.ins 1 ["slot","number"] [.str a,.int n]) [a,tI n]:=.mk (rfl) fun {h o ws k r} G e=>by
 unfold yA;rw [yo];show ob (yl _ _ [.val _,.val _,.no,.no,.no] _) fnK=_
 simpa [ycu,ygB d G e,yvF g G (d_1 e)]
 rfl
theorem yxn (g:yel a) (f:yel b):Tk "plain_taken" yA [.str "take"] (.ins 3 ["slot","place"] [.str a,.str b]) [a,b]/\Tk "plain_taken" yA [.str "put"] (.ins 4 ["place","slot"] [.str a,.str b]) [a,b]:=by
 constructor
 all_goals
  refine .mk (by rfl') fun {h o ws k r} G e=>?_
  unfold yA;rw [yo];show ob (yl _ _ [.val _,.val _,.no,.no,.no] _) fnK=_
  repeat rw [yFF rfl (rfl)]
  simpa [ycu,ygB g G e,ygB f G (d_1 e)]
  rfl
theorem yzw (g:yiz a) (f:yel b):Tk "plain_taken" yA [.str "throw"] (.ins 8 ["name","slot"] [.str a,.str b]) [a,b]:=.mk (by rfl') fun {h o ws k r} G e=>by
 unfold yA;rw [yo];show ob (yl _ _ [.val _,.val _,.no,.no,.no] _) fnK=_
 repeat rw [yFF rfl (rfl)]
 simpa [ycu,yxm g G e,ygB f G (d_1 e)]
 rfl
theorem yCK:Tk "plain_taken" yA [.str "wait"] (.ins 9 [] []) []:=.mk (by rfl') fun _ _=>by kernel_rfl!
theorem yvH (g:w∈W5) (p:yel a) (i:yel b) (q:yel c):Tk "plain_taken" yA [.str w] (.ins 2 ["word","slot","one","other"] [.str w,.str a,.str b,.str c]) [a,b,c]:=.mk (by rfl') fun {h o ws k r} G e=>by
 have j:∀ h,yir [.str w] h=some (.bl true,h):=fun h=>by rcases yxl g with rfl|rfl|rfl|rfl|rfl<;>kernel_rfl!
 unfold yA;rw [yo];show ob (yl _ _ [.val _,.val _,.no,.no,.no] _) fnK=_;have m:∀ l∈(["let","take","put","throw","wait"]:List Str),decide (w=l)=false:=by rcases yxl g with rfl|rfl|rfl|rfl|rfl<;>rfl'
 repeat rw [yFF rfl (m _ (by simp))]
 simpa [ycu,j,yvG (w:=w) p i q G e]
end
section
variable {n:Nat}{ar:Int}{w:Str}{tl wa wb:List Str}{v:PV}{va vb:List PV}
theorem yjM (c:(decide (w = "if") || decide (w = "either") || decide (w = "try"))=false) (d:ar<=8) (P:Tk "plain_taken" yA [.str w] v tl):Tk "part_taken" (yJ (n+1)) [.int ar] v (w::tl):=.mk (by rfl') fun {h o ws k r} G e=>by
 simp only [Bool.or_eq_false_iff,decide_eq_false_iff_not] at c;unfold yJ;rw [yo];show ob (yl _ _ [.val _,.val _,.no] _) fnK=_
 simpa [show (ar>8)=False from eq_false (by omega),ycu,ygg G e,c.1.1,c.1.2,c.2,P G (d_1 e),↓reduceIte]
 grind
theorem yvI (A:Tk "side_taken" (yt n) [.int ar] (.lst va) wa) (B:Tk "side_taken" (yt n) [.int ar] (.lst vb) wb):Tk "either_taken" (ybw (n+1)) [.int ar] (.ins 6 ["parts","others"] [.lst va,.lst vb]) (wa++("or":Str)::wb):=.mk (rfl) fun {h o ws k r} G e=>by
 rw [append_assoc] at e;have b:=yqd e;unfold ybw;rw [yo];show ob (yl _ _ [.val _,.val _,.no,.no] _) fnK=_
 simpa [ycu,A G e,yjL G b,B G (d_1 b)]
 rw [length_append,show k+wa.length+1+wb.length=k+(wa.length+wb.length+1) by omega];rfl
theorem yFH (c:yiz nm) (d:yel s) (A:Tk "side_taken" (yt n) [.int ar] (.lst va) wa) (B:Tk "side_taken" (yt n) [.int ar] (.lst vb) wb):Tk "try_taken" (ybY (n+1)) [.int ar] (.ins 7 ["parts","name","slot","others"] [.lst va,.str nm,.str s,.lst vb]) (wa++("on":Str)::nm::s::wb):=.mk (rfl) fun {h o ws k r} G e=>by
 rw [append_assoc] at e;have b:=yqd e;unfold ybY;rw [yo];show ob (yl _ _ [.val _,.val _,.no,.no,.no,.no] _) fnK=_
 simpa [ycu,A G e,yjL G b,yxm c G (d_1 b),ygB d G (d_1 (d_1 b)),B G (d_1 (d_1 (d_1 b)))]
 rw [length_append,show k+wa.length+3+wb.length=k+(wa.length+wb.length+3) by omega];rfl
theorem ysA (c:ar<=8):(Tk "either_taken" (ybw n) [.int (ar+1)] v tl->Tk "part_taken" (yJ (n+1)) [.int ar] v ("either"::tl))/\(Tk "try_taken" (ybY n) [.int (ar+1)] v tl->Tk "part_taken" (yJ (n+1)) [.int ar] v ("try"::tl)):=by
 constructor
 all_goals
  refine fun P=>.mk (by rfl') fun {h o ws k r} G e=>?_
  unfold yJ;rw [yo];show ob (yl _ _ [.val _,.val _,.no] _) fnK=_
  simpa [show (ar>8)=False from eq_false (by omega),ycu,ygg G e,show (("either":Str) = "if")=False from eq_false (by rfl'),show (("try":Str) = "if")=False from eq_false (by rfl'),show (("try":Str) = "either")=False from eq_false (by rfl'),P G (d_1 e),↓reduceIte]
  rw [show k+1+tl.length=k+(tl.length+1) by omega]
abbrev Q:=PV×List Str
noncomputable def wr:List Q->List Str
 | []=>[]
 | q::l=>";"::(q.2++wr l)
def wl:List Q->List Str
 | []=>[]
 | q::l=>q.2++wr l
def PQ (n:Nat) (ar:Int) (q:Q):Prop:=Tk "part_taken" (yJ n) [.int ar] q.1 q.2/\∃ w tl,q.2=w::tl/\(w = ")")=False
def ysB (n:Nat):XS:=yl (yW (yi 10 "pass_over" yS (ye 0) (yb (xC (.str ";")) (yh)))) (yfW 2 (yi 10 "part_taken" (yJ n) (ye 0) (yb (ye 1) (yh))))
variable {h:AH}{o:Nat}{ws rest:List Str}{as:XA}{ρ:PSt}(G:o<h.length/\ws.length<=100000) (hr:rest=[]\/∃ r,rest=(")":Str)::r)
include G hr
theorem ysC:∀ l a (k d:Nat),(∀ q∈l,PQ n ar q)->l.length<d->a.length+l.length<=1000->ws.drop k=wr l++rest ->
  whl ykA (ysB n) d [.val (.loc o),.val (.int ar),.own (.lst a)] (hR h o ws k)=some (.nx [.val (.loc o),.val (.int ar),.own (.lst (a++l.map (·.1)))],hR h o ws (k+(wr l).length))
 | [],a,k,d+1,_,_,_,e=>by
  have c:ykA [.val (.loc o),.val (.int ar),.own (.lst a)] (hR h o ws k)=some (false,hR h o ws k):=by
   unfold ykA
   simpa [ycu,yeR G (e)]
   rcases hr with rfl|⟨r,rfl⟩<;>kernel_rfl!
  rw [yoR,c,ybE,map_nil,append_nil];rfl
 | q::l,a,k,d+1,H,g,i,e=>by
  have e:ws.drop k=(";":Str)::(q.2++(wr l++rest)):=by rw [e,<- append_assoc];rfl
  have f:=d_1 e;rw [length_cons] at g i;have c:ykA [.val (.loc o),.val (.int ar),.own (.lst a)] (hR h o ws k)=some (true,hR h o ws k):=by
   unfold ykA
   simpa [ycu,yeR G e,hdV]
  have b:ysB n [.val (.loc o),.val (.int ar),.own (.lst a)] (hR h o ws k)=some (.nx [.val (.loc o),.val (.int ar),.own (.lst (a++[q.1]))],hR h o ws (k+1+q.2.length)):=by
   unfold ysB
   simpa [ycu,yjL G e]
   rw [yma rfl]
   simpa [ycu,(H q mem_cons_self).1 G f,show a.length<100000 by omega,↓reduceIte]
  rw [yoR,c,ybE,b,ybE];show whl ykA (ysB n) d _ _=_;rw [ysC l _ _ d (fun q h=>H q (mem_cons_of_mem _ h)) (by omega) (by grind) (yqd f),append_assoc,show k+1+q.2.length+(wr l).length=k+(wr (q::l)).length by show _=k+((q.2++wr l).length+1);grind];rfl
theorem list_eq (H:∀ q∈l,PQ n ar q) (a:l.length<=90) (e:ws.drop k=wl l++rest) (b:as ρ (hR h o ws k)=some ([.int ar],hR h o ws k)) :
  mK 10 "list_taken" (ybQ (n+1)) as ρ (.loc o) (hR h o ws k)=some (.lst (l.map (·.1)),hR h o ws (k+(wl l).length)):=by
 rw [yG (yqc G.1) (rfl),b,ybE];unfold ybQ;rw [yo];show ob (yl _ (yl _ (yl (yfI 100 ykA (ysB n)) _)) [.val _,.val _,.no] _) fnK=_;cases l with
 | nil =>
  have e:ws.drop k=rest:=e;rcases hr with rfl|⟨r,rfl⟩
  .simpa [ycu,yeR G e,hdV]
   rfl
  .simpa [ycu,yeR G e,hdV,ynV,↓reduceIte]
   rfl
 | cons q l =>
  obtain ⟨P,w,tl,g,c⟩:=H q mem_cons_self;have e:ws.drop k=q.2++(wr l++rest):=by rw [e,<- append_assoc];rfl
  have d:ws.drop k=w::(tl++(wr l++rest)):=by rw [e,g];rfl
  rw [length_cons] at a;have f:=ysC G hr l [q.1] _ 100 (fun q h=>H q (mem_cons_of_mem _ h)) (by omega) (by grind) (yqd e)
  simpa [ycu,yeR G d,hdV,ynV,c,P G e,↓reduceIte]
  rw [show yfI 100 ykA _ _ _=_ from f];rw [show k+q.2.length+(wr l).length=k+(wl (q::l)).length by show _=k+(q.2++wr l).length;grind];rfl
omit G hr
theorem yCL (H:∀ q∈l,PQ n ar q) (a:l.length<=90):Tk "side_taken" (yt (n+2)) [.int ar] (.lst (l.map (·.1))) ("("::(wl l++[(")":Str)])):=.mk (rfl) fun {h o ws k r} G e=>by
 have e:ws.drop k=("(":Str)::(wl l++(")":Str)::r):=by rw [e];simp
 unfold yt;rw [yo];show ob (yl _ _ [.val _,.val _,.no] _) fnK=_
 simpa [ycu,yjL G e,list_eq G (.inr ⟨_,rfl⟩) H a (d_1 e),yjL G (yqd (d_1 e))]
 grind
end
section
variable {n:Nat}{ar:Int}{tl wa wb:List Str}{v:PV}{va vb:List PV}
theorem yHt (d:yel s) (A:Tk "side_taken" (yt n) [.int ar] (.lst va) wa) (B:Tk "side_taken" (yt n) [.int ar] (.lst vb) wb):Tk "if_taken" (ycf (n+1)) [.int ar] (.ins 5 ["slot","parts","others"] [.str s,.lst va,.lst vb]) (s::(wa++("else":Str)::wb)):=.mk (rfl) fun {h o ws k r} G e=>by
 rw [List.cons_append,append_assoc] at e;have b:=d_1 e;have c:=yqd b;unfold ycf;rw [yo];show ob (yl _ _ [.val _,.val _,.no,.no,.no] _) fnK=_
 simpa [ycu,ygB d G e,A G b,yjL G c,B G (d_1 c)]
 rw [length_append,show k+1+wa.length+1+wb.length=k+(wa.length+wb.length+1+1) by omega];rfl
theorem yvJ (c:ar<=8) (P:Tk "if_taken" (ycf n) [.int (ar+1)] v tl):Tk "part_taken" (yJ (n+1)) [.int ar] v ("if"::tl):=.mk (by rfl') fun {h o ws k r} G e=>by
 unfold yJ;rw [yo];show ob (yl _ _ [.val _,.val _,.no] _) fnK=_
 simpa [show (ar>8)=False from eq_false (by omega),ycu,ygg G e,P G (d_1 e),↓reduceIte]
 rw [show k+1+tl.length=k+(tl.length+1) by omega]
end
noncomputable def SL:List Str:=["a","b","c","d","e","f","g","h"]
def sx (r:Str):Nat:=SL.idxOf r
section
variable {h:AH}{n hl lg sn sd:Nat}{w t:Int}{rows:List PV}{hs:List Int}{r:Str}
theorem ygC (b:r∈SL):yeh [.str r] h=some (.int (sx r),h):=by unfold SL at b;simp only [mem_cons,not_mem_nil,or_false] at b;rcases b with rfl|rfl|rfl|rfl|rfl|rfl|rfl|rfl<;>kernel_rfl!
theorem yCM (a:r∈SL):sx r<8:=List.idxOf_lt_length_of_mem a
theorem ygh {n:Nat}{xs:List Int}(e:h[n]?=some (.lst (xs.map .int))) (b:i<xs.length):ybd (.loc n) (.int i) h=some (.int (xs.getD i 0),h):=by
 unfold ybd;simp only [e];have:(xs.map PV.int)[i]?=some (.int (xs.getD i 0)):=by rw [getElem?_map,getD_eq_getElem?_getD,List.getElem?_eq_getElem b];rfl
 rw [ycR this]
theorem yiA {b:PV}(e:h[n]?=some (ykI hl w lg rows t sn sd)) {i:Nat}(c:t=i) (g:rows[i]?=some b):ydS [.loc n] h=some (b,h):=by
 obtain ⟨l,j,k,f,d,m,o⟩:=ycV e;subst c;unfold ydS;rw [yo];show ob (yQ _ [.val _] h) fnK=_
 simpa [f,d]
 rw [ycR g];rfl
variable (e:h[n]?=some (ykI hl w lg rows t sn sd)) (eh:h[hl]?=some (.lst (hs.map .int))) (h8:hs.length=8) (hr:r∈SL)
include e eh h8 hr
theorem ydq:ybk [.loc n,.str r] h=some (.int (hs.getD (sx r) 0),h):=by
 obtain ⟨a,d,i,f,c,g,b⟩:=ycV e;unfold ybk;rw [yo];show ob (yQ _ [.val _,.val _] h) fnK=_
 simpa [a,ygC hr]
 rw [ygh eh (by rw [h8];exact yCM hr),ybE]
theorem yiB:yci [.loc n,.str r,.int v] h=some (.non,h.set hl (.lst ((hs.set (sx r) v).map .int))):=by
 obtain ⟨b,f,j,g,k,i,d⟩:=ycV e;unfold yci;rw [yo];show ob (yec _ _ _ [.val _,.val _,.val _] h) fnK=_;show ob (ob (some _) _) _=_;rw [ybE]
 simpa [b,ygC hr]
 have c:sx r<hs.length:=by rw [h8];exact yCM hr
 have a:ixN (hs.map PV.int).length (sx r)=some (sx r):=by unfold ixN;simp [c]
 simp only [eh,a];rw [map_set];rfl
theorem yfl (c:1<=w):ybV [.loc n,.str r] h=some (.int (hs.getD (sx r) 0%w),h):=by
 obtain ⟨g,a,j,f,d,i,b⟩:=ycV e;unfold ybV;rw [yo];show ob (yQ _ [.val _,.val _] h) fnK=_
 simpa [ycu,yG (m:="held_in") e (rfl),ydq e eh h8 hr,a]
 grind
end
noncomputable def yhp:Rw->Rw->Bool
 | .either _,.wait=>true
 | .guard nm _ _,.throw nm' _=>decide (nm=nm')
 | _,_=>false
noncomputable def ygD:Rw->Bool|.either _=>true|.guard ..=>true|_=>false
noncomputable def yvK:Rw->Bool|.wait=>true|.throw ..=>true|_=>false
def sdV (s:Rw×List Int):PV:=.tup [yba s.1,.lst (s.2.map .int)]
def tkL (sd:List (Rw×List Int)) (r:Rw):Nat->Nat
 | 0=>0
 | k+1=>match sd[k]? with|some s=>if yhp s.1 r then k+1 else tkL sd r k|none=>0
section
variable {h:AH}{n hl lg sn sdl:Nat}{w t:Int}{rows:List PV}{hs:List Int}{r:Rw}{sd:List (Rw×List Int)}
theorem yvL (a:ygD b=true) (c:yvK r=true):yiu [yba b,yba r] h=some (.bl (yhp b r),h):=by
 cases b<;>first|(cases a;done)|skip
 all_goals cases r<;>first|(cases c;done)|kernel_rfl!|skip
 unfold yiu;rw [yo];show ob (yl _ _ [.val _,.val _] h) fnK=_;unfold yba
 simpa [yho]
 rfl
theorem yvM:whl c s (k+1) ρ h=ob (c ρ h) fun a h1=>if a=true then ob (s ρ h1) fun o h2=>match o with|.nx ρ'=>whl c s k ρ' h2|.ct ρ'=>whl c s k ρ' h2|.bk ρ'=>some (.nx ρ',h2)|.rt y=>some (.rt y,h2) else some (.nx ρ,h1):=rfl
theorem ypl (e:h[n]?=some (ykI hl w lg rows t sn sdl)) (es:h[sdl]?=some (.lst (sd.map sdV))) (z:∀ s∈sd,ygD s.1=true) (o:yvK r=true) (j:sd.length<900):ybK [.loc n,yba r] h=some (.int (tkL sd r sd.length),h):=by
 obtain ⟨G,F,I,E,D,H,i⟩:=ycV e;unfold ybK;rw [yo];show ob (yl _ (yl (yfI 1000 _ _) _) [.val (.loc n),.val (yba r),.no] h) fnK=_;have x:∀ (c:XT) (s:XS),c=(ywJ (yv (xOp (oGt) (ye 2) (xC (.int 0)))) (ynv (yv (yT yiu (yb (xOp (ybF) (xOp (ybd) (ybc [12] "sides" (ye 0)) (xOp yoG (ye 2) (xC (.int 1)))) (xC (.int 0))) (yb (ye 1) (yh)))))))->s=(ybu (xOp yoG (ye 2) (xC (.int 1))) (yq 2)) ->
   ∀ (k f:Nat),k<=sd.length->k<f->whl c s f [.val (.loc n),.val (yba r),.val (.int k)] h=some (.nx [.val (.loc n),.val (yba r),.val (.int (tkL sd r k))],h):=by
  intro c s b hs k
  induction k with
  | zero =>
   intro f _ C;obtain ⟨f,rfl⟩:∃ g,f=g+1:=⟨f-1,by omega⟩
   subst b hs;rw [yvM];rfl
  | succ k ih =>
   intro f l C;obtain ⟨f,rfl⟩:∃ g,f=g+1:=⟨f-1,by omega⟩
   have a:k<sd.length:=l;have d:sd[k]?=some sd[k]:=List.getElem?_eq_getElem a;have p:ybd (.loc sdl) (.int (((k+1:Nat):Int)-1)) h=some (sdV sd[k],h):=by unfold ybd;simp only [es];rw [show ((k+1:Nat):Int)-1=(k:Nat) by omega,ycR (by rw [getElem?_map,d];rfl)]
   have q:ybF (sdV sd[k]) (.int 0) h=some (yba sd[k].1,h):=rfl;have y:=yvL (h:=h) (z sd[k] (getElem_mem a)) o;have B:oGt (.int ((k+1:Nat):Int)) (.int 0) h=some (.bl true,h):=by show some (PV.bl _,h)=_;rw [decide_eq_true (by omega)]
   have m:c [.val (.loc n),.val (yba r),.val (.int ((k+1:Nat):Int))] h=some (!(yhp sd[k].1 r),h):=by
    subst b;show ob _ _=_
    simpa [i,p,q,y,B]
   rw [yvM,m,ybE];show (if (!(yhp sd[k].1 r))=true then _ else _)=some (Out.nx [_,_,.val (.int ((match sd[k]? with|some s=>if yhp s.1 r then k+1 else tkL sd r k|none=>0:Nat):Int))],h);rw [d];cases A:yhp sd[k].1 r with
   | true=>simp_all
   | false =>
    simp only [Bool.not_false,if_true,A,Bool.false_eq_true,if_false];have:=ih f (by omega) (by omega);rw [<- this];subst hs;show ob (some (Out.nx [.val (.loc n),.val (yba r),.val (.int (((k+1:Nat):Int)-1))],h)) _=_;rw [ybE,show ((k+1:Nat):Int)-1=(k:Nat) by omega]
 have u:ydP [.loc sdl] h=some (.int sd.length,h):=by rw [yer es,length_map]
 have v:=x _ _ rfl rfl sd.length 1000 (Nat.le_refl _) (by omega)
 simpa [i,u]
 exact (congrArg (ob · _) v).trans rfl
end
section
variable {h:AH}{n hl lg sn sdl:Nat}{w:Int}{rows:List PV}{t:Nat}{r:Rw}
theorem ymt {t:Int}(e:h[n]?=some (ykI hl w lg rows t sn sdl)):fL [10,12] "at" ρ (.int j) (.loc n) h=some (.nx ρ,h.set n (ykI hl w lg rows j sn sdl)):=yfk e (rfl) (rfl)
theorem yvN {t:Int}(e:h[n]?=some (ykI hl w lg rows t sn sdl)):fL [12] "held" ρ (.loc j) (.loc n) h=some (.nx ρ,h.set n (ykI j w lg rows t sn sdl)):=yfk e (rfl) (rfl)
theorem yjo (e:h[n]?=some (ykI hl w lg rows t sn sdl)) (c:rows[t]?=some (yba r)):ycs [.loc n] h=ob (goB [.val (.loc n),.val (yba r)] (h.set n (ykI hl w lg rows (t+1:Nat) sn sdl))) fnK:=by
 obtain ⟨g,j,i,d,b,f,k⟩:=ycV e;unfold ycs;rw [yo];show ob (yl _ _ [.val _,.no] h) fnK=_
 simpa [ycu,yG (m:="row") e (rfl),yiA e rfl c,b,yqw,ymt e]
 rfl
theorem yzx (e:h[n]?=some (ykI hl w lg rows t sn sdl)) (c:rows[t]?=some (yba r)):ybD [.loc n] h=ob (loB [.val (.loc n),.val (yba r)] h) fnK:=by
 unfold ybD;rw [yo];show ob (yl _ loB [.val _,.no] h) fnK=_
 simpa [ycu,yG (m:="row") e (by rfl'),yiA e rfl c]
abbrev M2 (m:Str) (f:Fn):XE:=yi 12 m f (ye 0) (yb (ye 1) (yh))
theorem yCN:goB [.val x,.val (yba (.let_ s k))] h=yW (M2 "go_plain" yH) [.val x,.val (yba (.let_ s k))] h:=by kernel_rfl!
theorem yzy:goB [.val x,.val (yba (.take s k))] h=yW (M2 "go_plain" yH) [.val x,.val (yba (.take s k))] h:=by kernel_rfl!
theorem yCO:goB [.val x,.val (yba (.put s k))] h=yW (M2 "go_plain" yH) [.val x,.val (yba (.put s k))] h:=by kernel_rfl!
theorem yzz:goB [.val x,.val (yba .wait)] h=yW (M2 "leave" ycy) [.val x,.val (yba .wait)] h:=by kernel_rfl!
theorem yvO:goB [.val x,.val (yba (.throw s k))] h=yW (M2 "throw" ycT) [.val x,.val (yba (.throw s k))] h:=by kernel_rfl!
theorem ysD:goB [.val x,.val (yba (.either k))] h=goE [.val x,.val (yba (.either k))] h:=by kernel_rfl!
theorem yvP {s r:Str}:goB [.val x,.val (yba (.guard s r k))] h=goE [.val x,.val (yba (.guard s r k))] h:=by kernel_rfl!
theorem ysE:goB [.val x,.val (yba .settle)] h=goS [.val x,.val (yba .settle)] h:=by kernel_rfl!
theorem yzA:goB [.val x,.val (yba (.jump k))] h=yW (M2 "lead" ycd) [.val x,.val (yba (.jump k))] h:=by kernel_rfl!
theorem ysF:goB [.val x,.val (yba (.unl s k))] h=yW (M2 "lead" ycd) [.val x,.val (yba (.unl s k))] h:=by kernel_rfl!
theorem ysG {w a b c:Str}(g:w∈W5):goB [.val x,.val (yba (.reckon w a b c))] h=yW (M2 "go_plain" yH) [.val x,.val (yba (.reckon w a b c))] h:=by
 rcases yxl g with rfl|rfl|rfl|rfl|rfl
 all_goals kernel_rfl!
end
structure Lc where
 rn:Nat
 hl:Nat
 lg:Nat
 st:Nat
 ls:Nat
 sn:Nat
 sd:Nat
 ly:List Nat
structure RS where
 t:Nat
 hs:List Int
 sd:List (Rw×List Int)
 dd:List (List Key×List PV)
 sn:List (Nat×Int×Int)
noncomputable def sK (m:List (Nat×Int×Int)):List Key:=m.map fun p=>.inl (p.1:Int)
noncomputable def sA (m:List (Nat×Int×Int)):List PV:=m.map fun p=>.int p.2.1
noncomputable def sB (m:List (Nat×Int×Int)):List PV:=m.map fun p=>.int p.2.2
noncomputable def yfm (m:List (Nat×Int×Int)) (k:Nat) (a b:Int):List (Nat×Int×Int):=if k∈m.map (·.1) then m.map (fun p=>if p.1=k then (k,a,b) else p) else m++[(k,a,b)]
noncomputable def lay:List Nat->List (List Key×List PV)->List (Nat×Nd)
 | l::ls,d::ds=>(l,.dct d.1 d.2)::lay ls ds
 | _,_=>[]
def RM (w:Int) (rows:List PV) (c:Lc) (s:RS) (rest:List (Nat×Nd)):List (Nat×Nd) :=
 (c.rn,ykI c.hl w c.lg rows s.t c.sn c.sd)::(c.hl,.lst (s.hs.map .int))::(c.lg,.ins 11 ["stack","last_seen"] [.loc c.st,.loc c.ls])::(c.st,.lst (c.ly.map .loc))::(c.ls,.dct (sK s.sn) (sA s.sn))::(c.sn,.dct (sK s.sn) (sB s.sn))::(c.sd,.lst (s.sd.map sdV))::(lay c.ly s.dd++rest)
structure RR (w:Int) (rows:List PV) (rest:List (Nat×Nd)) (h:AH) (c:Lc) (s:RS):Prop where
 at_:At h (RM w rows c s rest)
 len:c.ly.length=s.dd.length
theorem yfn:∀ l m d e,l.length=d.length->lay (l++m) (d++e)=lay l d++lay m e
 | [],_,[],_,_=>rfl
 | a::l,m,b::d,e,h=>by
  show (a,_)::lay (l++m) (d++e)=(a,_)::(lay l d++lay m e)
  rw [yfn l m d e (by simpa using h)]
def okR:Rw->Bool:=@Rw.rec (fun _=>Bool) (fun r _=>decide (r∈SL)) (fun p r=>decide (p∈SL) && decide (r∈SL)) (fun p r=>decide (p∈SL) && decide (r∈SL)) (fun _ r=>decide (r∈SL)) true (fun k=>decide (0<=k)) (fun _ r k=>decide (r∈SL) && decide (0<=k)) true (fun w a b c=>decide (w∈W5) && decide (a∈SL) && decide (b∈SL) && decide (c∈SL)) (fun k=>decide (0<=k)) (fun r k=>decide (r∈SL) && decide (0<=k)) true
def okS (s:RS):Bool:=(s.hs.length == 8) && (s.dd.length == s.sd.length+1) && decide (s.sd.length<90) && s.sd.all (fun x=>ygD x.1 && okR x.1 && (x.2.length == 8)) && s.dd.all (fun d=>decide (d.1.length<400))
noncomputable def toB:Rw->Int|.either k=>k|.guard _ _ k=>k|_=>0
noncomputable def slB:Rw->Str|.guard _ r _=>r|_=>""
def yhq (dd:List (List Key×List PV)) (k v:Int):List (List Key×List PV):=match dd.getLast? with|some d=>dd.dropLast++[ydA d.1 d.2 (.inl k) (.int v)]|none=>dd
def yjN (dd:List (List Key×List PV)):List (List Key×List PV):=match dd.getLast?,dd.dropLast.getLast? with|some d,some e=>dd.dropLast.dropLast++[yje d.1 d.2 e.1 e.2]|_,_=>dd
def yjO (s:RS) (r:Rw) (g:Rw->List Int->List Int):Option RS:=match tkL s.sd r s.sd.length with
 | 0=>none
 | L+1=>match s.sd[L]? with|some x=>some ⟨(toB x.1).toNat,g x.1 x.2,s.sd.take L,s.dd.take (L+1),s.sn⟩|none=>none
def ysH (s:RS) (w:Int) (p:Str):PV:=yxk s.dd (.inl (s.hs.getD (sx p) 0%w)) s.dd.length
def rk (w:Str) (x y:Int):Int:=if w = "plus" then (x+y)%B64 else if w = "minus" then (x-y)%B64 else if w = "times" then x*y%B64 else if w = "less" then (if x<y then 1 else 0) else (if x=y then 1 else 0)
def yqe (w:Int) (r:Rw) (s:RS):Option RS:=if (okR r && okS s)=true then (match r with
 | .let_ r n=>some ⟨s.t+1,s.hs.set (sx r) n,s.sd,s.dd,s.sn⟩
 | .take r p=>(match ysH s w p with|.int v=>some ⟨s.t+1,s.hs.set (sx r) v,s.sd,s.dd,s.sn⟩|_=>none)
 | .put p r=>some ⟨s.t+1,s.hs,s.sd,yhq s.dd (s.hs.getD (sx p) 0%w) (s.hs.getD (sx r) 0),s.sn⟩
 | .either k=>some ⟨s.t+1,s.hs,s.sd++[(.either k,s.hs)],s.dd++[([],[])],s.sn⟩
 | .guard a b k=>some ⟨s.t+1,s.hs,s.sd++[(.guard a b k,s.hs)],s.dd++[([],[])],s.sn⟩
 | .settle=>if s.sd.length=0 then none else some ⟨s.t+1,s.hs,s.sd.dropLast,yjN s.dd,s.sn⟩
 | .jump k=>some ⟨k.toNat,s.hs,s.sd,s.dd,s.sn⟩
 | .unl r k=>some ⟨if s.hs.getD (sx r) 0=0 then k.toNat else s.t+1,s.hs,s.sd,s.dd,s.sn⟩
 | .wait=>yjO s .wait fun _ q=>q
 | .throw a b=>yjO s (.throw a b) fun x q=>q.set (sx (slB x)) (s.hs.getD (sx b) 0)
 | .reckon v a p q=>if 0<=s.hs.getD (sx p) 0/\s.hs.getD (sx p) 0<B64 then some ⟨s.t+1,s.hs.set (sx a) (rk v (s.hs.getD (sx p) 0) (s.hs.getD (sx q) 0)),s.sd,s.dd,s.sn⟩ else none
 | .lay=>none) else none
noncomputable def S0 (hs:List Int):RS:=⟨0,hs,[],[([],[])],[]⟩
section
variable {h:AH}{m:List (Nat×Nd)}
theorem At.ne (A:At h m) {i j:Nat}{p q:Nat×Nd}(a:i<j) (d:m[i]?=some p) (b:m[j]?=some q):p.1≠q.1:=by obtain ⟨e,f⟩:=List.getElem?_eq_some_iff.mp d;obtain ⟨c,g⟩:=List.getElem?_eq_some_iff.mp b;have:=List.pairwise_iff_getElem.mp A.1 i j (by simpa using e) (by simpa using c) a;simp_all
theorem yiC:∀ a dd,a.length=dd.length->(lay a dd).length=a.length
 | [],[],_=>rfl
 | _::ls,_::ds,e=>by show (lay ls ds).length+1=ls.length+1;rw [yiC ls ds (by simpa using e)]
theorem yxo:∀ a dd,a.length=dd.length->(∀ p∈lay a dd,h[p.1]?=some p.2)->Stk h a dd
 | [],[],_,_=>trivial
 | l::ls,d::ds,e,g=>⟨g _ mem_cons_self,yxo ls ds (by simpa using e) fun p hp=>g p (mem_cons_of_mem _ hp)⟩
variable {w:Int}{rows:List PV}{rest:List (Nat×Nd)}{c:Lc}{s:RS}
theorem RR.lg (R:RR w rows rest h c s):LG h c.lg c.st c.ls c.ly s.dd (sK s.sn) (sA s.sn):=⟨R.at_.get 2 rfl,R.at_.get 3 rfl,R.at_.get 4 rfl,yxo _ _ R.len fun p hp=>R.at_.2 p (by unfold RM;simp [hp])⟩
theorem RR.run (R:RR w rows rest h c s):h[c.rn]?=some (ykI c.hl w c.lg rows s.t c.sn c.sd):=R.at_.get 0 rfl
theorem RR.held (R:RR w rows rest h c s):h[c.hl]?=some (.lst (s.hs.map .int)):=R.at_.get 1 rfl
theorem RR.sds (R:RR w rows rest h c s):h[c.sd]?=some (.lst (s.sd.map sdV)):=R.at_.get 6 rfl
theorem RR.to (R:RR w rows rest h c s) (k:Nat):RR w rows rest (h.set c.rn (ykI c.hl w c.lg rows k c.sn c.sd)) c { s with t:=k }:=⟨R.at_.upd (a:=[]) _,R.len⟩
theorem RR.hold (R:RR w rows rest h c s) q:RR w rows rest (h.set c.hl (.lst (q.map .int))) c { s with hs:=q }:=⟨R.at_.upd (a:=[_]) _,R.len⟩
theorem yhr (e:okS s=true):s.hs.length=8/\s.dd.length=s.sd.length+1/\s.sd.length<90/\(∀ x∈s.sd,ygD x.1=true/\okR x.1=true/\x.2.length=8)/\∀ d∈s.dd,d.1.length<400:=by unfold okS at e;simp only [and_eq_true,beq_iff_eq,decide_eq_true_eq,List.all_eq_true] at e;obtain ⟨⟨⟨⟨i,f⟩,g⟩,b⟩,j⟩:=e;exact ⟨i,f,g,fun x a=>⟨(b x a).1.1,(b x a).1.2,(b x a).2⟩,j⟩
def dk (m:Option (PV×AH)) (ρ:PSt):Option (PV×AH):=ob (ob m fun _ h1=>some (Out.nx ρ,h1)) fnK
theorem yCP:yH [x,yba (.let_ r k)] h=dk (mK 12 "hold" yci (fun _ h1=>some ([.str r,.int k],h1)) [] x h) [.val x,.val (yba (.let_ r k))]:=by kernel_rfl!
theorem yCQ:yH [x,yba (.put p r)] h=dk (mK 12 "do_put" ydd (fun _ h1=>some ([.str p,.str r],h1)) [] x h) [.val x,.val (yba (.put p r))]:=by kernel_rfl!
theorem yCR (R:RR w rows rest h c s) (b:rows[s.t]?=some (yba (.let_ r k))) (e:r∈SL) (d:s.hs.length=8):∃ h',ycs [.loc c.rn] h=some (.non,h')/\RR w rows rest h' c ⟨s.t+1,s.hs.set (sx r) k,s.sd,s.dd,s.sn⟩:=by have a:=R.to (s.t+1);refine ⟨_,?_,a.hold _⟩;rw [yjo R.run b,yCN];show dk (mK 12 _ yH _ _ _ _) _=_;rw [yG a.run (rfl)];show dk (yH _ _) _=_;rw [yCP,yG a.run (rfl),ybE,yiB a.run a.held d e];rfl
end
section
variable {h:AH}{w:Int}{rows:List PV}{rest:List (Nat×Nd)}{c:Lc}{s:RS}
theorem yzB (R:RR w rows rest h c s) (b:rows[s.t]?=some (yba (.jump k))) (d:0<=k):∃ h',ycs [.loc c.rn] h=some (.non,h')/\RR w rows rest h' c ⟨k.toNat,s.hs,s.sd,s.dd,s.sn⟩:=by have a:=R.to (s.t+1);refine ⟨_,?_,a.to k.toNat⟩;rw [yjo R.run b,yzA];show dk (mK 12 _ ycd _ _ _ _) _=_;rw [yG a.run (rfl)];show dk (ycd _ _) _=_;rw [show ∀ x h,ycd [x,yba _] h=ob (fL [10,12] "at" [.val x,.val (yba (.jump k))] (.int k) x h) fnK by intro x h;kernel_rfl!,ymt a.run,show (k.toNat:Nat)=k by omega];rfl
theorem ysI (R:RR w rows rest h c s) (e:rows[s.t]?=some (yba (.unl r k))) (p:r∈SL) (t:s.hs.length=8) (u:0<=k):∃ h',ycs [.loc c.rn] h=some (.non,h')/\RR w rows rest h' c ⟨if s.hs.getD (sx r) 0=0 then k.toNat else s.t+1,s.hs,s.sd,s.dd,s.sn⟩:=by
 have b:=R.to (s.t+1);have l:∀ h,ybF (yba (.unl r k)) (.int 0) h=some _:=fun _=>rfl
 have i:∀ h,ybF (yba (.unl r k)) (.int 1) h=some _:=fun _=>rfl
 have g:∀ h,ybF (yba (.unl r k)) (.int 2) h=some _:=fun _=>rfl
 have f:(("unless":Str) = "jump")=False:=eq_false (by rfl');have o:∃ h',ycd [.loc c.rn,yba (.unl r k)] (h.set c.rn (ykI c.hl w c.lg rows (s.t+1:Nat) c.sn c.sd))=some (.non,h')/\RR w rows rest h' c ⟨if s.hs.getD (sx r) 0=0 then k.toNat else s.t+1,s.hs,s.sd,s.dd,s.sn⟩:=by
  unfold ycd;rw [yo];have d:=ydq b.run b.held t p;have st:=ymt (j:=k) (ρ:=[.val (.loc c.rn),.val (yba (.unl r k))]) b.run
  by_cases z:s.hs.getD (sx r) 0=0
  .rw [if_pos z];refine ⟨_,?_,b.to k.toNat⟩;rw [z] at d;show ob (yby _ _ _ [.val _,.val _] _) fnK=_;clear R e
   simpa [l,i,g,f,ycu,yG (m:="held_in") b.run (by rfl'),d,yqw,st,-yyM]
   grind
  .rw [if_neg z];refine ⟨_,?_,b⟩;show ob (yby _ _ _ [.val _,.val _] _) fnK=_
   simpa [l,i,g,f,ycu,yG (m:="held_in") b.run (by rfl'),d,z,-yyM]
 obtain ⟨h',q,n⟩:=o;refine ⟨h',?_,n⟩;rw [yjo R.run e,ysF];show dk (mK 12 _ ycd _ _ _ _) _=_;rw [yG b.run (by rfl')];show dk (ycd _ _) _=_;rw [q];rfl
theorem yzC (R:RR w rows rest h c s) {d d':List Key×List PV}(b:c.ly=l++[t]) (ed:s.dd=ds++[d]):RR w rows rest (h.set t (.dct d'.1 d'.2)) c { s with dd:=ds++[d'] }:=by
 have hl:l.length=ds.length:=by have:=R.len;simp_all
 have A:=R.at_;refine ⟨?_,by simp_all⟩;unfold RM at A ⊢;rw [b,ed,yfn _ _ _ _ hl] at A;rw [b,yfn _ _ _ _ hl,append_assoc];rw [append_assoc] at A;exact A.upd (a:=_::_::_::_::_::_::_::lay l ds) _
theorem yco {Y:Type}{xs:List Y}(h:xs.length≠0):∃ a y,xs=a++[y]:=⟨xs.dropLast,xs.getLast (by intro z;rw [z] at h;exact h rfl),(List.dropLast_concat_getLast _).symm⟩
theorem ysJ (R:RR w rows rest h c s) (hp:p∈SL) (j:r∈SL) (b:s.hs.length=8) (i:1<=w) (f:c.ly=l++[t]) (ed:s.dd=ds++[d]) (n:d.1.length<400) :
  ydd [.loc c.rn,.str p,.str r] h=some (.non,h.set t (.dct (ydA d.1 d.2 (.inl (s.hs.getD (sx p) 0%w)) (.int (s.hs.getD (sx r) 0))).1 (ydA d.1 d.2 (.inl (s.hs.getD (sx p) 0%w)) (.int (s.hs.getD (sx r) 0))).2)):=by
 obtain ⟨y,x,g,u,o,v,q⟩:=ycV R.run;have G:=R.lg;have hl:l.length=ds.length:=by have:=R.len;simp_all
 have k:=by have A:=R.at_;unfold RM at A;rw [f,ed,yfn _ _ _ _ hl] at A;exact A.2 (t,.dct d.1 d.2) (by simp [lay])
 have e:=G;rw [f] at e;unfold ydd;rw [yo];show ob (yW _ [.val _,.val _,.val _] h) fnK=_
 simpa [g,ycu,yG (m:="box_at") R.run (by rfl'),yG (m:="held_in") R.run (by rfl'),yG (m:="write") G.ob (by rfl'),yfl R.run R.held b hp i,ydq R.run R.held b j,yvD e k (Nat.lt_trans n _)]
theorem yCS (R:RR w rows rest h c s) (e:rows[s.t]?=some (yba (.put p r))) (hp:p∈SL) (k:r∈SL) (i:1<=w) (g:okS s=true):∃ h',ycs [.loc c.rn] h=some (.non,h')/\RR w rows rest h' c ⟨s.t+1,s.hs,s.sd,yhq s.dd (s.hs.getD (sx p) 0%w) (s.hs.getD (sx r) 0),s.sn⟩:=by
 obtain ⟨f,o2,o,n,m⟩:=yhr g;have a:=R.to (s.t+1);obtain ⟨ds,d,ed⟩:=yco (xs:=s.dd) (by omega);obtain ⟨l,t,b⟩:=yco (xs:=c.ly) (by have:=R.len;omega);have j:=ysJ a hp k f i b ed (m d (by rw [ed];simp));have R2:=yzC (d':=ydA d.1 d.2 (.inl (s.hs.getD (sx p) 0%w)) (.int (s.hs.getD (sx r) 0))) a b ed;refine ⟨_,?_,by
  have:yhq s.dd (s.hs.getD (sx p) 0%w) (s.hs.getD (sx r) 0)=ds++[ydA d.1 d.2 (.inl (s.hs.getD (sx p) 0%w)) (.int (s.hs.getD (sx r) 0))]:=by unfold yhq;rw [ed,List.getLast?_concat,List.dropLast_concat]
  rw [this];exact R2⟩
 rw [yjo R.run e,yCO];show dk (mK 12 _ yH _ _ _ _) _=_;rw [yG a.run (rfl)];show dk (yH _ _) _=_;rw [yCQ,yG a.run (rfl),ybE,j];rfl
end
section
variable {h:AH}{w:Int}{rows:List PV}{rest:List (Nat×Nd)}{c:Lc}{s:RS}
theorem RR.side (R:RR w rows rest h c s) q:RR w rows rest (h.set c.sd (.lst (q.map sdV))) c { s with sd:=q }:=⟨R.at_.upd (a:=[_,_,_,_,_,_]) _,R.len⟩
theorem yCT (R:RR w rows rest h c s) (v:s.sd.length<90) (o2:s.dd.length=s.sd.length+1):∃ h' c',ob (goE [.val (.loc c.rn),.val (yba r)] h) fnK=some (.non,h')/\RR w rows rest h' c' { s with sd:=s.sd++[(r,s.hs)],dd:=s.dd++[([],[])] }/\c'.rn=c.rn:=by
 obtain ⟨i,y,o,n,p,k,g⟩:=ycV R.run;have R2:=R.side (s.sd++[(r,s.hs)]);obtain ⟨l,z,j,t,q,B,u⟩:=ycV R2.run;have G:=R2.lg;have e:ydR (.loc c.sd) [.tup [yba r,.lst (s.hs.map .int)]] h=some (.non,h.set c.sd (.lst ((s.sd++[(r,s.hs)]).map sdV))):=by rw [yeH R.sds (by grind),map_append];rfl
 have f:=yvE G (by have:=R.len;omega);generalize x:h.set c.sd _=h2 at *;refine ⟨(h2++[Nd.dct [] []]).set c.st (.lst ((c.ly++[h2.length]).map .loc)),{ c with ly:=c.ly++[h2.length] },?_,⟨?_,?_⟩,rfl⟩
 rotate_left
 .have A:=R2.at_;have d:=At.new (.dct [] []) (a:=_::_::_::_::_::_::_::lay c.ly s.dd) A;have b:=At.upd (a:=[_,_,_]) (.lst ((c.ly++[h2.length]).map .loc)) d;unfold RM;rw [yfn _ _ _ _ R.len,append_assoc];exact b
 .rw [length_append,length_append,R.len];rfl
 unfold goE
 simpa [g,i,ycc R.sds,yfw R.held,e,j,ycu,yG (m:="begin") G.ob (rfl),f]
theorem ysK (e:h[n]?=some (.lst (xs++[y]))):yhA (.loc n) [] h=some (y,h.set n (.lst xs)):=by
 unfold yhA;simp only [e];have:(xs++[y])[(xs++[y]).length-1]?=some y:=by simp
 rw [this];simp
theorem ysL (R:RR w rows rest h c s) (L:okS s=true) (O:s.sd.length≠0):∃ h' c',ob (goS [.val (.loc c.rn),.val (yba .settle)] h) fnK=some (.non,h')/\RR w rows rest h' c' { s with sd:=s.sd.dropLast,dd:=yjN s.dd }/\c'.rn=c.rn:=by
 obtain ⟨h8,o2,o3,U,D⟩:=yhr L;obtain ⟨f1,W,Y,Z,T,f6,H⟩:=ycV R.run;obtain ⟨q,x,E⟩:=yco O;obtain ⟨d1,d,ed⟩:=yco (xs:=s.dd) (by omega);obtain ⟨ds,e,y⟩:=yco (xs:=d1) (by have:=congrArg length ed;simp at this;omega);obtain ⟨B,t,k⟩:=yco (xs:=c.ly) (by have:=R.len;omega);obtain ⟨l,u,o⟩:=yco (xs:=B) (by have a:=R.len;have b:c.ly.length=B.length+1:=(by rw [k];simp);omega);subst o y;have hl:l.length=ds.length:=by have:=R.len;rw [k,ed] at this;simpa using this
 have P:yjN s.dd=ds++[yje d.1 d.2 e.1 e.2]:=by unfold yjN;rw [ed,List.getLast?_concat,List.dropLast_concat,List.getLast?_concat,List.dropLast_concat]
 have es:s.sd.dropLast=q:=by rw [E,List.dropLast_concat]
 rw [P,es];have R2:=R.side q;obtain ⟨g1,g2,I,X,S,g6,g7⟩:=ycV R2.run;have M:yhA (.loc c.sd) [] h=some (sdV x,h.set c.sd (.lst (q.map sdV))):=ysK (by rw [R.sds,E,map_append];rfl);have G:=R2.lg;have A:=R2.at_;generalize hh:h.set c.sd (.lst (q.map sdV))=h2 at *;have f:=by
  unfold RM at A;have n:lay c.ly s.dd=lay l ds++[(u,.dct e.1 e.2),(t,.dct d.1 d.2)]:=by rw [k,ed,append_assoc,append_assoc,yfn _ _ _ _ hl];rfl
  have:∀ z:List (Nat×Nd),(lay l ds++[(u,.dct e.1 e.2),(t,.dct d.1 d.2)])++z=lay l ds++((u,.dct e.1 e.2)::(t,.dct d.1 d.2)::z):=fun z=>by rw [append_assoc];rfl
  simpa only [n,this] using A
 have p:(lay l ds++((u,Nd.dct e.1 e.2)::(t,.dct d.1 d.2)::rest))[l.length]?=some (u,.dct e.1 e.2):=by rw [getElem?_append_right (by rw [yiC _ _ hl];omega),yiC _ _ hl,sub_self];rfl
 have v:(lay l ds++((u,Nd.dct e.1 e.2)::(t,.dct d.1 d.2)::rest))[l.length+1]?=some (t,.dct d.1 d.2):=by rw [getElem?_append_right (by rw [yiC _ _ hl];omega),yiC _ _ hl,Nat.add_sub_cancel_left,List.getElem?_cons_succ,List.getElem?_cons_zero]
 have nu:=f.ne (i:=3) (j:=7+l.length) (by omega) rfl (by rw [show 7+l.length=l.length+7 by omega];exact p);have F:=f.ne (i:=3) (j:=7+(l.length+1)) (by omega) rfl (by rw [show 7+(l.length+1)=(l.length+1)+7 by omega];exact v);have r:=f.ne (i:=7+l.length) (j:=7+(l.length+1)) (by omega) (by rw [show 7+l.length=l.length+7 by omega];exact p) (by rw [show 7+(l.length+1)=(l.length+1)+7 by omega];exact v);have C:=G;rw [k] at C;have J:=ysz C (f.ne (i:=2) (j:=3) (by omega) rfl rfl) (fun z=>nu z.symm) (fun z=>F z.symm) r (f.get (7+l.length) (by rw [show 7+l.length=l.length+7 by omega];exact p)) (f.get (7+(l.length+1)) (by rw [show 7+(l.length+1)=(l.length+1)+7 by omega];exact v)) (by have a:=D e (by rw [ed];simp);have b:=D d (by rw [ed];simp);omega);refine ⟨(h2.set c.st (.lst ((l++[u]).map .loc))).set u (.dct (yje d.1 d.2 e.1 e.2).1 (yje d.1 d.2 e.1 e.2).2),{ c with ly:=l++[u] },?_,⟨?_,by show (l++[u]).length=(ds++[yje d.1 d.2 e.1 e.2]).length;simp [hl]⟩,rfl⟩
 rotate_left
 .have K:=At.upd (a:=[_,_,_]) (.lst ((l++[u]).map .loc)) f;have N:=At.upd (a:=_::_::_::_::_::_::_::lay l ds) (.dct (yje d.1 d.2 e.1 e.2).1 (yje d.1 d.2 e.1 e.2).2) (b:=(t,.dct d.1 d.2)::rest) K;unfold RM;show At _ (_::_::_::_::_::_::_::(lay (l++[u]) (ds++[yje d.1 d.2 e.1 e.2])++rest));rw [yfn _ _ _ _ hl,append_assoc];exact N.sub (((((((((List.Sublist.refl _).append (((List.sublist_cons_self _ _)).cons₂ _)).cons₂ _).cons₂ _).cons₂ _).cons₂ _).cons₂ _).cons₂ _).cons₂ _)
 unfold goS
 simpa [H,ycc R.sds,M,I,ycu,yG (m:="settle") G.ob (by rfl'),J]
end
section
variable {w:Int}{rows:List PV}{rest:List (Nat×Nd)}
theorem yvQ (R:RR w rows rest h c s) (b:c.ly=l++[t]) (ed:s.dd=ds++[d]):RR w rows rest (h.set c.st (.lst (l.map .loc))) { c with ly:=l } { s with dd:=ds }:=by
 have hl:l.length=ds.length:=by have:=R.len;simp_all
 refine ⟨?_,hl⟩;have A:=At.upd (a:=[_,_,_]) (.lst (l.map .loc)) R.at_;rw [b,ed,yfn _ _ _ _ hl,append_assoc] at A;exact A.sub (((((((((List.Sublist.refl _).append (List.sublist_cons_self _ _)).cons₂ _).cons₂ _).cons₂ _).cons₂ _).cons₂ _).cons₂ _).cons₂ _)
theorem yHu:∀ (k f:Nat) (h:AH) (c:Lc) (s:RS),RR w rows rest h c s->c.rn=a->s.sd.length=L+k->s.dd.length=s.sd.length+1->k<f ->
  ∃ h' c',whl lvC lvB f [.val (.loc a),.val v1,.val (.int ((L+1:Nat):Int)),.val v3,p4] h=some (.nx [.val (.loc a),.val v1,.val (.int ((L+1:Nat):Int)),.val v3,p4],h')/\RR w rows rest h' c' { s with sd:=s.sd.take L,dd:=s.dd.take (L+1) }/\c'.rn=a:=by
 intro k
 induction k with
 | zero =>
  intro f h c s R n hs D O;obtain ⟨f,rfl⟩:∃ g,f=g+1:=⟨f-1,by omega⟩
  subst n;obtain ⟨E,B,v,K,H,C,b⟩:=ycV R.run;refine ⟨h,c,?_,by rw [List.take_of_length_le (by omega),List.take_of_length_le (by omega)];exact R,rfl⟩;have o:lvC [.val (.loc c.rn),.val v1,.val (.int ((L+1:Nat):Int)),.val v3,p4] h=some (false,h):=by
   have j:ydP [.loc c.sd] h=some (.int s.sd.length,h):=by rw [yer R.sds,length_map]
   have i:oGe (.int (s.sd.length:Nat)) (.int ((L+1:Nat):Int)) h=some (.bl false,h):=by show some (PV.bl (decide (((L+1:Nat):Int)<=(s.sd.length:Nat))),h)=_;rw [decide_eq_false (by omega)]
   simpa [b,j,i]
  rw [yvM,o];rfl
 | succ k ih =>
  intro f h c s R n hs D O;obtain ⟨f,rfl⟩:∃ g,f=g+1:=⟨f-1,by omega⟩
  subst n;obtain ⟨E,B,v,K,H,C,b⟩:=ycV R.run;obtain ⟨q,x,p⟩:=yco (xs:=s.sd) (by omega);obtain ⟨ds,d,ed⟩:=yco (xs:=s.dd) (by omega);obtain ⟨l,t,u⟩:=yco (xs:=c.ly) (by have:=R.len;omega);have W:s.sd.length=q.length+1:=by rw [p];simp
  have P:s.dd.length=ds.length+1:=by rw [ed];simp
  have R2:=R.side q;have M:yhA (.loc c.sd) [] h=some (sdV x,h.set c.sd (.lst (q.map sdV))):=ysK (by rw [R.sds,p,map_append];rfl);have o:lvC [.val (.loc c.rn),.val v1,.val (.int ((L+1:Nat):Int)),.val v3,p4] h=some (true,h):=by
   have j:ydP [.loc c.sd] h=some (.int s.sd.length,h):=by rw [yer R.sds,length_map]
   have i:oGe (.int (s.sd.length:Nat)) (.int ((L+1:Nat):Int)) h=some (.bl true,h):=by show some (PV.bl (decide (((L+1:Nat):Int)<=(s.sd.length:Nat))),h)=_;rw [decide_eq_true (by omega)]
   simpa [b,j,i]
  obtain ⟨X,U,y,T,Y,Z,S⟩:=ycV R2.run;have G:=R2.lg;have r:=G;rw [u] at r;have N:=yzt r;have F:=yvQ R2 u ed;have J:lvB [.val (.loc c.rn),.val v1,.val (.int ((L+1:Nat):Int)),.val v3,p4] h=some (.nx [.val (.loc c.rn),.val v1,.val (.int ((L+1:Nat):Int)),.val v3,p4],(h.set c.sd (.lst (q.map sdV))).set c.st (.lst (l.map .loc))):=by
   generalize h.set c.sd (.lst (q.map sdV))=h2 at *
   simpa [b,ycc R.sds,M,y,ycu,yG (m:="drop") G.ob (by rfl'),N]
  obtain ⟨h',c',I,A,z⟩:=ih f _ _ _ F rfl (by show q.length=L+k;omega) (by show ds.length=q.length+1;omega) (by omega);refine ⟨h',c',?_,?_,z⟩
  .rw [yvM,o,ybE,if_pos rfl,J,ybE];exact I
  .rw [p,ed,List.take_append_of_le_length (by omega),List.take_append_of_le_length (by omega)];exact A
end
section
variable {h:AH}{w:Int}{rows:List PV}{rest:List (Nat×Nd)}{c:Lc}{s:RS}
theorem RR.newh (R:RR w rows rest h c s) q:RR w rows rest ((h++[Nd.lst (q.map .int)]).set c.rn (ykI h.length w c.lg rows s.t c.sn c.sd)) { c with hl:=h.length } { s with hs:=q }:=by refine ⟨?_,R.len⟩;have A:=At.new (.lst (q.map .int)) (a:=[_]) R.at_;have b:=At.upd (a:=[]) (ykI h.length w c.lg rows s.t c.sn c.sd) A;exact b.sub ((List.Sublist.cons _ (List.Sublist.refl _)).cons₂ _ |>.cons₂ _)
theorem yCU (a:ygD b=true):ybF (yba b) (.int (-1)) h=some (.int (toB b),h):=by cases b<;>first|(cases a;done)|kernel_rfl!
theorem ypm (R:RR w rows rest h c s) (A:okS s=true) (t:yvK r=true) (o:tkL s.sd r s.sd.length=L+1) (a:s.sd[L]?=some x) :
  ∃ h' c',ycy [.loc c.rn,yba r] h=some (yba x.1,h')/\RR w rows rest h' c' ⟨(toB x.1).toNat,x.2,s.sd.take L,s.dd.take (L+1),s.sn⟩/\c'.rn=c.rn:=by
 obtain ⟨K,o2,N,g,G⟩:=yhr A;obtain ⟨I,O,F,M,H,J,z⟩:=ycV R.run;have E:L<s.sd.length:=(List.getElem?_eq_some_iff.mp a).1;obtain ⟨k,u,P⟩:=g x (mem_of_getElem? a);obtain ⟨h1,d,f,e,i⟩:=yHu (v1:=yba r) (v3:=sdV x) (p4:=.no) (L:=L) (s.sd.length-L) 1000 h c s R rfl (by omega) o2 (by omega);have f:yfI 1000 lvC lvB _ h=_:=f;have k0:0<=toB x.1:=by revert k u;cases x.1<;>simp [ygD,okR,toB]
 have R2:=e.newh x.2;rw [i] at R2;have D:=R2.to (toB x.1).toNat;refine ⟨_,_,?_,D,rfl⟩;have y:ybd (.loc c.sd) (.int (((L+1:Nat):Int)-1)) h=some (sdV x,h):=by unfold ybd;simp only [R.sds];rw [show ((L+1:Nat):Int)-1=(L:Nat) by omega,ycR (by rw [getElem?_map,a];rfl)]
 have v:∀ h,ybF (sdV x) (.int 0) h=some (yba x.1,h):=fun _=>rfl
 have q:∀ h,ybF (sdV x) (.int 1) h=some (.lst (x.2.map .int),h):=fun _=>rfl
 have l:=ypl R.run R.sds (fun x a=>(g x a).1) t (by omega);rw [o] at l;have B:(h1++[Nd.lst (x.2.map .int)])[c.rn]?=some (ykI d.hl w d.lg rows s.t d.sn d.sd):=by rw [<- i,getElem?_append_left (List.getElem?_eq_some_iff.mp e.run).1];exact e.run
 have p:=yvN (j:=h1.length) (ρ:=[.val (.loc c.rn),.val (yba r),.val (.int ((L+1:Nat):Int)),.val (sdV x),.val (yba x.1)]) B;have n:=ymt (j:=toB x.1) (ρ:=[.val (.loc c.rn),.val (yba r),.val (.int ((L+1:Nat):Int)),.val (sdV x),.val (yba x.1)]) R2.run;have C:=fun h=>yCU (h:=h) k
 unfold ycy;rw [yo];show ob (yl _ (yl _ (yl (yfI 1000 lvC lvB) _)) [.val (.loc c.rn),.val (yba r),.no,.no,.no] h) fnK=_
 simpa [ycu,yG (m:="taker_layer") R.run (by rfl'),l,z,y,f,v,q,yqw,p,C,n]
 rw [show (((toB x.1).toNat:Nat):Int)=toB x.1 by omega]
theorem yzD (R:RR w rows rest h c s) (b:rows[s.t]?=some (yba .wait)) (f:okS s=true) (i:tkL s.sd .wait s.sd.length=L+1) (d:s.sd[L]?=some x) :
  ∃ h' c',ycs [.loc c.rn] h=some (.non,h')/\RR w rows rest h' c' ⟨(toB x.1).toNat,x.2,s.sd.take L,s.dd.take (L+1),s.sn⟩/\c'.rn=c.rn:=by
 have a:=R.to (s.t+1);obtain ⟨h',c',g,e,j⟩:=ypm a f rfl i d;refine ⟨h',c',?_,e,j⟩;rw [yjo R.run b,yzz];show dk (mK 12 _ ycy _ _ _ _) _=_;rw [yG a.run (rfl)];show dk (ycy _ _) _=_;rw [g];rfl
theorem yvR (R:RR w rows rest h c s) (r:rows[s.t]?=some (yba (.throw a b))) (t:b∈SL) (p:okS s=true) (D:tkL s.sd (.throw a b) s.sd.length=L+1) (n:s.sd[L]?=some x) (g:yhp x.1 (.throw a b)=true) :
  ∃ h' c',ycs [.loc c.rn] h=some (.non,h')/\RR w rows rest h' c' ⟨(toB x.1).toNat,x.2.set (sx (slB x.1)) (s.hs.getD (sx b) 0),s.sd.take L,s.dd.take (L+1),s.sn⟩/\c'.rn=c.rn:=by
 have d:=R.to (s.t+1);obtain ⟨A,o2,F,B,E⟩:=yhr p;obtain ⟨G,l,C⟩:=B x (mem_of_getElem? n);obtain ⟨h',c',q,f,o⟩:=ypm d p rfl D n;obtain ⟨nm,e,k,j⟩:∃ nm e k,x.1=.guard nm e k:=by revert g;cases x.1<;>first|(intro g;cases g;done)|exact fun _=>⟨_,_,_,rfl⟩
 have hs:e∈SL:=by rw [j] at l;unfold okR at l;simp_all
 have i:=yiB (v:=s.hs.getD (sx b) 0) f.run f.held C hs;rw [j] at q f i ⊢;refine ⟨_,c',?_,f.hold _,o⟩;have u:=ydq d.run d.held A t;have z:∀ h,ybF (yba (.throw a b)) (.int 2) h=some _:=fun _=>rfl
 have y:∀ h,ybF (yba (.guard nm e k)) (.int 2) h=some _:=fun _=>rfl
 have r2:=f.run;rw [o] at r2 i;rw [yjo R.run r,yvO];show dk (mK 12 "throw" ycT _ _ _ _) _=_;rw [yG d.run (rfl)];show dk (ycT _ _) _=_;have:ycT [.loc c.rn,yba (.throw a b)] (h.set c.rn (ykI c.hl w c.lg rows (s.t+1:Nat) c.sn c.sd))=some (.non,h'.set c'.hl (.lst ((x.2.set (sx e) (s.hs.getD (sx b) 0)).map .int))):=by
  unfold ycT;rw [yo];show ob (yl _ _ [.val _,.val _,.no,.no] _) fnK=_
  simpa [ycu,yG (m:="held_in") d.run (rfl),yG (m:="leave") d.run (rfl),yG (m:="hold") r2 (rfl),z,y,u,q,i]
 rw [this];rfl
end
local macro_rules | `(tactic| walk_at "pw")=>`(tactic| simpa [$(sl_ "ykB yjn ymq ykC ykD ykE ymr ykF ykG yms if_true if_false"),*])
section
variable {h:AH}{w:Int}{rows:List PV}{rest:List (Nat×Nd)}{c:Lc}{s s':RS}{r:Rw}
theorem ykJ {sd:List _}:∀ {k L:Nat},tkL sd r k=L+1->∃ x,sd[L]?=some x/\yhp x.1 r=true
 | k+1,L,e=>by
  unfold tkL at e;split at e
  .split at e
   .cases e;simp_all
   .exact ykJ e
  .cases e
theorem yCV (R:RR w rows rest h c s):yev [.loc c.lg,.int (s.hs.getD (sx p) 0%w)] h=some (ysH s w p,h):=by rw [yCJ R.lg,R.len];rfl
theorem yzE {r p:Str}:yH [x,yba (.take r p)] h=dk (mK 12 "take_own" ycx (fun _ h1=>some ([.str r,.str p],h1)) [] x h) [.val x,.val (yba (.take r p))]:=by kernel_rfl!
theorem ynW {r p:Str}(R:RR w rows rest h c s) (d:r∈SL) (hp:p∈SL) (b:s.hs.length=8) (f:1<=w) (ev:ysH s w p=.int v):ycx [.loc c.rn,.str r,.str p] h=some (.non,h.set c.hl (.lst ((s.hs.set (sx r) v).map .int))):=by
 obtain ⟨l,j,e,g,n,k,i⟩:=ycV R.run;have o:=yCV (p:=p) R;rw [ev] at o;unfold ycx;rw [yo];show ob (yW _ [.val _,.val _,.val _] h) fnK=_
 simpa [ycu,e,yG (m:="hold") R.run (by rfl'),yG (m:="own") R.lg.ob (rfl),yG (m:="box_at") R.run (by rfl'),yfl R.run R.held b hp f,o,yiB R.run R.held b d]
theorem yzF (R:RR w rows rest h c s) (hp:p∈SL) (b:s.hs.length=8) (d:1<=w):ydt [.loc c.rn,.str p] h=some (.bl (isN (ysH s w p)),h):=by
 obtain ⟨j,i,e,l,g,k,f⟩:=ycV R.run;unfold ydt;rw [yo];show ob (yQ _ [.val _,.val _] h) fnK=_
 simpa [ycu,e,yG (m:="own") R.lg.ob (by rfl'),yG (m:="box_at") R.run (by rfl'),yfl R.run R.held b hp d,yCV R]
theorem yzG {r p:Str}(R:RR w rows rest h c s) (d:rows[s.t]?=some (yba (.take r p))) (g:r∈SL) (hp:p∈SL) (e:s.hs.length=8) (f:1<=w) (ev:ysH s w p=.int v):∃ h',ycs [.loc c.rn] h=some (.non,h')/\RR w rows rest h' c ⟨s.t+1,s.hs.set (sx r) v,s.sd,s.dd,s.sn⟩:=by have a:=R.to (s.t+1);refine ⟨_,?_,a.hold _⟩;rw [yjo R.run d,yzy];show dk (mK 12 _ yH _ _ _ _) _=_;rw [yG a.run (by rfl')];show dk (yH _ _) _=_;rw [yzE,yG a.run (rfl),ybE,ynW a g hp e f ev];rfl
theorem yFI {w:Str}(b:w∈W5) (d:0<=x/\x<B64):yhR [.str w,.int x,.int y] h=some (.int (rk w x y),h):=by
 have a:MulOk x y:=.inl ⟨by omega,d.2⟩;unfold yhR;rw [yo];show ob (yl _ _ [.val _,.val _,.val _] h) fnK=_;unfold rk;rcases yxl b with rfl|rfl|rfl|rfl|rfl
 .kernel_rfl!
 .kernel_rfl!
 .walk_at "pw";rw [if_pos a]
 .walk_at "pw";split<;>rfl
 .walk_at "pw";split<;>rfl
theorem ymu {v r p q:Str}(R:RR w rows rest h c s) (d:v∈W5) (g:r∈SL) (hp:p∈SL) (e:q∈SL) (b:s.hs.length=8) (f:0<=s.hs.getD (sx p) 0/\s.hs.getD (sx p) 0<B64):ycm [.loc c.rn,.str v,.str r,.str p,.str q] h=some (.non,h.set c.hl (.lst ((s.hs.set (sx r) (rk v (s.hs.getD (sx p) 0) (s.hs.getD (sx q) 0))).map .int))):=by
 unfold ycm;rw [yo];show ob (yW _ [.val _,.val _,.val _,.val _,.val _] h) fnK=_
 simpa [ycu,yG (m:="hold") R.run (by rfl'),yG (m:="held_in") R.run (by rfl'),ydq R.run R.held b hp,ydq R.run R.held b e,yFI d f,yiB R.run R.held b g]
theorem ysM {v r p q:Str}(g:v∈W5):yH [x,yba (.reckon v r p q)] h=dk (mK 12 "do_reckon" ycm (fun _ h1=>some ([.str v,.str r,.str p,.str q],h1)) [] x h) [.val x,.val (yba (.reckon v r p q))]:=by
 rcases yxl g with rfl|rfl|rfl|rfl|rfl
 all_goals kernel_rfl!
theorem ysN {v r p q:Str}(R:RR w rows rest h c s) (i:rows[s.t]?=some (yba (.reckon v r p q))) (b:v∈W5) (g:r∈SL) (hp:p∈SL) (f:q∈SL) (d:s.hs.length=8) (e:0<=s.hs.getD (sx p) 0/\s.hs.getD (sx p) 0<B64):∃ h',ycs [.loc c.rn] h=some (.non,h')/\RR w rows rest h' c ⟨s.t+1,s.hs.set (sx r) (rk v (s.hs.getD (sx p) 0) (s.hs.getD (sx q) 0)),s.sd,s.dd,s.sn⟩:=by have a:=R.to (s.t+1);refine ⟨_,?_,a.hold _⟩;rw [yjo R.run i,ysG b];show dk (mK 12 _ yH _ _ _ _) _=_;rw [yG a.run (rfl)];show dk (yH _ _) _=_;rw [ysM b,yG a.run (rfl),ybE,ymu a b g hp f d e];rfl
theorem yzH (R:RR w rows rest h c s) (g:rows[s.t]?=some (yba r)) (u:1<=w) (e:yqe w r s=some s'):∃ h' c',ycs [.loc c.rn] h=some (.non,h')/\RR w rows rest h' c' s'/\c'.rn=c.rn:=by
 unfold yqe at e;split at e
 .rename_i t;obtain ⟨k1,j⟩:=Bool.and_eq_true_iff.mp t;obtain ⟨l,o2,G,I,H⟩:=yhr j;have z:∀ b:Rw,(∀ x h,goB [.val x,.val (yba b)] h=goE [.val x,.val (yba b)] h)->rows[s.t]?=some (yba b)->∃ h' c',ycs [.loc c.rn] h=some (.non,h')/\RR w rows rest h' c' ⟨s.t+1,s.hs,s.sd++[(b,s.hs)],s.dd++[([],[])],s.sn⟩/\c'.rn=c.rn:=fun b C g=>by obtain ⟨h',c',d,f,o⟩:=yCT (r:=b) (R.to (s.t+1)) G o2;exact ⟨h',c',by rw [yjo R.run g,C,d],f,o⟩
  cases r with
  | let_ a n =>
   cases e;obtain ⟨h',d,f⟩:=yCR R g (by simpa [okR] using k1) l;exact ⟨h',c,d,f,rfl⟩
  | put p a =>
   cases e;obtain ⟨k2,k3⟩:p∈SL/\a∈SL:=by simpa [okR] using k1
   obtain ⟨h',d,f⟩:=yCS R g k2 k3 u j;exact ⟨h',c,d,f,rfl⟩
  | take p a =>
   obtain ⟨k2,k3⟩:p∈SL/\a∈SL:=by simpa [okR] using k1
   dsimp only at e;split at e
   .rename_i v B;cases e;obtain ⟨h',d,f⟩:=yzG R g k2 k3 l u B;exact ⟨h',c,d,f,rfl⟩
   .cases e
  | jump k =>
   cases e;obtain ⟨h',d,f⟩:=yzB R g (by simpa [okR] using k1);exact ⟨h',c,d,f,rfl⟩
  | unl r k =>
   cases e;obtain ⟨k2,k3⟩:r∈SL/\0<=k:=by simpa [okR] using k1
   obtain ⟨h',d,f⟩:=ysI R g k2 l k3;exact ⟨h',c,d,f,rfl⟩
  | either k=>cases e;exact z _ (fun _ _=>ysD) g
  | guard a b k=>cases e;exact z _ (fun _ _=>yvP) g
  | settle =>
   dsimp only at e;split at e
   .cases e
   .rename_i D;cases e;obtain ⟨h',c',d,f,o⟩:=ysL (R.to (s.t+1)) j D;exact ⟨h',c',by rw [yjo R.run g,ysE,d],f,o⟩
  | reckon v a p q =>
   dsimp only at e;split at e
   .rename_i i;cases e;obtain ⟨⟨⟨k2,k3⟩,F⟩,k5⟩:((v∈W5/\a∈SL)/\p∈SL)/\q∈SL:=by simpa [okR] using k1
    obtain ⟨h',d,f⟩:=ysN R g k2 k3 F k5 l i;exact ⟨h',c,d,f,rfl⟩
   .cases e
  | lay=>cases e
  | wait =>
   dsimp only at e;unfold yjO at e;split at e
   .cases e
   .rename_i L m;split at e
    .rename_i x i;cases e;exact yzD R g j m i
    .cases e
  | throw a b =>
   dsimp only at e;unfold yjO at e;split at e
   .cases e
   .rename_i L m;split at e
    .rename_i x i;cases e;obtain ⟨y,A,E⟩:=ykJ m;rw [i] at A;cases A;exact yvR R g (by simpa [okR] using k1) j m i E
    .cases e
 .cases e
def yhD (w:Int) (s:RS):Rw->Bool
 | .take _ p=>isN (ysH s w p)
 | .wait=>decide (((tkL s.sd .wait s.sd.length:Nat):Int)=0)
 | .throw a b=>decide (((tkL s.sd (.throw a b) s.sd.length:Nat):Int)=0)
 | .lay=>true
 | _=>false
theorem ynX (R:RR w rows rest h c s) (i:rows[s.t]?=some (yba r)) (n:okS s=true) (f:okR r=true) (o:1<=w):ybD [.loc c.rn] h=some (.bl (yhD w s r),h):=by
 obtain ⟨j,o2,A,k,z⟩:=yhr n;rw [yzx R.run i];have g:∀ b:Rw,yvK b=true->loB _ h=ob (yQ (xOp (oEq) (M2 "taker_layer" ybK) (xC (.int 0))) [.val (.loc c.rn),.val (yba b)] h) (sqK (yQ (xOp (oEq) (xOp (ybF) (ye 1) (xC (.int 0))) (xC (.str "lay")))))->ob (loB [.val (.loc c.rn),.val (yba b)] h) fnK=some (.bl (decide (((tkL s.sd b s.sd.length:Nat):Int)=0)),h):=fun b t e=>by
  rw [e]
  simpa [ycu,yG (m:="taker_layer") R.run (by rfl'),ypl R.run R.sds (fun x l=>(k x l).1) t (by omega)]
 cases r with
 | wait=>exact g .wait rfl (by kernel_rfl!)
 | throw a b=>exact g (.throw a b) rfl (by kernel_rfl!)
 | take a p =>
  obtain ⟨k2,k3⟩:a∈SL/\p∈SL:=by simpa [okR] using f
  have u:∀ h,ybF (yba (.take a p)) (.int 0) h=some _:=fun _=>rfl
  have y:∀ h,ybF (yba (.take a p)) (.int 2) h=some (.str p,h):=fun _=>rfl
  unfold loB
  simpa [ycu,u,y,yG (m:="sees_at") R.run (by rfl'),yzF R k3 j o]
  rfl
 | reckon v a p q =>
  obtain ⟨⟨⟨k2,_⟩,_⟩,_⟩:((v∈W5/\a∈SL)/\p∈SL)/\q∈SL:=by simpa [okR] using f
  rcases yxl k2 with rfl|rfl|rfl|rfl|rfl<;>kernel_rfl!
 | _=>kernel_rfl!
end
noncomputable def stB (m:List (Nat×Int×Int)) (sp:List Int):Bool:=(m.map fun p=>!decide (sp.getD p.1 0=p.2.2)).any id
theorem yCW:∀ {m:List _}{p:Nat×Int×Int},(m.map (·.1)).Nodup->p∈m->ykp (sK m) (m.map f) (.inl p.1)=some (f p)
 | q::m,p,c,hp=>by
  show (if (Sum.inl _:Key)=.inl _ then some _ else ykp _ _ _)=_;obtain ⟨d,b⟩:=List.nodup_cons.mp c;rcases mem_cons.mp hp with rfl|hp
  .rw [if_pos rfl]
  .rw [if_neg _]
   .exact yCW b hp
   grind
theorem ykK {Y:Type} f:∀ l:List Y,ykk (l.map fun a=>PV.bl (f a))=some (l.map f)
 | []=>rfl
 | a::l=>by
  show ykk (PV.bl _::l.map _)=some _;unfold ykk;simp only [ykK f l]
  try rfl
theorem yzI {f:Nat×Int×Int->PV}{k:Nat}{a b:Int}{m:List _}(d:f (k,a,b)=v):ydA (sK m) (m.map f) (.inl (k:Int)) v=(sK (yfm m k a b),(yfm m k a b).map f):=by
 have g:∀ m,yrL (sK m) (.inl (k:Int))=decide (k∈m.map (·.1)):=by
  intro m
  induction m with
  | nil=>rfl
  | cons q m ih =>
   show (if (Sum.inl (q.1:Int):Key)=.inl (k:Int) then true else yrL (sK m) _)=_;rw [ih]
   by_cases e:q.1=k
   .simp_all
   .rw [if_neg (fun z=>e (by have:=Sum.inl.inj z;omega))];simp [Ne.symm e]
 have h:∀ m,setK (sK m) (m.map f) (.inl (k:Int)) v=(m.map fun p=>if p.1=k then (k,a,b) else p).map f:=by
  intro m
  induction m with
  | nil=>rfl
  | cons q m ih =>
   show (if (Sum.inl (q.1:Int):Key)=.inl (k:Int) then v::setK (sK m) (m.map f) _ v else f q::setK (sK m) (m.map f) _ v)=f (if q.1=k then (k,a,b) else q)::_;rw [ih]
   by_cases e:q.1=k
   .rw [if_pos (by rw [e]),if_pos e,d]
   .rw [if_neg (fun z=>e (by have:=Sum.inl.inj z;omega)),if_neg e]
 unfold ydA yfm;rw [g]
 by_cases e:k∈m.map (·.1)
 .rw [if_pos (decide_eq_true e),if_pos e,h];refine Prod.ext ?_ rfl;show sK m=(m.map _).map _;rw [map_map];refine List.map_congr_left fun p _=>?_
  show _=(Sum.inl (((if p.1=k then (k,a,b) else p).1:Nat):Int):Key)
  split
  .rename_i e;rw [e]
  .rfl
 .rw [if_neg (by simp [e]),if_neg e,map_append];unfold sK;rw [map_append,<- d];rfl
section
variable {h:AH}{w:Int}{rows:List PV}{rest:List (Nat×Nd)}{c:Lc}{s s':RS}{r:Rw}{sp bx:List Int}{ma nu:Nat}
theorem ykL (R:RR w rows rest h c s) (g:(ma,.lst (sp.map .int))∈rest) (j:(s.sn.map (·.1)).Nodup) (i:∀ p∈s.sn,p.1<sp.length) (hl:s.sn.length<=900):ycM [.loc c.rn,.loc ma] h=some (.bl (stB s.sn sp),h):=by
 obtain ⟨z,F,u,x,y,k,E⟩:=ycV R.run;have e:=R.at_.get 5 rfl;have A:=At.upd (a:=[_,_,_,_,_]) (.fz (sK s.sn) (sB s.sn)) R.at_;have f:=A.2 (ma,.lst (sp.map .int)) (by simp [g]);obtain ⟨H,G,C,v,B,t,D⟩:=ycV (A.get 0 rfl);have en:=A.get 5 rfl;have b:(h.set c.sn (.fz (sK s.sn) (sB s.sn))).set c.sn (.dct (sK s.sn) (sB s.sn))=h:=by rw [List.set_set];obtain ⟨I,q⟩:=List.getElem?_eq_some_iff.mp e;rw [<- q,List.set_getElem_self]
 have o:yll (xOp (oNe) (xOp (ybd) (ye 1) (ye 0)) (yii (ybc [12] "seen_stamps" (ye 2)) (ye 0))) (yfC [1,0] [.val (.loc c.rn),.val (.loc ma)]) ((sK s.sn).map ynN) (h.set c.sn (.fz (sK s.sn) (sB s.sn)))=some (s.sn.map (fun p=>.bl (!decide (sp.getD p.1 0=p.2.2))),h.set c.sn (.fz (sK s.sn) (sB s.sn))):=by
  generalize h.set c.sn _=h1 at *;show yll _ _ ((s.sn.map _).map ynN) _=_;rw [map_map];refine ygb _ _ fun p hp=>?_
  show xOp _ _ _ [.val (.int (p.1:Int)),.val (.loc ma),.val (.loc c.rn)] _=_;have m:=ygh f (i p hp);have d:yii (ybc [12] "seen_stamps" (ye 2)) (ye 0) [.val (.int (p.1:Int)),.val (.loc ma),.val (.loc c.rn)] h1=some (.int p.2.2,h1):=by
   unfold yii
   simpa [t]
   unfold yyS;simp only [en,keyOf];unfold sB;rw [yCW j hp]
  simpa [m,d]
 have n:∀ h,yxc [.lst (s.sn.map (fun p=>PV.bl _))] h=some (.bl (stB s.sn sp),h):=fun h=>by unfold yxc ybr;simp only [ykK _];rfl
 have l:yjI (ybc [12] "seen_stamps" (ye 0)) [1,0] (xOp (oNe) (xOp (ybd) (ye 1) (ye 0)) (yii (ybc [12] "seen_stamps" (ye 2)) (ye 0))) [.val (.loc c.rn),.val (.loc ma)] h=some (.lst (s.sn.map (fun p=>.bl (!decide (sp.getD p.1 0=p.2.2)))),h):=by
  unfold yjI
  simpa [k]
  simp only [e];rw [if_pos (by unfold sK;rw [length_map];omega),o,ybE,b]
 unfold ycM;rw [yo];show ob (yQ _ [.val (.loc c.rn),.val (.loc ma)] h) fnK=_
 simpa [l,n]
theorem RR.see (R:RR w rows rest h c s) k a b:RR w rows rest ((h.set c.sn (.dct (sK (yfm s.sn k a b)) (sB (yfm s.sn k a b)))).set c.ls (.dct (sK (yfm s.sn k a b)) (sA (yfm s.sn k a b)))) c { s with sn:=yfm s.sn k a b }:=by have A:=At.upd (a:=[_,_,_,_,_]) (.dct (sK (yfm s.sn k a b)) (sB (yfm s.sn k a b))) R.at_;exact ⟨At.upd (a:=[_,_,_,_]) _ A,R.len⟩
theorem yCX (d:h[o]?=some (.ins 11 ["stack","last_seen"] [.loc st,.loc b])) (a:h[b]?=some (.dct ks xs)) (hl:ks.length<1000):ygy [.loc o,.int i,v] h=some (.non,h.set b (.dct (ydA ks xs (.inl i) v).1 (ydA ks xs (.inl i) v).2)):=by unfold ygy;rw [yo];show ob (yks _ _ _ _ h) fnK=_;rw [ykH rfl (by rw [ykm,show ye 0 _ h=some _ from rfl,ybE,ysw d]) rfl a hl];rfl
theorem ynY (R:RR w rows rest h c s) (U:rows[s.t]?=some (yba (.take a p))) (H:(ma,.lst (sp.map .int))∈rest) (E:(nu,.lst (bx.map .int))∈rest) (q:s.hs.length=8) (I:a∈SL) (hp:p∈SL) (y:1<=w) (D:s.hs.getD (sx p) 0%w=(k:Nat)) (t:k<sp.length) (o:k<bx.length) (hl:s.sn.length<=900) :
  ∃ h',ydu [.loc c.rn,.loc nu,.loc ma] h=some (.int (k:Nat),h')/\RR w rows rest h' c ⟨s.t+1,s.hs.set (sx a) (bx.getD k 0),s.sd,s.dd,yfm s.sn k (bx.getD k 0) (sp.getD k 0)⟩:=by
 have g:=R.see k (bx.getD k 0) (sp.getD k 0);have R2:=g.hold (s.hs.set (sx a) (bx.getD k 0));refine ⟨_,?_,R2.to (s.t+1)⟩;obtain ⟨W,Z,f3,f4,X,T,Y⟩:=ycV R.run;have e:=At.upd (a:=[_,_,_,_,_]) (.dct (sK (yfm s.sn k (bx.getD k 0) (sp.getD k 0))) (sB (yfm s.sn k (bx.getD k 0) (sp.getD k 0)))) R.at_;have J:ybd (.loc ma) (.int (k:Nat)) h=some (.int (sp.getD k 0),h):=ygh (R.at_.2 (ma,.lst (sp.map .int)) (by unfold RM;simp [H])) t;have N:∀ h,ybF (yba (.take a p)) (.int 1) h=some (.str a,h):=fun _=>rfl
 have S:∀ h,ybF (yba (.take a p)) (.int 2) h=some (.str p,h):=fun _=>rfl
 have C:=yfl R.run R.held q hp y;rw [D] at C;have G:(sK s.sn).length<1000:=by unfold sK;rw [length_map];omega
 have d1:=ykH (h:=h) (n:=c.sn) (i:=(k:Nat)) (x:=.int (sp.getD k 0)) (ed:=ybc [12] "seen_stamps" (ye 0)) (ek:=ye 4) (ev:=xOp (ybd) (ye 2) (ye 4)) (ρ:=[.val (.loc c.rn),.val (.loc nu),.val (.loc ma),.val (yba (.take a p)),.val (.int (k:Nat))]) (by simpa [J]) (by simpa [T]) rfl (R.at_.get 5 rfl) G;rw [show sB s.sn=s.sn.map (fun p=>.int p.2.2) from rfl,yzI (f:=fun p=>.int p.2.2) (a:=bx.getD k 0) (b:=sp.getD k 0) rfl] at d1;have F:=e.get 0 rfl;have ts:ycP [.loc c.rn,.str a,.str p,.loc nu] (h.set c.sn (.dct (sK (yfm s.sn k (bx.getD k 0) (sp.getD k 0))) (sB (yfm s.sn k (bx.getD k 0) (sp.getD k 0)))))=some (.non,((h.set c.sn (.dct (sK (yfm s.sn k (bx.getD k 0) (sp.getD k 0))) (sB (yfm s.sn k (bx.getD k 0) (sp.getD k 0))))).set c.ls (.dct (sK (yfm s.sn k (bx.getD k 0) (sp.getD k 0))) (sA (yfm s.sn k (bx.getD k 0) (sp.getD k 0))))).set c.hl (.lst ((s.hs.set (sx a) (bx.getD k 0)).map .int))):=by
  have B:=yfl (r:=p) (e.get 0 rfl) (e.get 1 rfl) q hp y;rw [D] at B;have K:=(ycV (e.get 0 rfl)).2.2.1;have s1:=yCX (i:=(k:Nat)) (v:=.int (bx.getD k 0)) (e.get 2 rfl) (e.get 4 rfl) G;rw [show sA s.sn=s.sn.map (fun p=>.int p.2.1) from rfl,yzI (f:=fun p=>.int p.2.1) (a:=bx.getD k 0) (b:=sp.getD k 0) rfl] at s1;have O:=ygh (e.2 (nu,.lst (bx.map .int)) (by simp [E])) o;have P:=ygh (g.at_.2 (nu,.lst (bx.map .int)) (by unfold RM;simp [E])) o;have L:=e.get 2 rfl;have A:=yiB (v:=bx.getD k 0) g.run g.held q I;have r2:=g.run;dsimp only at A r2;change _=some (PV.non,(h.set c.sn _).set c.ls (.dct (sK (yfm s.sn k (bx.getD k 0) (sp.getD k 0))) (sA (yfm s.sn k (bx.getD k 0) (sp.getD k 0))))) at s1;generalize (h.set c.sn _)=h1 at *;unfold ycP;rw [yo];show ob (yl _ _ [.val (.loc c.rn),.val (.str a),.val (.str p),.val (.loc nu),.no] h1) fnK=_
  simpa [ycu,yG (m:="box_at") F (by rfl'),B,K,yG (m:="see") L (by rfl'),O,s1,yG (m:="hold") r2 (by rfl'),P,A]
 have M:=R2.run;have l:=(ycV R2.run).2.2.2.2.1;have u:=fun ρ=>ymt (j:=((s.t+1:Nat):Int)) (ρ:=ρ) R2.run
 have z:((s.t:Nat):Int)+1=((s.t+1:Nat):Int):=by omega
 dsimp only at l u M;change _=some (Out.nx _,h.set c.sn (.dct (sK (yfm s.sn k (bx.getD k 0) (sp.getD k 0))) (sB (yfm s.sn k (bx.getD k 0) (sp.getD k 0))))) at d1;unfold ydu;rw [yo];show ob (yl _ _ [.val (.loc c.rn),.val (.loc nu),.val (.loc ma),.no,.no] h) fnK=_
 simpa [ycu,yG (m:="row") R.run (by rfl'),yiA R.run rfl U,N,S,yG (m:="box_at") R.run (by rfl'),C,d1,yG (m:="take_seen") F (by rfl'),ts,yqw,l,z,u]
end
structure HC where
 H:Nat
 nu:Nat
 ma:Nat
 cr:Nat
 en:Nat
structure HQ where
 bx:List Int
 sp:List Int
 en:List PV
 cw:List Nat
 i:Nat
 hd:Nat
 ds:List PV
 nth:Nat
 sl:Bool
 bf:List Int
def HL (g:HC) (rn:Nat) (w:Int) (q:HQ) (own:List (Nat×Nd)):List (Nat×Nd) :=
 (g.H,ynU g.nu g.ma g.cr g.en)::(g.nu,.lst (q.bx.map .int))::(g.ma,.lst (q.sp.map .int))::(g.cr,.lst (q.cw.map .loc))::(g.en,.lst q.en)::(q.hd,ydU q.ds w q.nth q.sl q.bf rn)::own
structure NF (W:Nat) (s:RS):Prop where
 nd:(s.sn.map (·.1)).Nodup
 hb:∀ p∈s.sn,p.1<W
 hl:s.sn.length<=900
noncomputable def stN (q:HQ):Str:=if q.nth=q.ds.length then "ended" else if q.sl=true then "asleep" else "awake"
section
variable {h:AH}{w:Int}{rows:List PV}{c:Lc}{s s':RS}{r:Rw}{g:HC}{q:HQ}{own:List (Nat×Nd)}{rn:Nat}
theorem RR.rest (R:RR w rows m h c s):At h m:=by have A:=R.at_;exact At.sub A (List.sublist_append_right (_::_::_::_::_::_::_::lay c.ly s.dd) m)
theorem ynZ (A:At h (HL g rn w q own)) (a:q.cw[q.i]?=some q.hd):ybd (.loc g.cr) (.int q.i) h=some (.loc q.hd,h):=by have e:=A.get 3 rfl;unfold ybd;simp only [e];rw [ycR (by rw [getElem?_map,a];rfl)]
theorem yeB (A:At h (HL g rn w q own)) (a:q.cw[q.i]?=some q.hd):ybe [.loc g.H,.int q.i] h=some (.loc q.hd,h):=by
 obtain ⟨l,m,f,k⟩:=ydi (A.get 0 rfl);have e:=A.get 3 rfl;have b:yex [.int q.i] h=some (.bl true,h):=rfl;have d:=ynZ A a;have lt:=(List.getElem?_eq_some_iff.mp a).1;have i:((0:Int)<=q.i)=True:=eq_true (by omega);have j:((q.i:Int)<(q.cw.map PV.loc).length)=True:=eq_true (by simp_all);unfold ybe;rw [yo];show ob (yl _ _ [.val _,.val _] h) fnK=_
 simpa [f,yer e,b,d,i,j]
theorem yfA (A:At h (HL g rn w q own)):ycz [.loc q.hd] h=some (.str (stN q),h):=by
 obtain ⟨d,i,b,f,j,k⟩:=ydj (A.get 5 rfl);unfold ycz stN;rw [yo];show ob (yl _ _ [.val _] h) fnK=_
 by_cases e:q.nth=q.ds.length
 .have a:=by omega
  rw [if_pos e]
  simpa [b,d,a]
 .have a:((q.nth:Int)=q.ds.length)=False:=eq_false (by omega);rw [if_neg e]
  simpa [b,d,f,a]
  cases q.sl<;>rfl
theorem awake (a:q.nth<q.ds.length) (hs:q.sl=false):stN q = "awake":=by unfold stN;grind
theorem ysO (A:At h (HL g rn w q own)) (a:q.cw[q.i]?=some q.hd) (hs:(stN q = "awake")=False):yK [.loc g.H,.int q.i] h=some (.tup [.str "idle"],h):=by
 unfold yK;rw [yo];show ob (yl _ _ [.val _,.val _,.no,.no] h) fnK=_
 simpa [ycu,yG (m:="hand_at") (A.get 0 rfl) (rfl),yeB A a,yG (m:="state") (A.get 5 rfl) (rfl),yfA A,hs]
theorem ysP (R:RR w rows (HL g c.rn w q own) h c s) (o:q.cw[q.i]?=some q.hd) (d:rows[s.t]?=some (yba r)) (i:1<=w) (p:q.nth<q.ds.length) (hs:q.sl=false) (t:okS s=true) (b:okR r=true) (a:yhD w s r=false) (e:yqe w r s=some s') :
  ∃ h' c',yK [.loc g.H,.int q.i] h=some (.tup [.str "gone",.int s.t],h')/\RR w rows (HL g c'.rn w q own) h' c' s':=by
 obtain ⟨h',c',k,j,n⟩:=yzH R d i e;refine ⟨h',c',?_,by rw [n];exact j⟩;have A:=R.rest;obtain ⟨x,C,D,B,v,l⟩:=ydj (A.get 5 rfl);obtain ⟨k1,k2,k3,y,k5,u,z⟩:=ycV R.run;have st:=yfA A;rw [awake p hs] at st;have f:=ynX R d t b i;rw [a] at f;unfold yK;rw [yo];show ob (yl _ _ [.val _,.val _,.no,.no] h) fnK=_
 simpa [ycu,yG (m:="hand_at") (A.get 0 rfl) (rfl),yeB A o,yG (m:="state") (A.get 5 rfl) (rfl),st,l,k5,yG (m:="is_looked_over") R.run (rfl),f,yG (m:="go") R.run (rfl),k]
theorem ygE (R:RR w rows (HL g c.rn w q own) h c s) (n:q.cw[q.i]?=some q.hd) (f:rows[s.t]?=some (yba r)) (k:1<=w) (j:q.nth<q.ds.length) (hs:q.sl=false) (o:okS s=true) (d:okR r=true) (b:yhD w s r=true) (F:NF q.sp.length s) (fr:stB s.sn q.sp=false):yK [.loc g.H,.int q.i] h=ob (yU [.loc g.H,.int q.i,.int s.t] h) fun x h=>some (x,h):=by
 have A:=R.rest;obtain ⟨G,E,H,v,y,l⟩:=ydj (A.get 5 rfl);obtain ⟨u,p,z,D⟩:=ydi (A.get 0 rfl);obtain ⟨k1,k2,k3,B,k5,t,C⟩:=ycV R.run;have st:=yfA A;rw [awake j hs] at st;have e:=ynX R f o d k;rw [b] at e;have sl:=ykL R (mem_of_getElem? (i:=2) rfl) F.nd F.hb F.hl;rw [fr] at sl;unfold yK;rw [yo];show ob (yl _ _ [.val _,.val _,.no,.no] h) fnK=_
 simpa [ycu,yG (m:="hand_at") (A.get 0 rfl) (by rfl'),yeB A n,yG (m:="state") (A.get 5 rfl) (rfl),st,l,k5,yG (m:="is_looked_over") R.run (rfl),e,p,yG (m:="is_stale") R.run (rfl),sl,yG (m:="looked_over_told") (A.get 0 rfl) (rfl)]
theorem ysQ {a p:Str}{k:Nat}(R:RR w rows (HL g c.rn w q own) h c s) (n:q.cw[q.i]?=some q.hd) (f:rows[s.t]?=some (yba (.take a p))) (u:1<=w) (C:q.nth<q.ds.length) (hs:q.sl=false) (o:okS s=true) (d:okR (.take a p)=true) (e:isN (ysH s w p)=true) (F:NF q.sp.length s) (fr:stB s.sn q.sp=false) (B:s.hs.getD (sx p) 0%w=k) (b:k<q.bx.length) (z:q.sp.length=q.bx.length) :
  ∃ h',yK [.loc g.H,.int q.i] h=some (.tup [.str "seen",.int s.t,.int k,.int (q.bx.getD k 0)],h')/\RR w rows (HL g c.rn w q own) h' c ⟨s.t+1,s.hs.set (sx a) (q.bx.getD k 0),s.sd,s.dd,yfm s.sn k (q.bx.getD k 0) (q.sp.getD k 0)⟩:=by
 obtain ⟨J,o2,O,N,L⟩:=yhr o;obtain ⟨k2,k3⟩:a∈SL/\p∈SL:=by simpa [okR] using d
 obtain ⟨h',G,t⟩:=ynY R f (mem_of_getElem? (i:=2) rfl) (mem_of_getElem? (i:=1) rfl) J k2 k3 u B (by omega) b F.hl;refine ⟨h',?_,t⟩;rw [ygE R n f u C hs o d e F fr];have A:=R.rest;have l:=t.rest;obtain ⟨M,P,T,U,K,x⟩:=ydj (A.get 5 rfl);obtain ⟨v,H,E,S⟩:=ydi (A.get 0 rfl);have j:=(ydi (l.get 0 rfl)).1;have y:=ynZ A n;have I:∀ h,ybF (yba (.take a p)) (.int 0) h=some _:=fun _=>rfl
 have D:=ygh (l.get 1 rfl) b;unfold yU;rw [yo];show ob (ob (yl _ _ [.val _,.val _,.val _,.no,.no,.no] h) fnK) _=_
 simpa [ycu,v,H,E,y,x,yG (m:="row") R.run (rfl),yiA R.run rfl f,I,yG (m:="see_next") R.run (rfl),G,j,D]
theorem ysR {w nth:Int}{sl v:Bool}{rn:Nat}(e:h[n]?=some (ydU ds w nth sl bf rn)):fL [14] "sleeps" ρ (.bl v) (.loc n) h=some (.nx ρ,h.set n (ydU ds w nth v bf rn)):=yfk e (rfl) (rfl)
theorem RR.sub {m m':List _}(R:RR w rows m h c s) (u:m'.Sublist m):RR w rows m' h c s:=by refine ⟨?_,R.len⟩;have A:=R.at_;exact A.sub ((((((((List.Sublist.refl _).append u).cons₂ _).cons₂ _).cons₂ _).cons₂ _).cons₂ _).cons₂ _ |>.cons₂ _)
theorem RR.urest d' (R:RR w rows (a++(n,d)::b) h c s):RR w rows (a++(n,d')::b) (h.set n d') c s:=by refine ⟨?_,R.len⟩;have A:=R.at_;unfold RM at A ⊢;rw [<- append_assoc] at A ⊢;exact At.upd (a:=_::_::_::_::_::_::_::(lay c.ly s.dd++a)) d' A
theorem yqf (R:RR w rows (HL g c.rn w q own) h c s) (d:q.cw[q.i]?=some q.hd) (e:rows[s.t]?=some (yba .wait)) (f:1<=w) (o:q.nth<q.ds.length) (hs:q.sl=false) (i:okS s=true) (b:yhD w s .wait=true) (F:NF q.sp.length s) (fr:stB s.sn q.sp=false) :
  ∃ h',yK [.loc g.H,.int q.i] h=some (.tup [.str "asleep",.int s.t],h')/\RR w rows (HL g c.rn w { q with sl:=true } own) h' c s:=by
 have A:=R.rest;refine ⟨h.set q.hd (ydU q.ds w q.nth true q.bf c.rn),?_,RR.urest (a:=[_,_,_,_,_]) _ R⟩;rw [ygE R d e f o hs i rfl b F fr];obtain ⟨u,B,D,z,y,k⟩:=ydj (A.get 5 rfl);obtain ⟨x,C,j,t⟩:=ydi (A.get 0 rfl);have l:=ynZ A d;have p:∀ h,ybF (yba .wait) (.int 0) h=some _:=fun _=>rfl
 have n:yct [.loc q.hd] h=some (.non,h.set q.hd (ydU q.ds w q.nth true q.bf c.rn)):=by
  have s1:=fun ρ=>ysR (ρ:=ρ) (v:=true) (A.get 5 rfl)
  unfold yct;rw [yo];show ob (ydm _ _ _ _ [.val _] h) fnK=_
  simpa [yqw,s1]
 unfold yU;rw [yo];show ob (ob (yl _ _ [.val _,.val _,.val _,.no,.no,.no] h) fnK) _=_
 simpa [ycu,j,l,k,yG (m:="row") R.run (rfl),yiA R.run rfl e,p,ynS,yG (m:="fall_asleep") (A.get 5 rfl) (rfl),n]
end
section
variable {h:AH}{w:Int}{rows rows':List PV}{c:Lc}{s s':RS}{r:Rw}{g:HC}{q:HQ}{own:List (Nat×Nd)}{rn:Nat}
noncomputable def hp1 (h:AH) (bf:List Int):AH:=h++[Nd.lst (bf.map .int)]
def hp2 (h:AH) (bf:List Int):AH:=hp1 h bf++[Nd.dct [] []]
def hp3 (h:AH) (bf:List Int):AH:=hp2 h bf++[Nd.lst [.loc (hp1 h bf).length]]
def hp4 (h:AH) (bf:List Int):AH:=hp3 h bf++[Nd.dct [] []]
def hp5 (h:AH) (bf:List Int):AH:=hp4 h bf++[Nd.ins 11 ["stack","last_seen"] [.loc (hp2 h bf).length,.loc (hp3 h bf).length]]
def hp6 (h:AH) (bf:List Int):AH:=hp5 h bf++[Nd.dct [] []]
theorem yvS {bf:List Int}:∃ h' c',ob (yes [.lst rows,.lst (bf.map .int),.int w] h) (fun d h1=>some (PV.loc h1.length,h1++[d]))=some (.loc c'.rn,h')/\∀ m,At h m->RR w rows m h' c' (S0 bf):=by refine ⟨_,⟨_,h.length,(hp4 h bf).length,(hp2 h bf).length,(hp3 h bf).length,(hp5 h bf).length,(hp6 h bf).length,[(hp1 h bf).length]⟩,rfl,fun m A=>⟨?_,rfl⟩⟩;have e:=At.new (.dct [] []) (a:=[_]) (At.new (.lst (bf.map .int)) (a:=[]) A);have b:=At.new (.dct [] []) (a:=[_,_]) (At.new (.lst [.loc (hp1 h bf).length]) (a:=[_]) e);have f:=At.new (.ins 11 ["stack","last_seen"] [.loc (hp2 h bf).length,.loc (hp3 h bf).length]) (a:=[_]) b;exact At.new _ (a:=[]) (At.new (.lst []) (a:=[_,_,_,_,_]) (At.new _ (a:=[_,_,_,_]) f))
theorem yvT {w nth v:Int}{sl:Bool}{rn:Nat}(e:h[n]?=some (ydU ds w nth sl bf rn)):fL [14] "nth" ρ (.int v) (.loc n) h=some (.nx ρ,h.set n (ydU ds w v sl bf rn)):=yfk e (rfl) (rfl)
theorem yzJ {w nth:Int}{sl:Bool}{bf v:List Int}{rn:Nat}(e:h[n]?=some (ydU ds w nth sl bf rn)):fL [14] "before" ρ (.lst (v.map .int)) (.loc n) h=some (.nx ρ,h.set n (ydU ds w nth sl v rn)):=yfk e (rfl) (rfl)
theorem ysS {w nth:Int}{sl:Bool}{rn v:Nat}(e:h[n]?=some (ydU ds w nth sl bf rn)):fL [14] "run" ρ (.loc v) (.loc n) h=some (.nx ρ,h.set n (ydU ds w nth sl bf v)):=yfk e (rfl) (rfl)
noncomputable def Due (ds:List PV) (nth:Nat) (rows:List PV):Prop:=nth<ds.length/\ds[nth]?=some (.lst rows)\/nth=ds.length/\rows=[]
theorem yhc {n:Nat}{ds:List PV}{nth:Nat}{bf:List Int}(i:yfb [14] "deeds" (.loc n) h=some (.lst ds,h)) (e:yfb [12,14] "width" (.loc n) h=some (.int w,h)) (b:yfb [14] "nth" (.loc n) h=some (.int nth,h)) (f:yfb [14] "before" (.loc n) h=some (.lst (bf.map .int),h)) (l:Due ds nth rows):∃ h' c',ycn [.loc n] h=some (.loc c'.rn,h')/\∀ m,At h m->RR w rows m h' c' (S0 bf):=by
 obtain ⟨h',c',d,j⟩:=yvS;refine ⟨h',c',?_,j⟩;unfold ycn;rw [yo];show ob (yl _ _ [.val _,.no] h) fnK=_;rcases l with ⟨h1,h2⟩|⟨h1,h2⟩
 .have a:((nth:Int)<ds.length)=True:=eq_true (by omega);have k:ybd (.lst ds) (.int nth) h=some (.lst rows,h):=by unfold ybd;simp only [ycR h2]
  simpa [b,i,f,e,a,k,d]
 .have a:((nth:Int)<ds.length)=False:=eq_false (by omega);subst h2
  simpa [b,i,f,e,a,d]
theorem yvU {bf:List Int}(A:At h (HL g rn w q own)) (j:∀ h1,At h1 (HL g rn w { q with nth:=q.nth+1 } own)->yI [v] h1=some (.lst (bf.map .int),h1)) (f:Due q.ds (q.nth+1) rows) :
  ∃ h' c',yei [.loc q.hd,v] h=some (.non,h')/\RR w rows (HL g c'.rn w { q with nth:=q.nth+1,bf:=bf } own) h' c' (S0 bf):=by
 obtain ⟨p,u,e,o,n,t⟩:=ydj (A.get 5 rfl);have d:At _ (HL g rn w { q with nth:=q.nth+1 } own):=At.upd (a:=[_,_,_,_,_]) _ A;have b:At ((h.set q.hd (ydU q.ds w (q.nth+1:Nat) q.sl q.bf rn)).set q.hd (ydU q.ds w (q.nth+1:Nat) q.sl bf rn)) _:=At.upd (a:=[_,_,_,_,_]) _ d;have s1:=fun ρ=>yvT (ρ:=ρ) (v:=(q.nth+1:Nat)) (A.get 5 rfl)
 have s2:=fun ρ=>yzJ (ρ:=ρ) (v:=bf) (d.get 5 rfl)
 have k:=j _ d;obtain ⟨a1,a2,a3,a4,a5,a6⟩:=ydj (b.get 5 rfl);obtain ⟨h',c',l,i⟩:=yhc a1 a2 a3 a5 f;have R:=i _ b;have B:=R.rest;have s3:=fun ρ=>ysS (ρ:=ρ) (v:=c'.rn) (B.get 5 rfl)
 refine ⟨_,c',?_,RR.urest _ R⟩;have z:(q.nth:Int)+1=(q.nth+1:Nat):=rfl;unfold yei;rw [yo];show ob (yl _ _ [.val _,.val v] h) fnK=_
 simpa [yqw,ycu,e,z,s1,s2,k,yG (m:="new_run") (b.get 5 rfl) (rfl),l,s3]
def EX (c:Lc) (w:Int) (rows:List PV) (s:RS):List (Nat×Nd):=RM w rows c s []
theorem yiD:RM w rows c s m=EX c w rows s++m:=by unfold EX RM;simp
theorem RR.hl (R:RR w rows (HL g c.rn w q own) h c s):At h (HL g c.rn w q (EX c w rows s++own)):=by have A:=R.at_;rw [yiD] at A;exact A.perm (show (HL g c.rn w q []++(EX c w rows s++own)).Perm _ from List.perm_append_comm_assoc _ _ _)
theorem ysT (a:h[b]?=some (.ins 11 ["stack","last_seen"] [.loc st,.loc rn])) (d:h[rn]?=some (.dct (sK m) (sA m))) (hs:sortI (sK m) (sA m)=some L):yew [.loc b] h=some (.lst L,h):=by have a:=ysw a;unfold yew;rw [yo,ykl,yAA];unfold yim;rw [ykm,show ye 0 _ h=some _ from rfl,ybE,a,ybE];unfold ylX;simp only [d,hs];rfl
noncomputable def yAD (q:HQ) (en:PV) (L laid:List PV) (bf:List Int):PV:=.tup [.int (q.i:Nat),.int (q.nth:Nat),en,.lst L,.lst laid,.lst (bf.map .int)]
theorem yiE {bf:List Int}(A:At h (HL g c.rn w q (EX c w rows s++own))) (n:q.cw[q.i]?=some q.hd) (hs:sortI (sK s.sn) (sA s.sn)=some L) (e:∀ h1 p,At h1 (HL g c.rn w p (EX c w rows s++own))->yI [v] h1=some (.lst (bf.map .int),h1)) (x:Due q.ds (q.nth+1) rows') (hl:q.en.length<1000) :
  ∃ h' c',ycF [.loc g.H,.int q.i,en,.lst laid,v] h=some (.non,h')/\RR w rows' (HL g c'.rn w { q with en:=q.en++[yAD q en L laid bf],nth:=q.nth+1,bf:=bf } own) h' c' (S0 bf):=by
 obtain ⟨E,I,f,y⟩:=ydi (A.get 0 rfl);obtain ⟨k1,k2,k3,B,k5,o⟩:=ydj (A.get 5 rfl);obtain ⟨D,r2,u,H,F,C,G⟩:=ycV (A.get 6 rfl);have l:=ynZ A n;have b:=A.get 4 rfl;have d:At _ (HL g c.rn w { q with en:=q.en++[yAD q en L laid bf] } _):=At.upd (a:=[_,_,_,_]) _ A;obtain ⟨h',c',z,k⟩:=yvU d (fun h1 a=>e h1 _ a) x;refine ⟨h',c',?_,k.sub ((((((List.sublist_append_right _ _).cons₂ _).cons₂ _).cons₂ _).cons₂ _).cons₂ _ |>.cons₂ _)⟩;have i:ydR _ [.tup _] h=some (.non,h.set g.en (.lst (q.en++[yAD q en L laid bf]))):=yeH b (by omega);have j:=e _ _ A;have t:=ysT (A.get 8 rfl) (A.get 10 rfl) hs;unfold ycF;rw [yo];show ob (yl _ _ [.val _,.val _,.val en,.val _,.val v,.no] h) fnK=_
 simpa [ycu,f,l,y,ycc b,k3,o,u,yG (m:="saw") (A.get 8 rfl) (rfl),t,j,i,yG (m:="go_on") (d.get 5 rfl) (rfl),z]
theorem yqg:(("lay":Str) = "take")=False:=eq_false (by rfl')
theorem yqh:(("lay":Str) = "wait")=False:=eq_false (by rfl')
theorem yoa:(("lay":Str) = "throw")=False:=eq_false (by rfl')
theorem ysU (R:RR w rows (HL g c.rn w q own) h c s) (e:q.cw[q.i]?=some q.hd) (i:rows[s.t]?=some (yba (.throw a b))) (o:1<=w) (G:q.nth<q.ds.length) (hs:q.sl=false) (j:okS s=true) (d:okR (.throw a b)=true) (f:yhD w s (.throw a b)=true) (F:NF q.sp.length s) (fr:stB s.sn q.sp=false) (p:sortI (sK s.sn) (sA s.sn)=some L) (u:Due q.ds (q.nth+1) rows') (hl:q.en.length<1000) :
  ∃ h' c',yK [.loc g.H,.int q.i] h=some (.tup [.str "fell",.int s.t],h')/\RR w rows' (HL g c'.rn w { q with en:=q.en++[yAD q (.tup [.str "fell",.str a,.int (s.hs.getD (sx b) 0)]) L [] q.bf],nth:=q.nth+1 } own) h' c' (S0 q.bf):=by
 obtain ⟨D,o2,O,K,N⟩:=yhr j;have A:=R.hl;have t:=by simpa [okR] using d
 obtain ⟨h',c',y,l⟩:=yiE (v:=.lst _) A e p (fun h1 _ _=>rfl) u hl;refine ⟨h',c',?_,l⟩;rw [ygE R e i o G hs j d f F fr];obtain ⟨J,P,U,M,k,x⟩:=ydj (A.get 5 rfl);obtain ⟨T,S,z,I⟩:=ydi (A.get 0 rfl);have B:=ynZ A e;have C:=ydq R.run R.held D t;have E:∀ h,ybF (yba (.throw a b)) (.int 0) h=some _:=fun _=>rfl
 have n:∀ h,ybF (yba (.throw a b)) (.int 1) h=some _:=fun _=>rfl
 have H:∀ h,ybF (yba (.throw a b)) (.int 2) h=some _:=fun _=>rfl
 unfold yU;rw [yo];show ob (ob (yl _ _ [.val _,.val _,.val _,.no,.no,.no] h) fnK) _=_
 simpa [ycu,z,B,x,yG (m:="row") R.run (rfl),yiA R.run rfl i,E,n,H,ymo,yho,yG (m:="held_in") R.run (rfl),C,k,yG (m:="end_deed") (A.get 0 rfl) (rfl),y]
end
noncomputable def yck (p:Nat×Int):PV:=.tup [.int (p.1:Nat),.int p.2]
noncomputable def yvV:List Int->List (Nat×Int)->List Int
 | bx,[]=>bx
 | bx,p::r=>yvV (bx.set p.1 p.2) r
noncomputable def yqx:List Int->List (Nat×Int)->List Int
 | sp,[]=>sp
 | sp,p::r=>yqx (sp.set p.1 (sp.getD p.1 0+1)) r
theorem ypn:∀ l bx,(yvV bx l).length=bx.length
 | [],_=>rfl
 | p::r,bx=>by show (yvV _ r).length=_;rw [ypn r,length_set]
theorem ykM:∀ l bx,(yqx bx l).length=bx.length
 | [],_=>rfl
 | p::r,bx=>by show (yqx _ r).length=_;rw [ykM r,length_set]
section
variable {h:AH}{w:Int}{rows rows':List PV}{c:Lc}{s s':RS}{r:Rw}{g:HC}{q:HQ}{own:List (Nat×Nd)}{rn:Nat}
theorem ysV {xs:List Int}(f:ev ρ h=some (.int v,h)) (i:eo ρ h=some (.loc n,h)) (a:ei ρ h=some (.int k,h)) (e:h[n]?=some (.lst (xs.map .int))) (b:k<xs.length):yec eo ei ev ρ h=some (.nx ρ,h.set n (.lst ((xs.set k v).map .int))):=by
 have d:ixN (xs.map PV.int).length k=some k:=by unfold ixN;simp [b]
 unfold yec;rw [f,ybE,i,ybE,a,ybE];simp only [e,d];rw [map_set]
theorem ykN (b:G x ρ=some ρ1) (a:S ρ1 h=some (.nx ρ2,h1)):yhN G S (x::xs) ρ h=yhN G S xs ρ2 h1:=by show (G x ρ).bind _=_;rw [b,bind_some,a];rfl
theorem ypo:∀ l (q:HQ) (h:AH) v4 v5,At h (HL g rn w q own)->(∀ p∈l,p.1<q.bx.length)->q.sp.length=q.bx.length ->
  ∃ h' f e,yhN (yq 4) ldB (l.map yck) [.val (.loc g.H),v1,v2,v3,v4,v5] h=some (.nx [.val (.loc g.H),v1,v2,v3,f,e],h')/\At h' (HL g rn w { q with bx:=yvV q.bx l,sp:=yqx q.sp l } own)
 | [],q,h,v4,v5,A,_,_=>⟨h,v4,v5,rfl,A⟩
 | p::l,q,h,v4,v5,A,j,hs=>by
  have hp:=j p mem_cons_self;obtain ⟨t,H,E,G⟩:=ydi (A.get 0 rfl);have d:At _ (HL g rn w { q with bx:=q.bx.set p.1 p.2 } own):=At.upd (a:=[_]) _ A;have y:At _ (HL g rn w { q with bx:=q.bx.set p.1 p.2,sp:=q.sp.set p.1 (q.sp.getD p.1 0+1) } own):=At.upd (a:=[_,_]) _ d;obtain ⟨D,i,F,C⟩:=ydi (d.get 0 rfl);have s1:=ysV (h:=h) (eo:=ybc [15] "numbers" (ye 0)) (ei:=ye 5) (ev:=xOp (ybF) (ye 4) (xC (.int 1))) (ρ:=[.val (.loc g.H),v1,v2,v3,.val (yck p),.val _]) rfl (by simpa [t]) rfl (A.get 1 rfl) hp;have s2:=ysV (xs:=q.sp) (k:=p.1) (v:=q.sp.getD p.1 0+1) (eo:=ybc [15] "marks" (ye 0)) (ei:=ye 5) (ev:=xOp yeG (xOp (ybd) (ybc [15] "marks" (ye 0)) (ye 5)) (xC (.int 1))) (ρ:=[.val (.loc g.H),v1,v2,v3,.val (yck p),.val _]) (by
   have u:=ygh (d.get 2 rfl) (show p.1<q.sp.length by omega)
   simpa [i,u]) (by simpa [i]) rfl (d.get 2 rfl) (by omega)
  have B:∀ h,ybF (yck p) (.int 0) h=some _:=fun _=>rfl
  have z:ldB [.val (.loc g.H),v1,v2,v3,.val (yck p),v5] h=some (.nx [.val (.loc g.H),v1,v2,v3,.val (yck p),.val (.int p.1)],(h.set g.nu (.lst ((q.bx.set p.1 p.2).map .int))).set g.ma (.lst ((q.sp.set p.1 (q.sp.getD p.1 0+1)).map .int))):=by
   unfold ldB
   simpa [B,s1,s2]
  obtain ⟨h',a,b,o,n⟩:=ypo l _ _ _ _ y (fun x m=>by rw [length_set];exact j x (mem_cons_of_mem _ m)) (by simp_all);refine ⟨h',a,b,?_,n⟩;show yhN _ _ (yck p::l.map yck) _ h=_;rw [ykN (by kernel_rfl!) z];exact o
theorem yvW (G:LG h o st b [l0] [d] ks xs) (hs:sortI d.1 d.2=some L):yeN [.loc o] h=some (.lst L,h):=by
 have e:=ygf G.ob;have f:=G.st;have i:=G.dl.1;have a:ybd (.loc st) (.int 0) h=some (.loc l0,h):=by unfold ybd;simp only [f];rfl
 unfold yeN;rw [yo];show ob (yl _ _ [.val _,.no] h) fnK=_
 simpa [e,a]
 unfold yim;symm;unfold ylX;simp only [i,hs];rfl
theorem yCY {l:List _}(R:RR w rows (HL g c.rn w q own) h c s) (i:q.cw[q.i]?=some q.hd) (ed:s.dd=[d]) (o:sortI d.1 d.2=some (l.map yck)) (j:∀ p∈l,p.1<q.bx.length) (e:q.sp.length=q.bx.length) (k:sortI (sK s.sn) (sA s.sn)=some L) (v:Due q.ds (q.nth+1) rows') (hl:q.en.length<1000) :
  ∃ h1 c',(∀ h2,ybL [.loc g.H] h1=some (.non,h2)->ydf [.loc g.H,.int q.i] h=some (.non,h2))/\RR w rows' (HL g c'.rn w { q with bx:=yvV q.bx l,sp:=yqx q.sp l,en:=q.en++[yAD q (.tup [.str "done"]) L (l.map yck) s.hs],nth:=q.nth+1,bf:=s.hs } own) h1 c' (S0 s.hs):=by
 have A:=R.hl;obtain ⟨l0,D⟩:∃ l0,c.ly=[l0]:=by have:=R.len;rw [ed] at this;exact List.length_eq_one_iff.mp this
 have G:=R.lg;rw [D,ed] at G;have wr:=yvW G o;obtain ⟨F,P,n,J⟩:=ydi (A.get 0 rfl);obtain ⟨k1,k2,k3,H,k5,z⟩:=ydj (A.get 5 rfl);obtain ⟨N,r2,u,E,O,U,M⟩:=ycV R.run;have x:=ynZ A i;obtain ⟨K,v4,v5,B,b⟩:=ypo (v1:=.val (.int q.i)) (v2:=.val (.loc c.rn)) (v3:=.val (.lst (l.map yck))) l q h .no .no A j e;obtain ⟨h',c',C,f⟩:=yiE b i k (fun h1 S a=>yfw (a.get 7 rfl)) v hl;refine ⟨h',c',fun h2 t=>?_,f⟩;obtain ⟨u1,W,T,I,u5,u6,u7⟩:=ycV (b.get 6 rfl);have y:xIL (ye 3) [.val (.loc g.H),.val (.int q.i),.val (.loc c.rn),.val _,.no,.no] h=some (l.map yck,h):=ynT rfl;unfold ydf;rw [yo];show ob (yl _ _ [.val _,.val _,.no,.no,.no,.no] h) fnK=_
 simpa [ycu,n,x,z,u,yG (m:="wrote") R.lg.ob (rfl),wr,y,B,u1,yG (m:="end_deed") (b.get 0 rfl) (rfl),C,yG (m:="wake_stale") (f.rest.get 0 rfl) (rfl),t]
theorem ysW {l:List _}(R:RR w rows (HL g c.rn w q own) h c s) (b:q.cw[q.i]?=some q.hd) (f:rows[s.t]?=some (yba .lay)) (i:1<=w) (y:q.nth<q.ds.length) (hs:q.sl=false) (z:okS s=true) (F:NF q.sp.length s) (fr:stB s.sn q.sp=false) (ed:s.dd=[d]) (C:sortI d.1 d.2=some (l.map yck)) (k:∀ p∈l,p.1<q.bx.length) (a:q.sp.length=q.bx.length) (j:sortI (sK s.sn) (sA s.sn)=some L) (t:Due q.ds (q.nth+1) rows') (hl:q.en.length<1000) :
  ∃ h1 c',(∀ h2,ybL [.loc g.H] h1=some (.non,h2)->yK [.loc g.H,.int q.i] h=some (.tup [.str "done",.int s.t],h2))/\RR w rows' (HL g c'.rn w { q with bx:=yvV q.bx l,sp:=yqx q.sp l,en:=q.en++[yAD q (.tup [.str "done"]) L (l.map yck) s.hs],nth:=q.nth+1,bf:=s.hs } own) h1 c' (S0 s.hs):=by
 obtain ⟨h',c',e,x⟩:=yCY R b ed C k a j t hl;refine ⟨h',c',fun h2 o=>?_,x⟩;have e:=e h2 o;rw [ygE R b f i y hs z rfl rfl F fr];have A:=R.rest;obtain ⟨K,I,M,H,D,u⟩:=ydj (A.get 5 rfl);obtain ⟨G,J,n,E⟩:=ydi (A.get 0 rfl);have v:=ynZ A b;have B:∀ h,ybF (yba .lay) (.int 0) h=some _:=fun _=>rfl
 unfold yU;rw [yo];show ob (ob (yl _ _ [.val _,.val _,.val _,.no,.no,.no] h) fnK) _=_
 simpa [ycu,n,v,u,yG (m:="row") R.run (rfl),yiA R.run rfl f,B,yqg,yqh,yoa,yG (m:="lay_down") (A.get 0 rfl) (rfl),e]
theorem ysX (R:RR w rows (HL g c.rn w q own) h c s) (j:Due q.ds q.nth rows'):∃ h' c',yce [.loc q.hd] h=some (.non,h')/\RR w rows' (HL g c'.rn w { q with sl:=false } own) h' c' (S0 q.bf):=by
 have A:=R.rest;have d:At (h.set q.hd (ydU q.ds w q.nth false q.bf c.rn)) _:=At.upd (a:=[_,_,_,_,_]) _ A;have s1:=fun ρ=>ysR (ρ:=ρ) (v:=false) (A.get 5 rfl)
 obtain ⟨a1,a2,a3,a4,a5,a6⟩:=ydj (d.get 5 rfl);obtain ⟨h',c',f,i⟩:=yhc a1 a2 a3 a5 j;have e:=i _ d;have B:=e.rest;have s3:=fun ρ=>ysS (ρ:=ρ) (v:=c'.rn) (B.get 5 rfl)
 refine ⟨_,c',?_,RR.urest _ e⟩;unfold yce;rw [yo];show ob (yl _ _ [.val _] h) fnK=_
 simpa [yqw,ycu,s1,yG (m:="new_run") (d.get 5 rfl) (by rfl'),f,s3]
theorem ysY (R:RR w rows (HL g c.rn w q own) h c s) (o:q.cw[q.i]?=some q.hd) (e:rows[s.t]?=some (yba r)) (k:1<=w) (t:q.nth<q.ds.length) (hs:q.sl=false) (f:okS s=true) (b:okR r=true) (a:yhD w s r=true) (F:NF q.sp.length s) (fr:stB s.sn q.sp=true) (l:Due q.ds q.nth rows') :
  ∃ h' c',yK [.loc g.H,.int q.i] h=some (.tup [.str "anew",.int s.t],h')/\RR w rows' (HL g c'.rn w { q with sl:=false } own) h' c' (S0 q.bf):=by
 obtain ⟨h',c',j,p⟩:=ysX R l;refine ⟨h',c',?_,p⟩;have A:=R.rest;obtain ⟨E,G,I,x,y,n⟩:=ydj (A.get 5 rfl);obtain ⟨H,u,z,C⟩:=ydi (A.get 0 rfl);obtain ⟨k1,k2,k3,B,k5,v,D⟩:=ycV R.run;have st:=yfA A;rw [awake t hs] at st;have d:=ynX R e f b k;rw [a] at d;have sl:=ykL R (mem_of_getElem? (i:=2) rfl) F.nd F.hb F.hl;rw [fr] at sl;unfold yK;rw [yo];show ob (yl _ _ [.val _,.val _,.no,.no] h) fnK=_
 simpa [ycu,yG (m:="hand_at") (A.get 0 rfl) (rfl),yeB A o,yG (m:="state") (A.get 5 rfl) (rfl),st,n,k5,yG (m:="is_looked_over") R.run (rfl),d,u,yG (m:="is_stale") R.run (rfl),sl,yG (m:="begin_anew") (A.get 5 rfl) (rfl),j]
end
structure HD where
 ds:List PV
 nth:Nat
 sl:Bool
 bf:List Int
 rows:List PV
 s:RS
def HN (w:Int) (a:Nat×Lc) (x:HD) (m:List (Nat×Nd)):List (Nat×Nd):=(a.1,ydU x.ds w x.nth x.sl x.bf a.2.rn)::RM w x.rows a.2 x.s m
def CR (w:Int):List (Nat×Lc)->List HD->List (Nat×Nd)->List (Nat×Nd)
 | a::as,x::xs,m=>HN w a x (CR w as xs m)
 | _,_,m=>m
noncomputable def LyOk:List (Nat×Lc)->List HD->Prop
 | a::as,x::xs=>a.2.ly.length=x.s.dd.length/\LyOk as xs
 | [],[]=>True
 | _,_=>False
def H5 (g:HC) (bx sp:List Int) (en:List PV) (cw:List Nat):List (Nat×Nd):=[(g.H,ynU g.nu g.ma g.cr g.en),(g.nu,.lst (bx.map .int)),(g.ma,.lst (sp.map .int)),(g.cr,.lst (cw.map .loc)),(g.en,.lst en)]
structure HH (h:AH) (g:HC) (w:Int) (bx sp:List Int) (en:List PV) (as:List (Nat×Lc)) (xs:List HD) (own:List (Nat×Nd)):Prop where
 at_:At h (H5 g bx sp en (as.map (·.1))++CR w as xs own)
 ly:LyOk as xs
noncomputable def qOf (bx sp:List Int) (en:List PV) (cw:List Nat) (i hd:Nat) (x:HD):HQ:=⟨bx,sp,en,cw,i,hd,x.ds,x.nth,x.sl,x.bf⟩
section
variable {h:AH}{w:Int}{g:HC}{bx sp:List Int}{en:List PV}{as as1 as2:List (Nat×Lc)}{xs xs1 xs2:List HD}{a:Nat×Lc}{x x':HD}{own m:List (Nat×Nd)}{c:Lc}
theorem yhs:HN w a x m=HN w a x []++m:=by unfold HN;rw [yiD,yiD,append_nil];rfl
theorem ykO:∀ {as1:List _}{xs1:List HD},as1.length=xs1.length->(CR w (as1++a::as2) (xs1++x::xs2) m).Perm (HN w a x (CR w as1 xs1 (CR w as2 xs2 m)))
 | [],[],_=>.refl _
 | b::as1,y::xs1,e=>by show (HN w b y _).Perm (HN w a x (HN w b y _));have d:=ykO (by simpa using e);rw [yhs,yhs (a:=a),yhs (m:=CR w as1 xs1 _)];refine (d.append_left _).trans ?_;rw [yhs (a:=a)];exact List.perm_append_comm_assoc _ _ _
theorem LyOk.split:∀ {as1:List _}{xs1:List HD},as1.length=xs1.length->(LyOk (as1++a::as2) (xs1++x::xs2) ↔ LyOk as1 xs1/\a.2.ly.length=x.s.dd.length/\LyOk as2 xs2)
 | [],[],_=>⟨fun k=>⟨trivial,k⟩,fun k=>k.2⟩
 | b::as1,y::xs1,e=>by have d:=LyOk.split (by simpa using e);show _/\LyOk (as1++a::as2) (xs1++x::xs2) ↔ (_/\LyOk as1 xs1)/\_;rw [d,and_assoc]
theorem yCZ {q:HQ}:(H5 g q.bx q.sp q.en q.cw++(q.hd,ydU q.ds w q.nth q.sl q.bf b)::RM w rows c s m).Perm (RM w rows c s (HL g b w q m)):=by rw [yiD,yiD];refine .trans ?_ (show (H5 g q.bx q.sp q.en q.cw++(EX c w rows s++(q.hd,ydU q.ds w q.nth q.sl q.bf b)::m)).Perm _ from List.perm_append_comm_assoc _ _ _);exact List.perm_middle.symm.append_left _
theorem HH.foc (X:HH h g w bx sp en (as1++a::as2) (xs1++x::xs2) own) (l:as1.length=xs1.length):RR w x.rows (HL g a.2.rn w (qOf bx sp en ((as1++a::as2).map (·.1)) as1.length a.1 x) (CR w as1 xs1 (CR w as2 xs2 own))) h a.2 x.s:=by exact ⟨(X.at_.perm (((ykO l).append_left _).trans (yCZ (q:=qOf bx sp en _ _ _ _))).symm),((LyOk.split l).mp X.ly).2.1⟩
theorem HH.unf (L:LyOk (as1++a::as2) (xs1++x::xs2)) (l:as1.length=xs1.length) (R:RR w x'.rows (HL g c.rn w (qOf b d f ((as1++a::as2).map (·.1)) as1.length a.1 x') (CR w as1 xs1 (CR w as2 xs2 own))) h c x'.s):HH h g w b d f (as1++(a.1,c)::as2) (xs1++x'::xs2) own:=by
 obtain ⟨i,k,j⟩:=(LyOk.split l).mp L;refine ⟨?_,(LyOk.split l).mpr ⟨i,R.len,j⟩⟩;have e:(as1++(a.1,c)::as2).map (·.1)=(as1++a::as2).map (·.1):=by simp
 rw [e];exact R.at_.perm (((ykO l).append_left _).trans (yCZ (q:=qOf b d f _ _ _ _)))
theorem ymv:((as1++a::as2).map (·.1))[as1.length]?=some a.1:=by simp
noncomputable def asB (x:HD):Bool:=decide (x.nth≠x.ds.length) && x.sl
def ygi (sp:List Int) (x:HD):HD:=if (asB x && stB x.s.sn sp)=true then { x with sl:=false,s:=S0 x.bf } else x
theorem yjp:(("ended":Str) = "asleep")=False:=eq_false (by rfl')
theorem yjq:(("awake":Str) = "asleep")=False:=eq_false (by rfl')
theorem yDa (X:HH h g w bx sp en (as1++a::as2) (xs1++x::xs2) own) (l:as1.length=xs1.length) (t:Due x.ds x.nth x.rows) (F:NF sp.length x.s):∃ h' c',wkB [.val (.loc g.H),.val (.loc a.1)] h=some (.nx [.val (.loc g.H),.val (.loc a.1)],h')/\HH h' g w bx sp en (as1++(a.1,c')::as2) (xs1++ygi sp x::xs2) own:=by
 have R:=X.foc l;have A:=R.rest;have st:=yfA A;obtain ⟨y,q,v,u⟩:=ydi (A.get 0 rfl);have j:h[a.1]?=some (ydU x.ds w x.nth x.sl x.bf a.2.rn):=A.get 5 rfl;have p:=(ydj j).2.2.2.2.2;have sl:=ykL (ma:=g.ma) (sp:=sp) R (mem_of_getElem? (i:=2) rfl) F.nd F.hb F.hl;have o:=R.run
 by_cases e:x.nth=x.ds.length
 .have d:stN (qOf bx sp en ((as1++a::as2).map (·.1)) as1.length a.1 x) = "ended":=if_pos e;rw [d] at st;have f:ygi sp x=x:=by unfold ygi asB;simp [e]
  rw [f];refine ⟨h,a.2,?_,X⟩;unfold wkB;dsimp only [qOf] at st
  simpa [ycu,yG (m:="state") j (by rfl'),st,yjp]
 .cases es:x.sl with
  | false =>
   have d:stN (qOf bx sp en ((as1++a::as2).map (·.1)) as1.length a.1 x) = "awake":=(if_neg e).trans (if_neg (by rw [show (qOf bx sp en _ as1.length a.1 x).sl=x.sl from rfl,es];decide));rw [d] at st;have f:ygi sp x=x:=by unfold ygi asB;simp [es]
   rw [f];refine ⟨h,a.2,?_,X⟩;unfold wkB;dsimp only [qOf] at st
   simpa [ycu,yG (m:="state") j (by rfl'),st,yjq]
  | true =>
   have d:stN (qOf bx sp en ((as1++a::as2).map (·.1)) as1.length a.1 x) = "asleep":=(if_neg e).trans (if_pos (by rw [show (qOf bx sp en _ as1.length a.1 x).sl=x.sl from rfl,es]));rw [d] at st;dsimp only [qOf] at st;cases k:stB x.s.sn sp with
   | false =>
    have f:ygi sp x=x:=by unfold ygi;simp [k]
    rw [f];rw [k] at sl;refine ⟨h,a.2,?_,X⟩;unfold wkB
    simpa [ycu,yG (m:="state") j (by rfl'),st,p,q,yG (m:="is_stale") o (by rfl'),sl]
   | true =>
    have f:ygi sp x={ x with sl:=false,s:=S0 x.bf }:=if_pos (by unfold asB;simp [e,es,k]);rw [f];rw [k] at sl;obtain ⟨h',c',n,r⟩:=ysX R (t);refine ⟨h',c',?_,HH.unf X.ly l r⟩;dsimp only [qOf] at n;unfold wkB
    simpa [ycu,yG (m:="state") j (by rfl'),st,p,q,yG (m:="is_stale") o (by rfl'),sl,yG (m:="begin_anew") j (by rfl'),n]
def yDZ (W:Nat) (x:HD):Prop:=Due x.ds x.nth x.rows/\NF W x.s
theorem LyOk.len:∀ {as:List _}{xs:List HD},LyOk as xs->as.length=xs.length
 | [],[],_=>rfl
 | _::_,_::_,k=>by rw [length_cons,length_cons,LyOk.len k.2]
theorem LyOk.app:∀ {as1 as2:List _}{xs1 xs2:List HD},as1.length=xs1.length->LyOk (as1++as2) (xs1++xs2)->LyOk as2 xs2
 | [],_,[],_,_,k=>k
 | _::_,_,_::_,_,e,k=>LyOk.app (by simpa using e) k.2
theorem ysZ:∀ as2 xs2 as1 xs1 h v,HH h g w bx sp en (as1++as2) (xs1++xs2) own->as1.length=xs1.length->(∀ x∈xs2,yDZ sp.length x) ->
  ∃ h' b i,yjl g.cr false (yq 1) wkB as2.length as1.length [.val (.loc g.H),v] h=some (.nx [.val (.loc g.H),i],h')/\HH h' g w bx sp en (as1++b) (xs1++xs2.map (ygi sp)) own/\b.map (·.1)=as2.map (·.1)
 | [],xs2,as1,xs1,h,v,X,l,_=>by have e:=X.at_.get 3 rfl;have f:=(LyOk.app l X.ly).len;have:=List.length_eq_zero_iff.mp f.symm;subst this;refine ⟨h,[],v,?_,X,rfl⟩;show yjl g.cr false _ wkB 0 as1.length _ h=_;unfold yjl;simp_all
 | a::as2,[],as1,xs1,h,v,X,l,_=>by have f:=(LyOk.app l X.ly).len;cases f
 | a::as2,x::xs2,as1,xs1,h,v,X,l,d=>by
  have e:=X.at_.get 3 rfl;obtain ⟨h1,k,o,r⟩:=yDa X l (d x mem_cons_self).1 (d x mem_cons_self).2;obtain ⟨h',b,i,j,s,p⟩:=ysZ as2 xs2 (as1++[(a.1,k)]) (xs1++[ygi sp x]) h1 _ (by simp_all) (by simp [l]) fun y n=>d y (mem_cons_of_mem _ n)
  refine ⟨h',(a.1,k)::b,i,?_,by simp_all,by simp [p]⟩;rw [length_append] at j;have q:yq 1 _ [.val (.loc g.H),v]=some [.val _,.val (.loc a.1)]:=rfl;have ei:(((as1++a::as2).map (·.1)).map PV.loc)[as1.length]?=some (.loc a.1):=by simp_all
  show yjl g.cr false _ wkB (as2.length+1) as1.length _ h=_;unfold yjl;simp only [e,Bool.false_eq_true,if_false,ei,q,bind_some,o,ybE];exact j
theorem yzK (X:HH h g w bx sp en as xs own) (i:∀ x∈xs,yDZ sp.length x):∃ h' b,ybL [.loc g.H] h=some (.non,h')/\HH h' g w bx sp en b (xs.map (ygi sp)) own/\b.map (·.1)=as.map (·.1):=by
 obtain ⟨h',b,p,f,d,j⟩:=ysZ as xs [] [] h .no X rfl i;refine ⟨h',b,?_,d,j⟩;obtain ⟨l,n,k,q⟩:=ydi (X.at_.get 0 rfl);have e:=X.at_.get 3 rfl;unfold ybL;rw [yo];show ob (ygX false _ _ wkB [.val _,.no] h) fnK=_;unfold ygX
 simpa [k]
 simp only [e];rw [length_map,length_map];exact (congrArg (fun o=>ob o fnK) f).trans rfl
end
section
variable {h:AH}{w:Int}{g:HC}{bx sp:List Int}{en:List PV}{as as1 as2:List (Nat×Lc)}{xs xs1 xs2:List HD}{a:Nat×Lc}{x x':HD}{own m:List (Nat×Nd)}{c:Lc}{s s':RS}{r:Rw}
theorem yta {m:List _}(hp:p∈yfm m k u v):p=(k,u,v)\/p∈m:=by
 unfold yfm at hp;split at hp
 .obtain ⟨q,b,e⟩:=List.mem_map.mp hp;split at e
  .exact .inl e.symm
  .exact .inr (e ▸ b)
 .rcases List.mem_append.mp hp with z|z
  .exact .inr z
  .exact .inl (List.mem_singleton.mp z)
theorem ypp m k u v:(yfm m k u v).map (·.1)=if k∈m.map (·.1) then m.map (·.1) else m.map (·.1)++[k]:=by
 unfold yfm;split
 .rw [map_map];refine List.map_congr_left fun p _=>?_
  show (if p.1=k then (k,u,v) else p).1=p.1;split
  .rename_i e;exact e.symm
  .rfl
 .simp
theorem yiF:∀ W (l:List Nat),l.Nodup->(∀ k∈l,k<W)->l.length<=W
 | 0,l,_,d=>by
  cases l with
  | nil=>simp
  | cons a _=>exact absurd (d a mem_cons_self) (by omega)
 | W+1,l,f,d=>by
  by_cases e:W∈l
  .have:=yiF W _ (f.erase W) fun k b=>by have h1:=d k (List.mem_of_mem_erase b);have h2:=(List.Nodup.mem_erase_iff f).mp b |>.1;omega
   grind
  .have:=yiF W l f fun k b=>by
    have h1:=d k b;have:k≠W:=fun z=>e (z ▸ b)
    omega
   omega
theorem NF.put (F:NF W s) (hk:k<W) (hW:W<=16) :NF W ⟨t,hs,s.sd,s.dd,yfm s.sn k u v⟩:=by
 have nd:((yfm s.sn k u v).map (·.1)).Nodup:=by
  rw [ypp];split
  .exact F.nd
  .rename_i e;rw [List.nodup_append];exact ⟨F.nd,by simp,fun x hx y hy z=>by rw [List.mem_singleton.mp hy] at z;exact e (z ▸ hx)⟩
 have hb:∀ p∈yfm s.sn k u v,p.1<W:=fun p hp=>by
  rcases yta hp with rfl|hp
  .exact hk
  .exact F.hb p hp
 refine ⟨nd,hb,?_⟩;have:=yiF W _ nd fun x hx=>by obtain ⟨p,hp,rfl⟩:=List.mem_map.mp hx;exact hb p hp
 rw [length_map] at this;show (yfm s.sn k u v).length<=900;omega
theorem yjP {rws:List Rw}{t:Nat}(b:rws[t]?=some r):(rws.map yba)[t]?=some (yba r):=by simp_all
noncomputable def stX (x:HD):Str:=if x.nth=x.ds.length then "ended" else if x.sl=true then "asleep" else "awake"
theorem yFJ (X:HH h g w bx sp en (as1++a::as2) (xs1++x::xs2) own) (l:as1.length=xs1.length) (hs:(stX x = "awake")=False):yK [.loc g.H,.int as1.length] h=some (.tup [.str "idle"],h):=ysO (q:=qOf bx sp en _ as1.length a.1 x) (X.foc l).rest (ymv) hs
theorem yDb {rws:List Rw}(X:HH h g bx.length bx sp en (as1++a::as2) (xs1++x::xs2) own) (l:as1.length=xs1.length) (b:sp.length=bx.length) (h1:1<=bx.length) (k:x.rows=rws.map yba) (i:x.nth<x.ds.length) (hs:x.sl=false) (F:NF bx.length x.s) (fr:stB x.s.sn sp=false) (d:rws[x.s.t]?=some .wait) (j:okS x.s=true) (n:yhD bx.length x.s .wait=true) :
  ∃ h',yK [.loc g.H,.int as1.length] h=some (.tup [.str "asleep",.int x.s.t],h')/\HH h' g bx.length bx sp en (as1++a::as2) (xs1++{ x with sl:=true }::xs2) own:=by
 have R:=X.foc l;obtain ⟨h',e,f⟩:=yqf R (ymv) (by rw [k];exact yjP d) (by omega) i hs j n (show NF sp.length x.s by rw [b];exact F) fr;exact ⟨h',e,HH.unf X.ly l f⟩
theorem yFK {rws:List Rw}(X:HH h g bx.length bx sp en (as1++a::as2) (xs1++x::xs2) own) (l:as1.length=xs1.length) (h1:1<=bx.length) (o:x.rows=rws.map yba) (j:x.nth<x.ds.length) (hs:x.sl=false) (f:rws[x.s.t]?=some r) (k:okS x.s=true) (b:okR r=true) (d:yhD bx.length x.s r=false) (e:yqe bx.length r x.s=some s') :
  ∃ h' c',yK [.loc g.H,.int as1.length] h=some (.tup [.str "gone",.int x.s.t],h')/\HH h' g bx.length bx sp en (as1++(a.1,c')::as2) (xs1++{ x with s:=s' }::xs2) own:=by
 have R:=X.foc l;obtain ⟨h',c',i,n⟩:=ysP R (ymv) (by rw [o];exact yjP f) (by omega) j hs k b d e;exact ⟨h',c',i,HH.unf X.ly l n⟩
theorem yFL {rws:List Rw}{p q:Str}{k:Nat}(X:HH h g bx.length bx sp en (as1++a::as2) (xs1++x::xs2) own) (l:as1.length=xs1.length) (b:sp.length=bx.length) (h1:1<=bx.length) (n:x.rows=rws.map yba) (u:x.nth<x.ds.length) (hs:x.sl=false) (F:NF bx.length x.s) (fr:stB x.s.sn sp=false) (f:rws[x.s.t]?=some (.take p q)) (i:okS x.s=true) (d:okR (.take p q)=true) (e:isN (ysH x.s bx.length q)=true) (ek:x.s.hs.getD (sx q) 0%bx.length=k) (j:k<bx.length) :
  ∃ h',yK [.loc g.H,.int as1.length] h=some (.tup [.str "seen",.int x.s.t,.int k,.int (bx.getD k 0)],h')/\HH h' g bx.length bx sp en (as1++a::as2) (xs1++{ x with s:=⟨x.s.t+1,x.s.hs.set (sx p) (bx.getD k 0),x.s.sd,x.s.dd,yfm x.s.sn k (bx.getD k 0) (sp.getD k 0)⟩ }::xs2) own:=by
 have R:=X.foc l;obtain ⟨h',t,o⟩:=ysQ R (ymv) (by rw [n];exact yjP f) (by omega) u hs i d e (show NF sp.length x.s by rw [b];exact F) fr ek j b;exact ⟨h',t,HH.unf X.ly l o⟩
theorem yFM {rws:List Rw}(X:HH h g bx.length bx sp en (as1++a::as2) (xs1++x::xs2) own) (l:as1.length=xs1.length) (d:sp.length=bx.length) (h1:1<=bx.length) (j:x.rows=rws.map yba) (o:x.nth<x.ds.length) (hs:x.sl=false) (F:NF bx.length x.s) (fr:stB x.s.sn sp=true) (f:rws[x.s.t]?=some r) (k:okS x.s=true) (b:okR r=true) (e:yhD bx.length x.s r=true) (p:Due x.ds x.nth rows') :
  ∃ h' c',yK [.loc g.H,.int as1.length] h=some (.tup [.str "anew",.int x.s.t],h')/\HH h' g bx.length bx sp en (as1++(a.1,c')::as2) (xs1++{ x with sl:=false,rows:=rows',s:=S0 x.bf }::xs2) own:=by
 have R:=X.foc l;obtain ⟨h',c',n,i⟩:=ysY R (ymv) (by rw [j];exact yjP f) (by omega) o hs k b e (show NF sp.length x.s by rw [d];exact F) fr p;exact ⟨h',c',n,HH.unf X.ly l i⟩
noncomputable def yEa (i:Nat) (x:HD) (en:PV) (L laid:List PV) (bf:List Int):PV:=.tup [.int (i:Nat),.int (x.nth:Nat),en,.lst L,.lst laid,.lst (bf.map .int)]
theorem yFN {rws:List Rw}(X:HH h g bx.length bx sp en (as1++a::as2) (xs1++x::xs2) own) (l:as1.length=xs1.length) (d:sp.length=bx.length) (h1:1<=bx.length) (k:x.rows=rws.map yba) (o:x.nth<x.ds.length) (hs:x.sl=false) (F:NF bx.length x.s) (fr:stB x.s.sn sp=false) (e:rws[x.s.t]?=some (.throw p q)) (f:okS x.s=true) (b:okR (.throw p q)=true) (t:yhD bx.length x.s (.throw p q)=true) (j:sortI (sK x.s.sn) (sA x.s.sn)=some L) (u:Due x.ds (x.nth+1) rows') (hl:en.length<1000) :
  ∃ h' c',yK [.loc g.H,.int as1.length] h=some (.tup [.str "fell",.int x.s.t],h')/\HH h' g bx.length bx sp (en++[yEa as1.length x (.tup [.str "fell",.str p,.int (x.s.hs.getD (sx q) 0)]) L [] x.bf]) (as1++(a.1,c')::as2) (xs1++{ x with nth:=x.nth+1,rows:=rows',s:=S0 x.bf }::xs2) own:=by
 have R:=X.foc l;obtain ⟨h',c',n,i⟩:=ysU R (ymv) (by rw [k];exact yjP e) (by omega) o hs f b t (show NF sp.length x.s by rw [d];exact F) fr j u hl;exact ⟨h',c',n,HH.unf X.ly l i⟩
theorem yFO {rws:List Rw}{ls:List _}(X:HH h g bx.length bx sp en (as1++a::as2) (xs1++x::xs2) own) (l:as1.length=xs1.length) (e:sp.length=bx.length) (h1:1<=bx.length) (u:x.rows=rws.map yba) (B:x.nth<x.ds.length) (hs:x.sl=false) (F:NF bx.length x.s) (fr:stB x.s.sn sp=false) (H:rws[x.s.t]?=some .lay) (n:okS x.s=true) (ed:x.s.dd=[d]) (E:sortI d.1 d.2=some (ls.map yck)) (q:∀ p∈ls,p.1<bx.length) (o:sortI (sK x.s.sn) (sA x.s.sn)=some L) (f:Due x.ds (x.nth+1) rows') (hl:en.length<1000) (i:∀ y∈xs1++xs2,yDZ bx.length y) :
  ∃ h' b,yK [.loc g.H,.int as1.length] h=some (.tup [.str "done",.int x.s.t],h')/\HH h' g bx.length (yvV bx ls) (yqx sp ls) (en++[yEa as1.length x (.tup [.str "done"]) L (ls.map yck) x.s.hs]) b ((xs1++{ x with nth:=x.nth+1,bf:=x.s.hs,rows:=rows',s:=S0 x.s.hs }::xs2).map (ygi (yqx sp ls))) own/\b.map (·.1)=(as1++a::as2).map (·.1):=by
 have R:=X.foc l;obtain ⟨h2,c',A,v⟩:=ysW R (ymv) (by rw [u];exact yjP H) (by omega) B hs n (show NF sp.length x.s by rw [e];exact F) fr ed E q e o f hl;have D:=HH.unf (x':={ x with nth:=x.nth+1,bf:=x.s.hs,rows:=rows',s:=S0 x.s.hs }) X.ly l v;have G:(yqx sp ls).length=bx.length:=by rw [ykM];exact e
 obtain ⟨h',b,k,j,C⟩:=yzK D (fun y t=>by
  show yDZ (yqx sp ls).length y;rw [G];rcases List.mem_append.mp t with z|z
  .exact i y (mem_append_left _ z)
  .rcases mem_cons.mp z with rfl|z
   .exact ⟨f,⟨List.nodup_nil,fun p hp=>(by cases hp),by show 0<=900;omega⟩⟩
   .exact i y (mem_append_right _ z))
 exact ⟨h',b,A h' k,j,by rw [C];simp⟩
end
section
variable {h:AH}{w:Int}{g:HC}{bx sp:List Int}{en:List PV}{as as1 as2:List (Nat×Lc)}{xs xs1 xs2:List HD}{a:Nat×Lc}{x x':HD}{own m:List (Nat×Nd)}
theorem ymw {x y:PV}{xs ys:List PV}(e1:f x y=some true) (e2:ygU f xs ys=some true):ygU f (x::xs) (y::ys)=some true:=by show (match f x y,ygU f xs ys with|some b,some c=>some (b && c)|_,_=>none)=_;rw [e1,e2];rfl
theorem yzL:eqP (n+1) h (.int i) (.int i)=some true:=by show some (eqV (.int i) (.int i))=_;rw [yku rfl]
theorem yzM:eqP (n+1) h (.str i) (.str i)=some true:=by show some (eqV (.str i) (.str i))=_;rw [yku rfl]
theorem ypq:∀ xs:List Int,ygU (eqP (n+1) h) (xs.map .int) (xs.map .int)=some true
 | []=>rfl
 | _::xs=>ymw yzL (ypq xs)
theorem yzN {xs:List PV}(e:ygU (eqP (n+1) h) xs xs=some true):eqP (n+2) h (.tup xs) (.tup xs)=some true:=by show (match ygU (eqP (n+1) h) xs xs with|some b=>some (b && xs.length == xs.length)|none=>none)=_;rw [e];simp
theorem yzO {xs:List PV}(e:ygU (eqP (n+1) h) xs xs=some true):eqP (n+2) h (.lst xs) (.lst xs)=some true:=by show (if xs.length=xs.length then ygU (eqP (n+1) h) xs xs else some false)=_;rw [if_pos rfl,e]
noncomputable def Shp (e:PV):Prop:=∃ a b c x y z,e=.tup [a,b,c,.lst x,.lst y,.lst z]
theorem ytb {en:List PV}(e:h[n]?=some (.lst en)) (c:∀ x∈en,E (inn x) h=some (x,h)):∀ k i,i+k=en.length->yio n E inn k i h=some (en.drop i,h)
 | 0,i,d=>by unfold yio;grind
 | k+1,i,d=>by
  have b:i<en.length:=by omega
  unfold yio;simp only [e,List.getElem?_eq_getElem b];rw [c _ (getElem_mem b),ybE,ytb e c k _ (by omega),ybE,List.drop_eq_getElem_cons b]
theorem yxp (X:HH h g w bx sp en as xs own):ycD [.loc g.H] h=some (.lst (bx.map .int),h):=by
 obtain ⟨b,d,c,e⟩:=ydi (X.at_.get 0 rfl);unfold ycD;rw [yo];show ob (yQ _ [.val _] h) fnK=_
 simpa [b,yfw (X.at_.get 1 rfl)]
theorem ytc (X:HH h g w bx sp en as xs own):ycj [.loc g.H] h=some (.lst (sp.map .int),h):=by
 obtain ⟨e,b,c,d⟩:=ydi (X.at_.get 0 rfl);unfold ycj;rw [yo];show ob (yQ _ [.val _] h) fnK=_
 simpa [b,yfw (X.at_.get 2 rfl)]
theorem yvX (X:HH h g w bx sp en as xs own) (hs:∀ e∈en,Shp e) (hl:en.length<1000):yca [.loc g.H] h=some (.lst en,h):=by
 obtain ⟨k,j,i,f⟩:=ydi (X.at_.get 0 rfl);have e:=X.at_.get 4 rfl;unfold yca;rw [yo];show ob (yQ _ [.val _] h) fnK=_;rw [ykl,yAA];unfold ydB
 simpa [f]
 simp only [e];rw [if_pos (by omega),ytb e (fun x d=>?_) en.length 0 (by omega)]
 .rfl
 .obtain ⟨a,b,c,x,y,z,rfl⟩:=hs x d;rfl
variable (X:HH h g w bx sp en (as1++a::as2) (xs1++x::xs2) own) (l:as1.length=xs1.length)
include X l
theorem ytd:ybe [.loc g.H,.int as1.length] h=some (.loc a.1,h)/\h[a.1]?=some (ydU x.ds w x.nth x.sl x.bf a.2.rn)/\h[g.H]?=some (ynU g.nu g.ma g.cr g.en) :=
 ⟨yeB (q:=qOf bx sp en _ as1.length a.1 x) (X.foc l).rest (ymv),(X.foc l).rest.get 5 rfl,(X.foc l).rest.get 0 rfl⟩
theorem yDc:ycW [.loc g.H,.int (as1.length:Nat)] h=some (.str (stX x),h):=by
 obtain ⟨d,e,c⟩:=ytd X l;have st:ycz [.loc a.1] h=some (.str (stX x),h):=yfA (X.foc l).rest;unfold ycW;rw [yo];show ob (yQ _ [.val (.loc g.H),.val (.int (as1.length:Nat))] h) fnK=_
 simpa [ycu,yG (m:="hand_at") c (by rfl'),d,yG (m:="state") e (by rfl'),st]
theorem yDd:ycX [.loc g.H,.int (as1.length:Nat)] h=some (.int (x.nth:Nat),h):=by
 obtain ⟨q1,q2,q3⟩:=ytd X l;have f:=(ydj q2).2.2.1;unfold ycX;rw [yo];show ob (yQ _ [.val (.loc g.H),.val (.int (as1.length:Nat))] h) fnK=_
 simpa [ycu,yG (m:="hand_at") q3 (by rfl'),q1,f]
theorem yxq:ycE [.loc g.H,.int (as1.length:Nat)] h=some (.lst (x.s.hs.map .int),h):=by
 obtain ⟨q1,q2,q3⟩:=ytd X l;have k6:=(ydj q2).2.2.2.2.2;have R:=X.foc l;have r1:=(ycV R.run).1;unfold ycE;rw [yo];show ob (yQ _ [.val (.loc g.H),.val (.int (as1.length:Nat))] h) fnK=_
 simpa [ycu,yG (m:="hand_at") q3 (by rfl'),q1,k6,r1,yfw R.held]
theorem yHv (hL:sortI (sK x.s.sn) (sA x.s.sn)=some L):ydN [.loc g.H,.int (as1.length:Nat)] h=some (.lst L,h):=by
 obtain ⟨q1,q2,q3⟩:=ytd X l;have k6:=(ydj q2).2.2.2.2.2;have R:=X.foc l;have r3:=(ycV R.run).2.2.1;have sw:=ysT R.lg.ob R.lg.sn hL;unfold ydN;rw [yo];show ob (yQ _ [.val (.loc g.H),.val (.int (as1.length:Nat))] h) fnK=_
 simpa [ycu,yG (m:="hand_at") q3 (by rfl'),q1,k6,r3,yG (m:="saw") R.lg.ob (by rfl'),sw]
end
noncomputable def Z8:List Int:=[0,0,0,0,0,0,0,0]
abbrev Fr (h h':AH):Prop:=∀ m,At h m->At h' m
def Rdb (d:Str×List Rw):Prop:=∀ h:AH,∃ h',yT yeA (yb (yT ymm (yb (ye 0) yh)) yh) [.val (.str d.1)] h=some (.lst (d.2.map yba),h')/\Fr h h'
noncomputable def txV (d:Str×List Rw):PV:=.str d.1
def ypr (d:Str×List Rw):PV:=.lst (d.2.map yba)
section
variable {h:AH}{w:Int}
theorem At.seen (A:At h m):At ((h++[d]).set h.length d') m:=⟨A.1,fun p hp=>by have:=A.lt hp;rw [getElem?_set_ne (by omega),getElem?_append_left this];exact A.2 p hp⟩
theorem At.one (e:h[n]?=some d):At h [(n,d)]:=⟨by simp,fun p hp=>by rw [List.mem_singleton.mp hp];exact e⟩
theorem Fr.get {h h':AH}(F:Fr h h') {n:Nat}{d:Nd}(e:h[n]?=some d):h'[n]?=some d:=(F _ (At.one e)).get 0 rfl
theorem yte {Y:Type}{n:Nat}{E:XE}{inn:PV->PSt}{f g:Y->PV}{l:List Y}{P:AH->Prop}(hP:∀ h h',Fr h h'->P h->P h') (hE:∀ h a,a∈l->P h->∃ h',E (inn (f a)) h=some (g a,h')/\Fr h h'):∀ (k i:Nat) (h:AH),h[n]?=some (.lst (l.map f))->P h->i+k=l.length->∃ h',yio n E inn k i h=some ((l.drop i).map g,h')/\Fr h h'
 | 0,i,h,e,_,hi=>by refine ⟨h,?_,fun _ A=>A⟩;unfold yio;simp only [e];rw [if_pos (by rw [length_map];omega),List.drop_of_length_le (by omega)];rfl
 | k+1,i,h,e,p,hi=>by
  have hlt:i<l.length:=by omega
  obtain ⟨h1,q1,q2⟩:=hE h l[i] (getElem_mem hlt) p;obtain ⟨h2,q3,q4⟩:=yte hP hE k (i+1) h1 (Fr.get q2 e) (hP _ _ q2 p) (by omega);refine ⟨h2,?_,fun m A=>q4 m (q2 m A)⟩;unfold yio;simp only [e];rw [show (l.map f)[i]?=some (f l[i]) by rw [getElem?_map,List.getElem?_eq_getElem hlt];rfl];simp only [q1,ybE,q3];rw [List.drop_eq_getElem_cons hlt];rfl
theorem yhT {Y:Type}{n:Nat}{E:XE}{f g:Y->PV}{l:List Y}{P:AH->Prop}(hP:∀ h h',Fr h h'->P h->P h') (hE:∀ h a,a∈l->P h->∃ h',E [.val (f a)] h=some (g a,h')/\Fr h h') (e:h[n]?=some (.lst (l.map f))) (p:P h) (hl:l.length<=10000):∃ h',ydB (ye 0) [] E [.val (.loc n)] h=some (.lst (l.map g),h')/\Fr h h':=by obtain ⟨h',q1,q2⟩:=yte (inn:=yfC [] [.val (.loc n)]) hP hE l.length 0 h e p (by omega);refine ⟨h',?_,q2⟩;unfold ydB;rw [show ye 0 [.val (.loc n)] h=some (.loc n,h) from rfl,ybE];simp only [e];rw [if_pos (by rw [length_map];omega),length_map,q1];rfl
theorem yvY {n:Nat}{ds:List (Str×List Rw)}(hd:∀ d∈ds,Rdb d) (hl:ds.length<=100) (e:h[n]?=some (.lst (ds.map txV))):∃ h',ycB [.loc n] h=some (.lst (ds.map ypr),h')/\Fr h h':=by obtain ⟨h',q1,q2⟩:=yhT (f:=txV) (g:=ypr) (P:=fun _=>True) (fun _ _ _ _=>trivial) (fun h a ha _=>hd a ha h) e trivial (by omega);refine ⟨h',?_,q2⟩;unfold ycB;rw [yo];show ob (yQ (xFz (ydB _ _ _)) [.val (.loc n)] h) fnK=_;rw [ykl,yAA,q1];rfl
theorem yvZ {n:Nat}{hs:List (Nat×List (Str×List Rw))}(hd:∀ p∈hs,p.2.length<=6/\∀ d∈p.2,Rdb d) (h1:1<=hs.length) (h8:hs.length<=8) (e:h[n]?=some (.lst (hs.map fun p=>.loc p.1))) (el:∀ p∈hs,h[p.1]?=some (.lst (p.2.map txV))):∃ h',ycC [.loc n] h=some (.lst (hs.map fun p=>.lst (p.2.map ypr)),h')/\Fr h h':=by
 have hP:∀ h h',Fr h h'->(∀ p∈hs,h[p.1]?=some (.lst (p.2.map txV)))->∀ p∈hs,h'[p.1]?=some (.lst (p.2.map txV)):=fun h h' F k p hp=>Fr.get F (k p hp)
 obtain ⟨k1,q1,q2⟩:=yhT (E:=xOp (oGt) (xCB (ydP) (yb (ye 0) (yh))) (xC (.int 6))) (f:=fun p:Nat×List (Str×List Rw)=>.loc p.1) (g:=fun _=>.bl false) hP (fun h a ha k=>⟨h,by
  have l1:=yer (k a ha);have l2:((6:Int)<((a.2.map txV).length:Nat))=False:=eq_false (by have:=(hd _ ha).1;rw [length_map];omega)
  simpa [l1,l2],fun _ A=>A⟩) e el (by omega)
 obtain ⟨h',q3,q4⟩:=yhT (E:=yT ycB (yb (ye 0) (yh))) (f:=fun p:Nat×List (Str×List Rw)=>.loc p.1) (g:=fun p=>.lst (p.2.map ypr)) hP (fun h a ha k=>yvY (hd a ha).2 (by have:=(hd a ha).1;omega) (k a ha)) (Fr.get q2 e) (hP _ _ q2 el) (by omega);have an:∀ h,yxc [.lst (hs.map fun _=>PV.bl false)] h=some (.bl false,h):=fun h=>by unfold yxc ybr;simp only [ykK (fun _:Nat×List (Str×List Rw)=>false)];rw [show (hs.map fun _=>false).any id=false by simp]
 refine ⟨h',?_,fun m A=>q4 m (q2 m A)⟩;have l1:((1:Int)<=((hs.map fun p=>PV.loc p.1).length:Nat))=True:=eq_true (by rw [length_map];omega);have l2:((((hs.map fun p=>PV.loc p.1).length:Nat):Int)<=8)=True:=eq_true (by rw [length_map];omega);unfold ycC;rw [yo];show ob (yl _ _ [.val (.loc n)] h) fnK=_
 simpa [yer e,l1,l2,q1,an,q3]
def hv (k:Nat) (ds:List PV) (w:Int):Nd:=.ins 14 ((["deeds","width","nth","sleeps","before"]:List Str).take k) (([.lst ds,.int w,.int 0,.bl false,.lst (Z8.map .int)]:List PV).take k)
theorem ytf (v:Due ds 0 rows):∃ h' c',ybO [.loc h.length,.lst ds,.int w] (h++[Nd.ins 14 [] []])=some (.non,h')/\∀ m,At h m->RR w rows ((h.length,ydU ds w 0 false Z8 c'.rn)::m) h' c' (S0 Z8):=by
 have N:∀ {k:AH}{d d':Nd},k[h.length]?=some d->(k.set h.length d')[h.length]?=some d':=fun e=>getElem?_set_self (List.getElem?_eq_some_iff.mp e).1
 have q:(h++[Nd.ins 14 [] []])[h.length]?=some (hv 0 ds w):=by simp [hv]
 generalize i:h++[Nd.ins 14 [] []]=k0 at *;have s1:∀ ρ,fL [14] "deeds" ρ (.lst ds) (.loc h.length) k0=some (.nx ρ,k0.set h.length (hv 1 ds w)):=fun ρ=>yfk q (by decide) (by kernel_rfl!)
 have n:=N (d':=hv 1 ds w) q;have s2:∀ ρ,fL [12,14] "width" ρ (.int w) (.loc h.length) (k0.set h.length (hv 1 ds w))=some (.nx ρ,(k0.set h.length (hv 1 ds w)).set h.length (hv 2 ds w)):=fun ρ=>yfk n (by decide) (by kernel_rfl!)
 have l:=N (d':=hv 2 ds w) n;rw [List.set_set] at s2 l;have s3:∀ ρ,fL [14] "nth" ρ (.int 0) (.loc h.length) (k0.set h.length (hv 2 ds w))=some (.nx ρ,(k0.set h.length (hv 2 ds w)).set h.length (hv 3 ds w)):=fun ρ=>yfk l (by decide) (by kernel_rfl!)
 have j:=N (d':=hv 3 ds w) l;rw [List.set_set] at s3 j;have s4:∀ ρ,fL [14] "sleeps" ρ (.bl false) (.loc h.length) (k0.set h.length (hv 3 ds w))=some (.nx ρ,(k0.set h.length (hv 3 ds w)).set h.length (hv 4 ds w)):=fun ρ=>yfk j (by decide) (by kernel_rfl!)
 have g:=N (d':=hv 4 ds w) j;rw [List.set_set] at s4 g;have s5:∀ ρ,fL [14] "before" ρ (.lst (Z8.map .int)) (.loc h.length) (k0.set h.length (hv 4 ds w))=some (.nx ρ,(k0.set h.length (hv 4 ds w)).set h.length (hv 5 ds w)):=fun ρ=>yfk g (by decide) (by kernel_rfl!)
 have f:=N (d':=hv 5 ds w) g;rw [List.set_set] at s5 f;obtain ⟨h',c',t,r⟩:=yhc (rows:=rows) (nth:=0) (bf:=Z8) (w:=w) (ds:=ds) (fl 0 f (by decide) (by rfl') rfl) (fl 1 f (by decide) (by rfl') rfl) (fl 2 f (by decide) (by rfl') rfl) (fl 4 f (by decide) (by rfl') rfl) v;have R:∀ m,At h m->RR w rows ((h.length,hv 5 ds w)::m) h' c' (S0 Z8):=fun m A=>r _ (by have o:=At.new (Nd.ins 14 [] []) (a:=[]) A;rw [i] at o;exact At.upd (a:=[]) (hv 5 ds w) o)
 have u:At h []:=⟨List.nodup_nil,fun p hp=>by simp at hp⟩
 have s:h'[h.length]?=some (hv 5 ds w):=(R [] u).rest.get 0 rfl;have s6:∀ ρ,fL [14] "run" ρ (.loc c'.rn) (.loc h.length) h'=some (.nx ρ,h'.set h.length (ydU ds w 0 false Z8 c'.rn)):=fun ρ=>yfk s (by decide) (by kernel_rfl!)
 refine ⟨_,c',?_,fun m A=>RR.urest (a:=[]) _ (R m A)⟩;have l0:∀ k,yI [.lst ds] k=some (.lst ds,k):=fun _=>rfl
 unfold ybO;rw [yo];show ob (yl _ _ [.val (.loc h.length),.val (.lst ds),.val (.int w)] k0) fnK=_
 simpa [yqw,l0,s1,s2,s3,s4]
 rw [if_pos (by decide),show PV.lst (repL ((8:Nat):Int).toNat [PV.int 0])=.lst (Z8.map .int) from rfl]
 simpa [yqw,s5,ycu,yG (m:="new_run") f (by rfl'),t,s6]
end
section
variable {h:AH}{w:Int}
theorem yDe (b:0<=i/\i<B64):ydo [.int i] h=some (.bl true,h):=by
 have e:yex [.int i] h=some (.bl true,h):=rfl;have c:=eq_true b.1;have d:=eq_true b.2;unfold ydo;rw [yo];show ob (yQ _ [.val _] h) fnK=_
 simpa [e,c,d]
theorem ywa {nb:Nat}{bx:List Int}(h1:1<=bx.length) (h16:bx.length<=16) (hb:∀ i∈bx,0<=i/\i<B64) (e:h[nb]?=some (.lst (bx.map .int))):∃ h',ydM [.loc nb] h=some (.non,h')/\Fr h h':=by
 obtain ⟨h',q1,q2⟩:=yhT (E:=yT ydo (yb (ye 0) (yh))) (f:=PV.int) (g:=fun _=>.bl true) (P:=fun _=>True) (fun _ _ _ _=>trivial) (fun h i hi _=>⟨h,by
  show yT ydo (yb (ye 0) (yh)) [.val (.int i)] h=_;have:=yDe (h:=h) (hb i hi)
  simpa [this],fun _ A=>A⟩) e trivial (by omega)
 refine ⟨h',?_,q2⟩;have e2:∀ h,yyF [.lst (bx.map fun _=>PV.bl true)] h=some (.bl true,h):=fun h=>by unfold yyF ybr;simp only [ykK (fun _:Int=>true)];rw [List.all_eq_true.mpr fun x hx=>by obtain ⟨_,_,rfl⟩:=List.mem_map.mp hx;rfl]
 have l1:(((bx.map PV.int).length:Nat):Int)=bx.length:=by rw [length_map]
 have l2:((1:Int)<=(bx.length:Nat))=True:=eq_true (by omega);have l3:(((bx.length:Nat):Int)<=16)=True:=eq_true (by omega);unfold ydM;rw [yo];show ob (yl _ _ [.val (.loc nb)] h) fnK=_
 simpa [yer e,l1,l2,l3,q1,e2]
end
noncomputable def av (k nu ma cr en:Nat):Nd:=.ins 15 ((["numbers","marks","crew","entries"]:List Str).take k) (([.loc nu,.loc ma,.loc cr,.loc en]:List PV).take k)
def hd0 (ds:List (Str×List Rw)):HD:=⟨ds.map ypr,0,false,Z8,match ds with|[]=>[]|d::_=>d.2.map yba,S0 Z8⟩
theorem yGS:∀ ds,Due (hd0 ds).ds 0 (hd0 ds).rows
 | []=>.inr ⟨rfl,rfl⟩
 | d::r=>.inl ⟨by simp [hd0],rfl⟩
section
variable {h:AH}{w:Int}
theorem yiG:∀ {b:List _}{xs:List HD}{m:List _},CR w b xs m=CR w b xs []++m
 | [],_,_=>rfl
 | _::_,[],_=>rfl
 | a::b,x::xs,m=>by show HN w a x _=HN w a x _++m;rw [yhs,yhs (m:=CR w b xs []),yiG,append_assoc]
theorem yHw n:repL ((n:Nat):Int).toNat [PV.int 0]=(replicate n 0).map .int:=by show (replicate n _).flatten=_;simp_all
theorem ytg {nb:Nat}{bx:List Int}(hρ:∀ x,yfC [1] ρ x=[.val x,.val (.loc nb)]):∀ (hs:List (List (Str×List Rw))) (h:AH),h[nb]?=some (.lst (bx.map .int))->∃ h' as,yll (yfe 14 ybO (yb (ye 0) (yb (xCB (ydP) (yb (ye 1) (yh))) (yh)))) (yfC [1] ρ) (hs.map fun ds=>.lst (ds.map ypr)) h=some ((as.map (·.1)).map .loc,h')/\LyOk as (hs.map hd0)/\∀ m,At h m->At h' (CR bx.length as (hs.map hd0) m)
 | [],h,_=>⟨h,[],rfl,trivial,fun _ A=>A⟩
 | ds::hs,h,eb=>by
  obtain ⟨h1,c1,q1,q2⟩:=ytf (h:=h) (w:=bx.length) (yGS ds);obtain ⟨h',as,q3,q4,q5⟩:=ytg hρ hs h1 ((q2 _ (At.one eb)).rest.get 1 rfl);have lb:=fun d=>yer (h:=h++[d]) (by rw [getElem?_append_left (List.getElem?_eq_some_iff.mp eb).1];exact eb)
  have lb':=yer eb;have lw:(((bx.map PV.int).length:Nat):Int)=bx.length:=by rw [length_map]
  have e0:At h []:=⟨List.nodup_nil,fun p hp=>by simp at hp⟩
  refine ⟨h',(h.length,c1)::as,?_,⟨(q2 [] e0).len,q4⟩,fun m A=>?_⟩
  .show ob (yfe 14 ybO _ (yfC [1] ρ (.lst (ds.map ypr))) h) _=_;rw [hρ,ynO];have q1:ybO [.loc h.length,.lst (ds.map ypr),.int bx.length] (h++[Nd.ins 14 [] []])=some (.non,h1):=q1
   simpa [lb,lb',lw,q1,q3]
   rfl
  .have R:=q2 m A;have A1:At h1 (HN bx.length (h.length,c1) (hd0 ds) m):=by have A2:=R.at_;rw [yiD] at A2;show At h1 ((h.length,ydU (ds.map ypr) bx.length 0 false Z8 c1.rn)::RM _ _ _ _ _);rw [yiD];exact A2.perm List.perm_middle.symm
   have A3:=q5 _ A1;rw [yiG,yhs] at A3;show At h' (HN bx.length (h.length,c1) (hd0 ds) (CR bx.length as (hs.map hd0) m));rw [yhs,yiG];exact A3.perm (List.perm_append_comm_assoc _ _ _)
theorem yth {bx:List Int}{nb n:Nat}{hs:List (Nat×List (Str×List Rw))}(h1:1<=bx.length) (h16:bx.length<=16) (hb:∀ i∈bx,0<=i/\i<B64) (hd:∀ p∈hs,p.2.length<=6/\∀ d∈p.2,Rdb d) (hh1:1<=hs.length) (hh8:hs.length<=8) (eb:h[nb]?=some (.lst (bx.map .int))) (e:h[n]?=some (.lst (hs.map fun p=>.loc p.1))) (el:∀ p∈hs,h[p.1]?=some (.lst (p.2.map txV))) :
  ∃ h' g as,yZ [.loc h.length,.loc nb,.loc n] (h++[Nd.ins 15 [] []])=some (.non,h')/\g.H=h.length/\∀ m,At h m->HH h' g bx.length bx (replicate bx.length 0) [] as (hs.map fun p=>hd0 p.2) m:=by
 have e0:At h []:=⟨List.nodup_nil,fun p hp=>by simp at hp⟩
 have A0:∀ m,At h m->At (h++[Nd.ins 15 [] []]) ((h.length,.ins 15 [] [])::m):=fun m A=>At.new _ (a:=[]) A
 obtain ⟨k0,c0,Fc⟩:=ywa (h:=h++[Nd.ins 15 [] []]) (nb:=nb) h1 h16 hb ((A0 _ (At.one eb)).get 1 rfl);replace A0:∀ m,At h m->At k0 ((h.length,.ins 15 [] [])::m):=fun m A=>Fc _ (A0 m A)
 clear Fc;generalize h++[Nd.ins 15 [] []]=kk at *;have A1:∀ m,At h m->At (k0++[Nd.lst (bx.map .int)]) ((h.length,.ins 15 [] [])::(k0.length,.lst (bx.map .int))::m):=fun m A=>At.new _ (a:=[_]) (A0 m A)
 have s1:∀ ρ,fL [15] "numbers" ρ (.loc k0.length) (.loc h.length) (k0++[Nd.lst (bx.map .int)])=some (.nx ρ,(k0++[Nd.lst (bx.map .int)]).set h.length (av 1 k0.length 0 0 0)):=fun ρ=>yfk ((A1 [] e0).get 0 rfl) (by decide) (by kernel_rfl!)
 have A2:=fun m A=>At.upd (a:=[]) (av 1 k0.length 0 0 0) (A1 m A)
 have b1:=(A2 _ (At.one eb)).get 2 rfl;generalize hnu:k0.length=nu at *;generalize (k0++[Nd.lst (bx.map .int)]).set h.length (av 1 nu 0 0 0)=k1 at *;have A3:∀ m,At h m->At (k1++[Nd.lst ((replicate bx.length (0:Int)).map .int)]) ((h.length,av 1 nu 0 0 0)::(nu,.lst (bx.map .int))::(k1.length,.lst ((replicate bx.length (0:Int)).map .int))::m):=fun m A=>At.new _ (a:=[_,_]) (A2 m A)
 have s2:∀ ρ,fL [15] "marks" ρ (.loc k1.length) (.loc h.length) (k1++[Nd.lst ((replicate bx.length (0:Int)).map .int)])=some (.nx ρ,(k1++[Nd.lst ((replicate bx.length (0:Int)).map .int)]).set h.length (av 2 nu k1.length 0 0)):=fun ρ=>yfk ((A3 [] e0).get 0 rfl) (by decide) (by kernel_rfl!)
 have A4:=fun m A=>At.upd (a:=[]) (av 2 nu k1.length 0 0) (A3 m A)
 generalize hma:k1.length=ma at *;generalize (k1++[Nd.lst ((replicate bx.length (0:Int)).map .int)]).set h.length (av 2 nu ma 0 0)=k2 at *;have F2:Fr h k2:=fun m A=>(A4 m A).sub (((List.Sublist.refl m).cons _).cons _ |>.cons _)
 obtain ⟨k3,q1,q2⟩:=yvZ (h:=k2) hd hh1 hh8 (Fr.get F2 e) fun p hp=>Fr.get F2 (el p hp)
 obtain ⟨k4,as,q3,q4,q5⟩:=ytg (bx:=bx) (ρ:=[.val (.loc h.length),.val (.loc nb),.val (.loc n)]) (fun _=>rfl) (hs.map (·.2)) k3 (Fr.get q2 (Fr.get F2 eb));have R4:=fun m A=>q5 _ (q2 _ (A4 m A))
 have mm:(hs.map (·.2)).map hd0=hs.map fun p=>hd0 p.2:=by rw [map_map];rfl
 have mv:((hs.map (·.2)).map fun ds=>PV.lst (ds.map ypr))=hs.map fun p=>.lst (p.2.map ypr):=by rw [map_map];rfl
 rw [mm] at q4;rw [mv] at q3;have R4':∀ m,At h m->At k4 ((h.length,av 2 nu ma 0 0)::(nu,.lst (bx.map .int))::(ma,.lst ((replicate bx.length (0:Int)).map .int))::CR bx.length as (hs.map fun p=>hd0 p.2) m):=fun m A=>by have:=R4 m A;rw [mm,yiG] at this;rw [yiG];exact this.perm (show ([_,_,_]++(CR bx.length as (hs.map fun p:Nat×List (Str×List Rw)=>hd0 p.2) []++m)).Perm (CR bx.length as (hs.map fun p:Nat×List (Str×List Rw)=>hd0 p.2) []++([_,_,_]++m)) from List.perm_append_comm_assoc _ _ _)
 have R5:=fun m A=>At.new (Nd.lst ((as.map (·.1)).map .loc)) (a:=[_,_,_]) (R4' m A)
 have s3:∀ ρ,fL [15] "crew" ρ (.loc k4.length) (.loc h.length) (k4++[Nd.lst ((as.map (·.1)).map .loc)])=some (.nx ρ,(k4++[Nd.lst ((as.map (·.1)).map .loc)]).set h.length (av 3 nu ma k4.length 0)):=fun ρ=>yfk ((R5 [] e0).get 0 rfl) (by decide) (by kernel_rfl!)
 have R6:=fun m A=>At.upd (a:=[]) (av 3 nu ma k4.length 0) (R5 m A)
 generalize hcr:k4.length=cr at *;generalize (k4++[Nd.lst ((as.map (·.1)).map .loc)]).set h.length (av 3 nu ma cr 0)=k6 at *;have R7:=fun m A=>At.new (Nd.lst []) (a:=[_,_,_,_]) (R6 m A)
 have s4:∀ ρ,fL [15] "entries" ρ (.loc k6.length) (.loc h.length) (k6++[Nd.lst []])=some (.nx ρ,(k6++[Nd.lst []]).set h.length (av 4 nu ma cr k6.length)):=fun ρ=>yfk ((R7 [] e0).get 0 rfl) (by decide) (by kernel_rfl!)
 have R8:=fun m A=>At.upd (a:=[]) (av 4 nu ma cr k6.length) (R7 m A)
 refine ⟨_,⟨h.length,nu,ma,cr,k6.length⟩,as,?_,rfl,fun m A=>⟨R8 m A,q4⟩⟩;have l0:=yfw ((A0 _ (At.one eb)).get 1 rfl);have ll:=yer b1;have lw:(((bx.map PV.int).length:Nat):Int)=bx.length:=by rw [length_map]
 unfold yZ;rw [yo];show ob (yl _ _ [.val (.loc h.length),.val (.loc nb),.val (.loc n)] kk) fnK=_
 simpa [yqw,c0,l0,hnu,s1,ll,lw]
 rw [if_pos (by omega),yHw];have i1:xIL (yT ycC (yb (ye 2) (yh))) [.val (.loc h.length),.val (.loc nb),.val (.loc n)] k2=some (hs.map fun p=>.lst (p.2.map ypr),k3):=by
  unfold xIL
  simpa [q1]
 have l8:((hs.map fun p=>PV.lst (p.2.map ypr)).length<=100000)=True:=eq_true (by rw [length_map];omega)
 simpa [yqw,hma,s2,i1,l8,q3,hcr,s3,s4]
end
section
variable {h:AH}
abbrev Pc:=Q×(Int->List Rw)
def lrB (n:Nat):XS:=ynK 2 (yT (ydT n) (yb (ye 3) (yb (xOp yeG (ye 1) (yhB 2)) yh)))
structure ytK (d:Nat) (ar:Int) (p:Pc):Prop where
 rd:∀ n,PQ (n+d) ar p.1
 lg:∀ n (h:AH),ynF "long" (yix (n+d)) (ye 0) [.val p.1.1] h=some (.int ((p.2 0).length:Nat),h)
 rw:∀ n (f:Int) (h:AH),ydT (n+d) [p.1.1,.int f] h=some (.lst ((p.2 f).map yba),h)
 fs:frs p.1.2
 ln:∀ f,(p.2 f).length=(p.2 0).length
noncomputable def AllOk (d:Nat) (ar:Int) (l:List Pc):Prop:=∀ p∈l,ytK d ar p
noncomputable def cat:List Pc->Int->List Rw
 | [],_=>[]
 | p::l,f=>p.2 f++cat l (f+((p.2 f).length:Nat))
noncomputable def lgs (l:List Pc):Int:=(l.map fun p=>((p.2 0).length:Int)).sum
section
variable {d:Nat}{ar:Int}{p:Pc}{l:List Pc}
theorem AllOk.c (a:ytK d ar p) (b:AllOk d ar l):AllOk d ar (p::l):=List.forall_mem_cons.2 ⟨a,b⟩
theorem AllOk.n:AllOk d ar []:=fun _ h=>by cases h
theorem AllOk.a (a:AllOk d ar l) (b:AllOk d ar m):AllOk d ar (l++m):=fun p hp=>(List.mem_append.mp hp).elim (a p) (b p)
theorem ygj:∀ {l:List Pc}{f:Int},AllOk d ar l->(cat l f).length=lgs l
 | [],_,_=>rfl
 | p::l,f,H=>by
  have:=ygj (f:=f+(p.2 f).length) fun p h=>H p (mem_cons_of_mem _ h)
  have e:=(H p mem_cons_self).ln f;unfold cat;rw [length_append,Int.natCast_add,this,e];rfl
theorem yDf:∀ l,0<=lgs l
 | []=>Int.le_refl _
 | p::l=>Int.add_nonneg (Int.natCast_nonneg _) (yDf l)
theorem ywb:lgs (l++m)=lgs l+lgs m:=by unfold lgs;simp_all
end
theorem yDg (c:ρ[i]?=some (.own (.lst xs))) (b:e ρ h=some (.lst ys,h1)) (hl:xs.length+ys.length<=100000):ynK i e ρ h=some (.nx (ρ.set i (.own (.lst (xs++ys)))),h1):=by unfold ynK;rw [c];show ob _ _=_;rw [b,ybE];simp_all
section
variable {d n:Nat}{ar:Int}
theorem yti:∀ l R v,AllOk d ar l->R.length+lgs l<=1000 ->
  ∃ b,yhN (yq 3) (lrB (n+d)) (l.map fun p=>p.1.1) [.val X,.val (.int F),.own (.lst (R.map yba)),v] h=some (.nx [.val X,.val (.int F),.own (.lst ((R++cat l (F+R.length)).map yba)),b],h)
 | [],R,v,_,_=>⟨v,by show some _=_;unfold cat;rw [append_nil]⟩
 | p::l,R,v,hp,hl=>by
  have P:=hp p mem_cons_self;have g:=P.rw n (F+R.length) h;have i:=P.ln (F+R.length);have l0:=yDf l;have hl:R.length+((p.2 0).length+lgs l)<=1000:=hl;obtain ⟨b,e⟩:=yti l (R++p.2 _) _ (fun p c=>hp p (mem_cons_of_mem _ c)) (by rw [length_append,Int.natCast_add,i];omega);refine ⟨b,?_⟩;have f:lrB (n+d) [.val X,.val (.int F),.own (.lst (R.map yba)),.val p.1.1] h=some (.nx [.val X,.val (.int F),.own (.lst ((R++p.2 (F+R.length)).map yba)),.val p.1.1],h):=by
   refine (yDg (ys:=(p.2 (F+R.length)).map yba) (h1:=h) rfl ?_ (by grind)).trans (by simp_all);have:yhB 2 [.val X,.val (.int F),.own (.lst (R.map yba)),.val (p.1.1)] h=some _:=rfl;rw [length_map] at this
   simpa [this,g]
  show yhN _ _ (p.1.1::l.map _) _ h=_;rw [ykN rfl f,e,show cat (p::l) _=p.2 _++cat l _ from rfl];rw [append_assoc,length_append,Int.natCast_add,Int.add_assoc]
theorem yfo (hp:AllOk d ar l) (hl:lgs l<=999):ycA (n+d+1) [.lst (l.map fun p=>p.1.1),.int F] h=some (.lst ((cat l F).map yba),h):=by
 obtain ⟨f,e⟩:=yti (n:=n) l [] .no hp (by show (0:Int)+_<=_;omega);rw [show F+([].length:Nat)=F from Int.add_zero F] at e;have c:xIL (ye 0) [.val _,.val (.int F),.own (.lst []),.no] h=some (l.map fun p=>p.1.1,h):=ynT rfl;have b:yhN _ _ _ [.val (.lst (l.map fun p=>p.1.1)),.val _,.own (.lst []),.no] h=some (.nx [.val _,.val _,.own (.lst ((cat l F).map yba)),f],h):=e;unfold ycA;rw [yo];show ob (yl _ (yl (yjd _ _ (lrB _)) _) [.val _,.val _,.no,.no] h) fnK=_
 simpa [c,b]
theorem yem (H:AllOk d ar l) (hl:l.length<=100):yY (n+d+1) [.lst (l.map fun p=>p.1.1)] h=some (.int (lgs l),h):=by unfold yY;rw [yo];symm;rw [ynT rfl,ybE];rw [if_pos (by grind)];rw [ygb (f:=fun p=>p.1.1) (g:=fun p=>.int _) fun p hp=>(H p hp).lg n h];symm;rw [show (l.map _)=(l.map _).map PV.int by rw [map_map];rfl];unfold yDT ybr;simp only [yjD];rfl
theorem yqi (hp:AllOk d ar l) (hd:d<=44) (hl:lgs l<=999):yeA [.lst (l.map fun p=>p.1.1)] h=some (.lst ((cat l 0++[Rw.lay]).map yba),h):=by
 have b:=by have:=yfo (h:=h) (n:=44-d) (F:=0) hp hl;rwa [show 44-d+d+1=45 by omega] at this
 have:=ygj (f:=0) hp;unfold yeA;rw [yo];show ob (yQ _ [.val _] h) fnK=_
 simpa [b]
 rw [if_pos (by grind),map_append];rfl
end
theorem yzP:∀ {B:Nat} l,(∀ q∈l,frs q.2/\q.2.length<=B/\q.2≠[])->frs (wr l)/\(wr l).length<=(B+1)*l.length/\∀ q:Q,q.2≠[]->Str.join " ; " ((q::l).map fun q=>Str.join " " q.2)=Str.join " " (q.2++wr l)
 | _,[],_=>⟨(fun _ h=>by cases h),Nat.le_refl _,fun q _=>by show _=Str.join " " (q.2++[]);rw [append_nil];rfl⟩
 | B,u::l,H=>by
  obtain ⟨h1,h2,c⟩:=H u mem_cons_self;obtain ⟨e,g,d⟩:=yzP l fun q h=>H q (mem_cons_of_mem _ h)
  refine ⟨List.forall_mem_cons.2 ⟨yjf _ (by rfl'),yfj h1 e⟩,?_,fun q f=>?_⟩
  .show (u.2++wr l).length+1<=(B+1)*(l.length+1);grind
  .show Str.join " " q.2++" ; "++Str.join " ; " _=Str.join " " (q.2++(";":Str)::(u.2++wr l));rw [d u c,yfz f (fun z=>by cases z),ysv fun z=>c (List.append_eq_nil_iff.mp z).1,yCH];simp only [ymn]
theorem yob (f:frs W) (c:W≠[]) (hl:W.length<=3000):yfy [.str (Str.join " " W)] h=some (.lst (W.map .str),h):=by
 have e:=yhS " " (by rfl') W f;unfold yfy;rw [yo];show ob (yl _ _ [.val _] h) fnK=_
 simpa [yzr f c,yzc (show (Str.join " " W).length<=100000 by omega),yin _ c fun w d=>(f w d).1,↓reduceIte]
theorem yDh (H:AllOk d 0 (p::l)) (hd:d<=44) (es:s=Str.join " ; " ((p::l).map fun p=>Str.join " " p.1.2)) (x:∀ q∈p::l,q.1.2.length<=99) (hl:l.length<=28) (F:lgs (p::l)<=79):Rdb (s,cat (p::l) 0++[Rw.lay])/\s.length<=69000:=by
 have A:∀ q∈(p::l).map (·.1),PQ 44 0 q/\frs q.2/\q.2.length<=99/\q.2≠[]:=fun q f=>by obtain ⟨p,hp,rfl⟩:=List.mem_map.mp f;have R:=(H p hp).rd (44-d);rw [show 44-d+d=44 by omega] at R;obtain ⟨P,w,tl,e,n⟩:=R;exact ⟨⟨P,w,tl,e,n⟩,(H p hp).fs,x p hp,by rw [e];exact fun z=>by cases z⟩
 obtain ⟨a1,a2,a3,a4⟩:=A p.1 mem_cons_self;obtain ⟨B,v,E⟩:=yzP (l.map (·.1)) fun q f=>(A q (mem_cons_of_mem _ f)).2
 have c:s=Str.join " " (wl ((p::l).map (·.1))):=by rw [es];refine .trans ?_ (E p.1 a4);rw [map_cons,map_cons,map_map];rfl
 have j:frs (wl ((p::l).map (·.1))):=yfj a2 B;have u:wl ((p::l).map (·.1))≠[]:=fun z=>a4 (List.append_eq_nil_iff.mp z).1
 have D:(wl ((p::l).map (·.1))).length<=3000:=by show (p.1.2++wr (l.map (·.1))).length<=3000;rw [length_append];rw [length_map] at v;omega
 refine ⟨fun h=>?_,by have:=yhS " " (by rfl') _ j;rw [c];omega⟩;have I:(p::l).length<=79:=by rw [length_cons];omega
 have k:∀ h,yeA [.lst ((p::l).map (·.1.1))] h=some _:=fun h=>yqi H hd (by omega)
 obtain ⟨d,d',C⟩:∃ d d',ymm [.str s] h=some (.lst ((p::l).map (·.1.1)),(h++[d]).set h.length d'):=by
  refine ⟨rdr (wl ((p::l).map (·.1))) 0,rdr (wl ((p::l).map (·.1))) (0+(wl ((p::l).map (·.1))).length),?_⟩;rw [c];clear c es k;have t:=fun h=>by have:=yem (h:=h) (n:=44-d) H (by omega);rwa [show 44-d+d+1=45 by omega] at this
  generalize o:(p::l).map (·.1)=b at *;have hv:b.map (·.1)=(p::l).map (·.1.1):=by rw [<- o,map_map];rfl
  have i:b.length<=90:=by rw [<- o,length_map];omega
  unfold ymm;rw [yo];show ob (yl _ _ [.val (.str (Str.join " " (wl b))),.no,.no] h) fnK=_;have y:h.length<(h++[rdr (wl b) 0]).length:=by simp
  have c:h++[rdr (wl b) 0]=hR (h++[rdr (wl b) 0]) h.length (wl b) 0:=by unfold hR;simp
  simpa [yob j u D,show ydp [PV.lst (List.map PV.str (wl b))] h=some (rdr (wl b) 0,h) from rfl]
  generalize J:h++[rdr (wl b) 0]=G at *;conv=>lhs;rw [c]
  have r:h.length<G.length/\(wl b).length<=100000:=⟨y,by omega⟩
  simpa [ycu,list_eq (rest:=[]) r (.inl rfl) (fun q f=>(A q f).1) i (show (wl b).drop 0=wl b++[] by simp),hv,yeR r (show (wl b).drop (0+(wl b).length)=[] by simp),hdV,t]
  rw [if_neg (by intro z;cases z),if_neg (by omega)];rfl
 refine ⟨(h++[d]).set h.length d',?_,fun m A=>At.seen A⟩;dsimp only;clear es c
 simpa [C,k]
end
noncomputable def vR:Rw->PV
 | .let_ r n=>.ins 1 ["slot","number"] [.str r,.int n]
 | .reckon w a b c=>.ins 2 ["word","slot","one","other"] [.str w,.str a,.str b,.str c]
 | .take r s=>.ins 3 ["slot","place"] [.str r,.str s]
 | .put r s=>.ins 4 ["place","slot"] [.str r,.str s]
 | .throw r s=>.ins 8 ["name","slot"] [.str r,.str s]
 | _=>.ins 9 [] []
def wR:Rw->List Str
 | .let_ r n=>["let",r,(tI n)]
 | .reckon w a b c=>[w,a,b,c]
 | .take r s=>["take",r,s]
 | .put r s=>["put",r,s]
 | .throw r s=>["throw",r,s]
 | _=>["wait"]
abbrev qR (r:Rw):Q:=(vR r,wR r)
def pl (r:Rw):Pc:=(qR r,fun _=>[r])
def sd (l:List Q):List Str:=("(":Str)::(wl l++[(")":Str)])
def iQ (s:Str) (a b:List Q):Q:=(.ins 5 ["slot","parts","others"] [.str s,.lst (a.map (·.1)),.lst (b.map (·.1))],("if":Str)::s::(sd a++("else":Str)::sd b))
def eQ (a b:List Q):Q:=(.ins 6 ["parts","others"] [.lst (a.map (·.1)),.lst (b.map (·.1))],("either":Str)::(sd a++("or":Str)::sd b))
def tQ (nm s:Str) (a b:List Q):Q:=(.ins 7 ["parts","name","slot","others"] [.lst (a.map (·.1)),.str nm,.str s,.lst (b.map (·.1))],("try":Str)::(sd a++("on":Str)::nm::s::sd b))
def sl (r:Str):Prop:=yel r/\fr r
def gdR:Rw->Prop
 | .let_ r n=>sl r/\0<=n/\n<B64
 | .reckon w a b c=>w∈W5/\sl a/\sl b/\sl c
 | .take r s|.put r s=>sl r/\sl s
 | .throw r s=>(yiz r/\fr r)/\sl s
 | .wait=>True
 | _=>False
theorem slA:sl "a":=⟨fun _=>rfl,yjf _ (rfl)⟩
theorem yEb:sl "b":=⟨fun _=>rfl,yjf _ (rfl)⟩
theorem slC:sl "c":=⟨fun _=>rfl,yjf _ (rfl)⟩
theorem slD:sl "d":=⟨fun _=>rfl,yjf _ (rfl)⟩
def PF (n:Nat) (ar:Int) (q:Q):Prop:=PQ n ar q/\frs q.2
def LF (n:Nat) (ar:Int) (l:List Q):Prop:=(∀ q∈l,PF n ar q)/\l.length<=90
section
variable {n:Nat}{ar:Int}{r:Rw}{a b l:List Q}{q:Q}{s nm:Str}
theorem ydh {l:List Str}(h:fr w) (k:frs l):frs (w::l):=List.forall_mem_cons.2 ⟨h,k⟩
theorem ykP:frs []:=fun _ h=>by cases h
theorem yFP (g:gdR r) (f:ar<=8):PF (n+1) ar (qR r):=by
 cases r with
 | let_ r n=>exact ⟨⟨yjM (rfl) f (yFG g.1.1 g.2),_,_,rfl,eq_false (by rfl')⟩,ydh (yjf _ (rfl)) (ydh g.1.2 (ydh (yxj g.2.1 g.2.2) ykP))⟩
 | take r s=>exact ⟨⟨yjM (rfl) f (yxn g.1.1 g.2.1).1,_,_,rfl,eq_false (by rfl')⟩,ydh (yjf _ (rfl)) (ydh g.1.2 (ydh g.2.2 ykP))⟩
 | put r s=>exact ⟨⟨yjM (rfl) f (yxn g.1.1 g.2.1).2,_,_,rfl,eq_false (by rfl')⟩,ydh (yjf _ (rfl)) (ydh g.1.2 (ydh g.2.2 ykP))⟩
 | throw r s=>exact ⟨⟨yjM (rfl) f (yzw g.1.1 g.2.1),_,_,rfl,eq_false (by rfl')⟩,ydh (yjf _ (rfl)) (ydh g.1.2 (ydh g.2.2 ykP))⟩
 | wait=>exact ⟨⟨yjM (rfl) f yCK,_,_,rfl,eq_false (by rfl')⟩,ydh (yjf _ (rfl)) ykP⟩
 | reckon w a b c=>refine ⟨⟨yjM ?_ f (yvH g.1 g.2.1.1 g.2.2.1.1 g.2.2.2.1),_,_,rfl,eq_false ?_⟩,ydh ?_ (ydh g.2.1.2 (ydh g.2.2.1.2 (ydh g.2.2.2.2 ykP)))⟩<;>rcases yxl g.1 with rfl|rfl|rfl|rfl|rfl<;>first|exact yjf _ (rfl)|rfl'
 | _=>exact g.elim
theorem LF.f (k:LF n ar l):frs (sd l):=by
 have e:∀ l,(∀ q∈l,PF n ar q)->frs (wr l):=fun l=>by
  induction l with
  | nil=>exact fun _=>ykP
  | cons q l ih=>exact fun h=>ydh (yjf _ (by rfl')) (yfj (h q mem_cons_self).2 (ih fun q f=>h q (mem_cons_of_mem _ f)))
 refine ydh (yjf _ (rfl)) (yfj ?_ (ydh (yjf _ (rfl)) ykP));cases l with
 | nil=>exact ykP
 | cons q l=>exact yfj (k.1 q mem_cons_self).2 (e l fun q f=>k.1 q (mem_cons_of_mem _ f))
theorem LF.t (k:LF n ar l):Tk "side_taken" (yt (n+2)) [.int ar] (.lst (l.map (·.1))) (sd l):=yCL (fun q d=>(k.1 q d).1) k.2
theorem yHx (e:ar<=8) (A:LF n (ar+1) a) (B:LF n (ar+1) b):PF (n+4) ar (eQ a b):=⟨⟨(ysA e).1 (yvI A.t B.t),_,_,rfl,eq_false (by rfl')⟩,ydh (yjf _ (rfl)) (yfj A.f (ydh (yjf _ (rfl)) B.f))⟩
theorem yHy (e:ar<=8) (g:sl s) (A:LF n (ar+1) a) (B:LF n (ar+1) b):PF (n+4) ar (iQ s a b):=⟨⟨yvJ e (yHt g.1 A.t B.t),_,_,rfl,eq_false (by rfl')⟩,ydh (yjf _ (rfl)) (ydh g.2 (yfj A.f (ydh (yjf _ (rfl)) B.f)))⟩
theorem yHz (f:ar<=8) (e:yiz nm/\fr nm) (g:sl s) (A:LF n (ar+1) a) (B:LF n (ar+1) b):PF (n+4) ar (tQ nm s a b):=⟨⟨(ysA f).2 (yFH e.1 g.1 A.t B.t),_,_,rfl,eq_false (by rfl')⟩,ydh (yjf _ (rfl)) (yfj A.f (ydh (yjf _ (rfl)) (ydh e.2 (ydh g.2 B.f))))⟩
theorem yqj (g:gdR r) (f:ar<=8):ytK (d+1) ar (pl r):=by
 refine ⟨fun n=>(yFP g f).1,?_,?_,(yFP (n:=0) g f).2,fun _=>rfl⟩
 .intro n;show ∀ h,ynF _ _ _ [.val (vR r)] h=some (.int 1,h);cases r<;>first|exact g.elim|exact fun _=>by kernel_rfl!
 .intro n;cases r with
  | reckon w a b c=>rcases yxl g.1 with rfl|rfl|rfl|rfl|rfl<;>exact fun _ _=>by kernel_rfl!
  | _=>first|exact g.elim|exact fun _ _=>by kernel_rfl!
end
noncomputable def qs (l:List Pc):List Q:=l.map (·.1)
def ifP (s:Str) (A B:List Pc):Pc:=(iQ s (qs A) (qs B),fun f=>.unl s (f+2+lgs A)::(cat A (f+1)++.jump (f+2+lgs A+lgs B)::cat B (f+2+lgs A)))
def eiP (A B:List Pc):Pc:=(eQ (qs A) (qs B),fun f=>.either (f+3+lgs A)::(cat A (f+1)++.settle::.jump (f+3+lgs A+lgs B)::cat B (f+3+lgs A)))
def trP (nm s:Str) (A B:List Pc):Pc:=(tQ nm s (qs A) (qs B),fun f=>.guard nm s (f+3+lgs A)::(cat A (f+1)++.settle::.jump (f+3+lgs A+lgs B)::cat B (f+3+lgs A)))
section
variable {d:Nat}{ar:Int}{A B:List Pc}{h:AH}
theorem AllOk.lf (H:AllOk d ar A) (hl:A.length<=90) n:LF (n+d) ar (qs A):=⟨fun q b=>by obtain ⟨p,hp,rfl⟩:=List.mem_map.mp b;exact ⟨(H p hp).rd n,(H p hp).fs⟩,by unfold qs;simp_all⟩
theorem yHA:(qs A).map (·.1)=A.map fun p=>p.1.1:=by unfold qs;rw [map_map];rfl
theorem ywc {v:PV}{n:Nat}{b:Int}{hd:Int->Rw}{bt:Int->List Rw}(g:AllOk d (ar+1) A) (e:AllOk d (ar+1) B) (hd0:d<=30) (z:A.length<=90/\lgs A<=90) (lb:B.length<=90/\lgs B<=90)
  (q:∀ h,yuP "long" (yix 45) v h=some (.int (b+lgs A+lgs B),h))
  (j:∀ h,yfb [5,6,7] "others" v h=some (.lst (B.map fun p=>p.1.1),h)) (m:∀ h,yfb [5,6,7] "parts" v h=some (.lst (A.map fun p=>p.1.1),h))
  (r:∀ (k:Int) h,yeQ [v,.int k] h=some (yba (hd k),h)) (i:∀ (k:Int) h,ydv [v,.int k] h=some (.lst ((bt k).map yba),h)) (w:∀ k,(bt k).length<=2) {f:Int} :
  yej (n+d+2) [v,.int f] h=some (.lst ((hd (f+b+lgs A)::(cat A (f+1)++(bt (f+b+lgs A+lgs B)++cat B (f+b+lgs A)))).map yba),h):=by
 have hl:=fun h=>by have:=yem (h:=h) (n:=44-d) e (by omega);rwa [show 44-d+d+1=45 by omega] at this
 have u:∀ h,ycA (n+d+1) _ h=some (.lst ((cat A (f+1)).map yba),h):=fun h=>yfo g (by omega)
 have r2:∀ h,ycA (n+d+1) _ h=some (.lst ((cat B (f+b+lgs A)).map yba),h):=fun h=>yfo e (by omega)
 have x:=ygj (f:=f+1) g;have y:=ygj (f:=f+b+lgs A) e;unfold yej;rw [yo];show ob (yl _ _ [.val v,.val (.int f),.no,.no,.no,.no] h) fnK=_;have s:f+b+lgs A+lgs B-lgs B=f+b+lgs A:=by omega
 have t:f+(b+lgs A+lgs B)=f+b+lgs A+lgs B:=by omega
 have k1:∀ {a b:List PV}{h:AH},a.length+b.length<=1000->ymS (.lst a) (.lst b) h=some (.lst (a++b),h):=fun l=>by rw [yrH,if_pos (by omega)]
 have k2:∀ h,ymS (.lst [yba (hd (f+b+lgs A))]) _ h=some (.lst ((hd (f+b+lgs A)::cat A (f+1)).map yba),h):=fun h=>k1 (by grind)
 have k3:∀ h,ymS (.lst ((hd (f+b+lgs A)::cat A (f+1)).map yba)) (.lst ((bt (f+b+lgs A+lgs B)).map yba)) h=some (.lst ((hd (f+b+lgs A)::cat A (f+1)++bt (f+b+lgs A+lgs B)).map yba),h):=fun h=>(k1 (by grind)).trans (by rw [map_append])
 have o:∀ h,ymS (.lst ((hd (f+b+lgs A)::cat A (f+1)++bt (f+b+lgs A+lgs B)).map yba)) (.lst ((cat B (f+b+lgs A)).map yba)) h=some (.lst ((hd (f+b+lgs A)::(cat A (f+1)++(bt (f+b+lgs A+lgs B)++cat B (f+b+lgs A)))).map yba),h):=fun h=>(k1 (by grind)).trans (by rw [<- map_append,append_assoc];rfl)
 clear k1
 simpa [q,j,m,hl,t,s,u,r2,r,i,k2,k3,o,-yrH]
variable (hd0:d<=30) (la:A.length<=90/\lgs A<=90) (lb:B.length<=90/\lgs B<=90) (HA:AllOk d (ar+1) A) (HB:AllOk d (ar+1) B) (ha:ar<=8)
include hd0 la lb HA HB ha
theorem yzQ {n k:Nat}{b:Int}{fs:List Str}{xs:List PV}{F:Nat->Fn}(e:∀ m,F (m+1)=ybp 1 (yQ (xOp yeG (xOp yeG (xC (.int b)) (yT (yY m) (yb (ybc [5,6,7] "parts" (ye 0)) yh))) (yT (yY m) (yb (ybc [5,6,7] "others" (ye 0)) yh)))))
  (f:∀ h,yfb [5,6,7] "others" (.ins k fs xs) h=some (.lst (B.map fun p=>p.1.1),h)) (g:∀ h,yfb [5,6,7] "parts" (.ins k fs xs) h=some (.lst (A.map fun p=>p.1.1),h)):F (n+d+2) [.ins k fs xs] h=some (.int (b+lgs A+lgs B),h):=by
 have a:∀ h,yY (n+d+1) _ h=some _:=fun h=>yem HA (by omega)
 have c:∀ h,yY (n+d+1) _ h=some _:=fun h=>yem HB (by omega)
 rw [e,yo];show ob (yQ _ [.val _] h) fnK=_
 simpa [f,g,a,c]
theorem yzR {k:Nat}{fs ws:List Str}{xs:List PV}{b:Nat}{hd:Int->Rw}{bt:Int->List Rw}{F:Nat->Fn}(q:∀ n,PF (n+d+4) ar (.ins k fs xs,ws)) (v:∀ m,F (m+1)=ybp 1 (yQ (xOp yeG (xOp yeG (xC (.int b)) (yT (yY m) (yb (ybc [5,6,7] "parts" (ye 0)) (yh)))) (yT (yY m) (yb (ybc [5,6,7] "others" (ye 0)) (yh))))))
  (a:∀ h,yfb [5,6,7] "others" (.ins k fs xs) h=some (.lst ((qs B).map (·.1)),h)) (c:∀ h,yfb [5,6,7] "parts" (.ins k fs xs) h=some (.lst ((qs A).map (·.1)),h)) (u:∀ (i:Int) h,yeQ [.ins k fs xs,.int i] h=some (yba (hd i),h)) (r:∀ (i:Int) h,ydv [.ins k fs xs,.int i] h=some (.lst ((bt i).map yba),h))
  (p:∀ k,(bt k).length+1=b) (w:b<=3) (o:∀ m h,yuP "long" (yix (m+1)) (.ins k fs xs) h=F m [.ins k fs xs] h) (s:∀ (f:Int) h,ptT [.val (.ins k fs xs),.val (.int f)] h=some (true,h)) :
  ytK (d+4) ar ((.ins k fs xs,ws),fun f=>hd (f+b+lgs A)::(cat A (f+1)++(bt (f+b+lgs A+lgs B)++cat B (f+b+lgs A)))):=by
 rw [yHA] at a c;have g:∀ f:Int,((hd (f+b+lgs A)::(cat A (f+1)++(bt (f+b+lgs A+lgs B)++cat B (f+b+lgs A)))).length:Int)=b+lgs A+lgs B:=fun f=>by have x:=ygj (f:=f+1) HA;have y:=ygj (f:=f+b+lgs A) HB;grind
 have l:∀ n h,F (n+d+2) _ h=some _:=fun n h=>yzQ (n:=n) (F:=F) hd0 la lb HA HB ha v a c
 have j:∀ h,yuP "long" (yix 45) _ h=some _:=fun h=>by rw [o 44 h,<- l (42-d) h,show 42-d+d+2=44 by omega]
 refine ⟨fun n=>(q n).1,fun n h=>?_,fun n f h=>?_,(q 0).2,fun f=>by have:=g f;have:=g 0;dsimp only;omega⟩
 .rw [g 0,<- l (n+1) h,show n+(d+4)=n+1+d+2+1 by omega];exact o _ h
 .dsimp only;have e:=ywc (n:=n+1) (h:=h) (f:=f) HA HB hd0 la lb j a c u r (fun k=>by have:=p k;omega);rw [show n+(d+4)=n+1+d+2+1 by omega];have t:=s f h;unfold ydT;rw [yo];show ob (yl _ _ [.val _,.val (.int f)] h) fnK=_
  simpa [t,e]
theorem yzS (g:sl s):ytK (d+4) ar (ifP s A B):=yzR (bt:=fun k=>[.jump k]) (F:=yiy) hd0 la lb HA HB ha (fun n=>yHy ha g (HA.lf la.1 n) (HB.lf lb.1 n)) (fun _=>rfl) fun _=>by kernel_rfl! fun _=>by kernel_rfl! fun _ _=>by kernel_rfl! fun _ _=>by kernel_rfl! (fun _=>rfl) (by decide) fun _ _=>by kernel_rfl! fun _ _=>by kernel_rfl!
theorem yFQ:ytK (d+4) ar (eiP A B):=yzR (bt:=fun k=>[.settle,.jump k]) (F:=yeP) hd0 la lb HA HB ha (fun n=>yHx ha (HA.lf la.1 n) (HB.lf lb.1 n)) (fun _=>rfl) fun _=>by kernel_rfl! fun _=>by kernel_rfl! fun _ _=>by kernel_rfl! fun _ _=>by kernel_rfl! (fun _=>rfl) (by decide) fun _ _=>by kernel_rfl! fun _ _=>by kernel_rfl!
theorem yFR (a:yiz nm/\fr nm) (g:sl s):ytK (d+4) ar (trP nm s A B):=yzR (bt:=fun k=>[.settle,.jump k]) (F:=yhb) hd0 la lb HA HB ha (fun n=>yHz ha a g (HA.lf la.1 n) (HB.lf lb.1 n)) (fun _=>rfl) fun _=>by kernel_rfl! fun _=>by kernel_rfl! fun _ _=>by kernel_rfl! fun _ _=>by kernel_rfl! (fun _=>rfl) (by decide) fun _ _=>by kernel_rfl! fun _ _=>by kernel_rfl!
end
noncomputable def shR (f:Int):Rw->Rw
 | .either k=>.either (f+k)
 | .guard a b k=>.guard a b (f+k)
 | .jump k=>.jump (f+k)
 | .unl s k=>.unl s (f+k)
 | r=>r
noncomputable def zn:Nat->Option Nat->List Rw->List (Option Nat)
 | _,_,[]=>[]
 | i,z,r::l=>z::zn (i+1) (match r with|.either _=>some i|.guard ..=>some i|.settle=>none|_=>z) l
def zo (S:List Rw) (i:Nat):Option Nat:=((zn 0 none S)[i]?).getD none
def tg (S:List Rw) (k:Int) (z:Option Nat):Bool:=decide (0<=k) && decide (k.toNat<=S.length) && (zo S k.toNat == z)
def ckE (S:List Rw) (i:Nat) (k:Int):Bool:=(zo S i == none) && (zo S (i+1) == some i) && tg S k none
def ckR (S:List Rw) (i:Nat):Rw->Bool:=@Rw.rec (fun _=>Bool) (fun _ _=>zo S (i+1) == zo S i) (fun _ _=>zo S (i+1) == zo S i) (fun _ _=>zo S (i+1) == zo S i) (fun _ _=>true) true (fun k=>ckE S i k) (fun _ _ k=>ckE S i k) ((zo S i).isSome && (zo S (i+1) == none)) (fun _ _ _ _=>zo S (i+1) == zo S i) (fun k=>tg S k (zo S i)) (fun _ k=>(zo S (i+1) == zo S i) && tg S k (zo S i)) false
def chk (S:List Rw):Bool:=decide (0<S.length) && (List.range S.length).all fun i=>(match S[i]? with|some r=>okR r && ckR S i r|none=>false) && (match zo S i with|none=>true|some j=>(match S[j]? with|some b=>ygD b && okR b && tg S (toB b) none|none=>false))
def DR:List (List Rw)->Nat->List Rw
 | [],_=>[.lay]
 | S::l,f=>S.map (shR f)++DR l (f+S.length)
def zR (S:List Rw) (f i:Nat):Option Rw:=(zo S i).bind fun j=>(S[j]?).map (shR f)
def Pos:List (List Rw)->Nat->Nat->Option Rw->Prop
 | [],f,t,z=>t=f/\z=none
 | S::l,f,t,z=>(∃ i,i<S.length/\t=f+i/\z=zR S f i)\/Pos l (f+S.length) t z
def cnd (P:Nat->Option Rw->Prop) (t:Nat) (z:Option Rw):Rw->Prop
 | .unl _ k=>P (t+1) z/\P k.toNat z
 | .jump k=>P k.toNat z
 | .either k=>z=none/\P (t+1) (some (.either k))/\P k.toNat none
 | .guard a b k=>z=none/\P (t+1) (some (.guard a b k))/\P k.toNat none
 | .settle=>z≠none/\P (t+1) none
 | .wait=>True
 | .throw ..=>True
 | .lay=>z=none
 | _=>P (t+1) z
def ytL:Rw->Prop|.let_ _ n=>0<=n/\n<B64|_=>True
structure yxr (rws:List Rw) (P:Nat->Option Rw->Prop):Prop where
 st:P 0 none
 nx:∀ t z,P t z->∃ r,rws[t]?=some r/\okR r=true/\cnd P t z r
 zz:∀ t b,P t (some b)->ygD b=true/\okR b=true/\P (toB b).toNat none
 lt:∀ r∈rws,ytL r
theorem ywd {P Q:Nat->Option Rw->Prop}(h:∀ t z,P t z->Q t z) (c:cnd P t z r):cnd Q t z r:=by
 cases r with
 | unl s k=>exact ⟨h _ _ c.1,h _ _ c.2⟩
 | jump k=>exact h _ _ c
 | either k=>exact ⟨c.1,h _ _ c.2.1,h _ _ c.2.2⟩
 | guard a b k=>exact ⟨c.1,h _ _ c.2.1,h _ _ c.2.2⟩
 | settle=>exact ⟨c.1,h _ _ c.2⟩
 | wait=>trivial
 | throw a b=>trivial
 | lay=>exact c
 | _=>exact h _ _ c
section
variable {S:List Rw}{l:List (List Rw)}{f:Nat}
theorem yHB:zo S 0=none:=by cases S<;>rfl
theorem Pos.st:∀ {l:List _}{f:Nat},(∀ S∈l,chk S=true)->Pos l f f none
 | [],_,_=>⟨rfl,rfl⟩
 | S::l,f,H=>.inl ⟨0,by have:=H S mem_cons_self;unfold chk at this;rw [Bool.and_eq_true_iff] at this;exact of_decide_eq_true this.1,rfl,by unfold zR;rw [yHB];rfl⟩
theorem yps (H:∀ S∈l,chk S=true) (c:k<=S.length):Pos (S::l) f (f+k) (zR S f k):=by
 by_cases e:k<S.length
 .exact .inl ⟨k,e,rfl,rfl⟩
 .have:k=S.length:=by omega
  subst this;refine .inr ?_;have a:∀ S i z,(zn i z S).length=S.length:=fun S=>by
   induction S with
   | nil=>intro _ _;rfl
   | cons r S ih=>intro i z;show (zn _ _ S).length+1=_;rw [ih];rfl
  have b:zR S f S.length=none:=by unfold zR zo;rw [getElem?_eq_none (by rw [a];omega)];rfl
  rw [b];exact Pos.st H
theorem yxs (H:∀ S∈l,chk S=true) (e:tg S k z=true):Pos (S::l) f (f+k).toNat (z.bind fun j=>S[j]?.map (shR f)):=by unfold tg at e;simp only [Bool.and_eq_true_iff,decide_eq_true_eq,beq_iff_eq] at e;have:=yps (f:=f) H e.1.2;unfold zR at this;grind
theorem yxt (e:okR r=true):okR (shR f r)=true:=by cases r<;>simp only [shR,okR,Bool.and_eq_true_iff,decide_eq_true_eq] at e ⊢<;>first|exact e|omega|grind
theorem ytj:∀ (l:List (List Rw)) (f t:Nat) (z:Option Rw),(∀ S∈l,chk S=true)->Pos l f t z->f<=t/\(∃ r,(DR l f)[t-f]?=some r/\okR r=true/\cnd (Pos l f) t z r)/\∀ b,z=some b->ygD b=true/\okR b=true/\Pos l f (toB b).toNat none
 | [],f,t,z,_,⟨e1,e2⟩=>by subst e1;exact ⟨Nat.le_refl _,⟨.lay,by rw [sub_self];rfl,rfl,e2⟩,fun b e=>by rw [e2] at e;cases e⟩
 | S::l,f,t,z,H,.inr p=>by obtain ⟨h1,⟨r,h2,h3,h4⟩,h5⟩:=ytj l (f+S.length) t z (fun S h=>H S (mem_cons_of_mem _ h)) p;refine ⟨by omega,⟨r,?_,h3,ywd (fun _ _=>.inr) h4⟩,fun b e=>⟨(h5 b e).1,(h5 b e).2.1,.inr (h5 b e).2.2⟩⟩;show (S.map (shR f)++DR l (f+S.length))[t-f]?=_;rw [getElem?_append_right (by rw [length_map];omega),length_map,show t-f-S.length=t-(f+S.length) by omega,h2]
 | S::l,f,t,z,H,.inl ⟨i,hi,et,ez⟩=>by
  have C:=H S mem_cons_self;have H':=fun S h=>H S (mem_cons_of_mem _ h)
  unfold chk at C;rw [Bool.and_eq_true_iff] at C;have c:=List.all_eq_true.mp C.2 i (List.mem_range.mpr hi);rw [Bool.and_eq_true_iff] at c;obtain ⟨c1,c2⟩:=c;rw [List.getElem?_eq_getElem hi] at c1;rw [Bool.and_eq_true_iff] at c1;obtain ⟨o1,o2⟩:=c1;subst et;have N:zo S (i+1)=zo S i->Pos (S::l) f (f+i+1) z:=fun e=>by have:=yps (f:=f) (k:=i+1) H' hi;unfold zR at this;rw [e] at this;rw [ez];exact this
  have T:∀ {k:Int},tg S k (zo S i)=true->Pos (S::l) f ((f:Int)+k).toNat z:=fun e=>by rw [ez];exact yxs H' e
  have T0:∀ {k:Int},tg S k none=true->Pos (S::l) f ((f:Int)+k).toNat none:=fun e=>yxs H' e
  have B:∀ {b:Rw},S[i]=b->zo S (i+1)=some i->Pos (S::l) f (f+i+1) (some (shR f b)):=fun eb e=>by have:=yps (f:=f) (k:=i+1) H' hi;unfold zR at this;rw [e,bind_some,List.getElem?_eq_getElem hi,eb] at this;exact this
  refine ⟨by omega,⟨shR f S[i],?_,yxt o1,?_⟩,fun b e=>?_⟩
  .show (S.map (shR f)++DR l (f+S.length))[f+i-f]?=_;rw [getElem?_append_left (by rw [length_map];omega),getElem?_map,show f+i-f=i by omega,List.getElem?_eq_getElem hi];rfl
  .generalize er:S[i]=r at *;cases r with
   | unl s k =>
    simp only [ckR,Bool.and_eq_true_iff,beq_iff_eq] at o2;exact ⟨N o2.1,T o2.2⟩
   | jump k=>exact T o2
   | either k =>
    simp only [ckR,ckE,Bool.and_eq_true_iff,beq_iff_eq] at o2;exact ⟨by rw [ez];unfold zR;rw [o2.1.1];rfl,B rfl o2.1.2,T0 o2.2⟩
   | guard a b k =>
    simp only [ckR,ckE,Bool.and_eq_true_iff,beq_iff_eq] at o2;exact ⟨by rw [ez];unfold zR;rw [o2.1.1];rfl,B rfl o2.1.2,T0 o2.2⟩
   | settle =>
    simp only [ckR,Bool.and_eq_true_iff,beq_iff_eq] at o2;have p:=yps (f:=f) (k:=i+1) H' hi;unfold zR at p;rw [o2.2] at p;refine ⟨fun e=>?_,p⟩;obtain ⟨j,ej⟩:=Option.isSome_iff_exists.mp o2.1;rw [ej] at c2;rw [e] at ez;unfold zR at ez;rw [ej,bind_some] at ez;dsimp only at c2;cases q:S[j]? with
    | none=>rw [q] at c2;cases c2
    | some b=>rw [q] at ez;cases ez
   | wait=>trivial
   | throw a b=>trivial
   | lay=>cases o2
   | _=>exact N (by simpa [ckR] using o2)
  .rw [ez] at e;unfold zR at e;cases ej:zo S i with
   | none=>rw [ej] at e;cases e
   | some j =>
    rw [ej,bind_some] at e;rw [ej] at c2;dsimp only at c2;cases q:S[j]? with
    | none=>rw [q] at e;cases e
    | some b' =>
     rw [q] at e c2;cases e;simp only [Bool.and_eq_true_iff] at c2;refine ⟨?_,yxt c2.1.2,?_⟩
     .revert c2;cases b'<;>simp [ygD,shR]
     .have:=T0 c2.2
      revert this c2;cases b'<;>simp [ygD,shR,toB]
end
theorem yxu:∀ {l:List _}{f:Nat},(∀ S∈l,∀ r∈S,ytL r)->∀ r∈DR l f,ytL r
 | [],_,_,r,h=>by rw [List.mem_singleton.mp h];trivial
 | S::l,f,H,r,h=>by
  rcases List.mem_append.mp h with h|h
  .obtain ⟨q,b,rfl⟩:=List.mem_map.mp h;have:=H S mem_cons_self q b;cases q<;>exact this
  .exact yxu (fun S h=>H S (mem_cons_of_mem _ h)) r h
theorem yzT (H:∀ S∈l,chk S=true) (K:∀ S∈l,∀ r∈S,ytL r):yxr (DR l 0) (Pos l 0):=⟨Pos.st H,fun t z p=>(ytj l 0 t z H p).2.1,fun t b p=>(ytj l 0 t _ H p).2.2 b rfl,yxu K⟩
noncomputable def skR:Rw->Rw
 | .let_ ..=>.let_ "a" 0
 | .reckon ..=>.let_ "a" 0
 | .take ..=>.let_ "a" 0
 | .put ..=>.let_ "a" 0
 | r=>r
def ywe (S:List Rw):Bool:=decide (0<S.length) && (List.range S.length).all fun i=>(match S[i]? with|some r=>ckR S i r|none=>false) && (match zo S i with|none=>true|some j=>(match S[j]? with|some b=>ygD b && tg S (toB b) none|none=>false))
section
variable {S:List Rw}
theorem yDi:∀ S i z,zn i z (S.map skR)=zn i z S
 | [],_,_=>rfl
 | r::S,i,z=>by show z::zn _ _ _=z::zn _ _ S;rw [yDi S];cases r<;>rfl
theorem yzU:zo (S.map skR) i=zo S i:=by unfold zo;rw [yDi]
theorem yDj:tg (S.map skR) k z=tg S k z:=by unfold tg;rw [yzU,length_map]
theorem yFS:ckR (S.map skR) i (skR r)=ckR S i r:=by cases r<;>simp only [skR,ckR,ckE,yDj,yzU]
theorem yDk (h:ywe (S.map skR)=true) (k:∀ r∈S,okR r=true):chk S=true:=by
 unfold ywe at h;unfold chk;rw [Bool.and_eq_true_iff] at h ⊢;rw [length_map] at h;refine ⟨h.1,List.all_eq_true.mpr fun i f=>?_⟩;have c:=List.all_eq_true.mp h.2 i f;rw [Bool.and_eq_true_iff] at c ⊢;have f:=List.mem_range.mp f;rw [yzU] at c;obtain ⟨g,d⟩:=c;constructor
 .rw [getElem?_map,List.getElem?_eq_getElem f] at g;rw [List.getElem?_eq_getElem f];have g:ckR _ i _=true:=g;rw [yFS] at g;show (okR _ && ckR S i _)=true;simp_all
 .cases e:zo S i with
  | none=>rfl
  | some j =>
   rw [e] at d;dsimp only at d ⊢;rw [getElem?_map] at d;cases q:S[j]? with
   | none=>simp_all
   | some b =>
    rw [q] at d;have d:(ygD _ && tg _ _ none)=true:=d;rw [yDj] at d;have o:=k b (mem_of_getElem? q);dsimp only;rw [o];revert d;cases b<;>simp [skR,ygD,toB]
end
def gP:Rw->Prop
 | .let_ a n=>a∈SL/\0<=n/\n<B64
 | .reckon w a b c=>w∈W5/\a∈SL/\b∈SL/\c∈SL
 | .take a b=>a∈SL/\b∈SL
 | .put a b=>a∈SL/\b∈SL
 | _=>False
theorem ykQ (h:a∈SL):sl a:=by
 have:=by simpa [SL] using h
 rcases this with rfl|rfl|rfl|rfl|rfl|rfl|rfl|rfl<;>exact ⟨fun _=>by kernel_rfl!,yjf _ (by rfl')⟩
theorem yfp (g:gP r):gdR r/\okR r=true/\ytL r/\skR r=.let_ "a" 0/\(∀ f,shR f r=r)/\(wR r).length<=4:=by
 cases r with
 | let_ a n=>exact ⟨⟨ykQ g.1,g.2⟩,by simpa [okR] using g.1,g.2,rfl,fun _=>rfl,Nat.le_of_ble_eq_true rfl⟩
 | reckon w a b c=>exact ⟨⟨g.1,ykQ g.2.1,ykQ g.2.2.1,ykQ g.2.2.2⟩,by simp [okR,g.1,g.2.1,g.2.2.1,g.2.2.2],trivial,rfl,fun _=>rfl,Nat.le_of_ble_eq_true rfl⟩
 | take a b=>exact ⟨⟨ykQ g.1,ykQ g.2⟩,by simp [okR,g.1,g.2],trivial,rfl,fun _=>rfl,Nat.le_of_ble_eq_true rfl⟩
 | put a b=>exact ⟨⟨ykQ g.1,ykQ g.2⟩,by simp [okR,g.1,g.2],trivial,rfl,fun _=>rfl,Nat.le_of_ble_eq_true rfl⟩
 | _=>exact g.elim
def PL (A:List Rw):Prop:=(∀ r∈A,gP r)/\A.length<=4
section
variable {A B:List Rw}(g:PL A)
include g
theorem PL.sh:A.map (shR f)=A:=by rw [List.map_congr_left (g:=id) fun r b=>(yfp (g.1 r b)).2.2.2.2.1 f,List.map_id]
theorem PL.sk:A.map skR=replicate A.length (.let_ "a" 0):=by refine List.eq_replicate_iff.mpr ⟨length_map ..,fun r c=>?_⟩;obtain ⟨q,b,rfl⟩:=List.mem_map.mp c;exact (yfp (g.1 q b)).2.2.2.1
theorem PL.pc (c:ar<=8):AllOk (d+1) ar (A.map pl):=fun p hp=>by obtain ⟨r,b,rfl⟩:=List.mem_map.mp hp;exact yqj (yfp (g.1 r b)).1 c
omit g
theorem yjQ:∀ {A:List Rw}{f:Int},cat (A.map pl) f=A
 | [],_=>rfl
 | r::A,f=>by show r::cat _ _=_;rw [yjQ]
theorem ymx:lgs (A.map pl)=A.length:=by
 induction A with
 | nil=>rfl
 | cons r A ih=>show (1:Nat)+lgs _=_;grind
theorem ykR:∀ {a b:List Pc}{f:Int},cat (a++b) f=cat a f++cat b (f+(cat a f).length)
 | [],b,f=>by simp [cat]
 | p::a,b,f=>by show p.2 f++cat (a++b) _=p.2 f++cat a _++_;rw [ykR,append_assoc,show cat _ f=p.2 f++cat a _ from rfl,length_append,Int.natCast_add,Int.add_assoc]
theorem yqk:cat [p] f=p.2 f:=append_nil _
end
inductive Pce where
 | two (A B:List Rw)|iff (A B:List Rw)|eit (A B:List Rw)|try_ (nm:Str) (A B:List Rw)|tk (x:Int)|one (r:Rw)
def Pce.pc:Pce->List Pc
 | .two A B=>(A++B).map pl
 | .iff A B=>[ifP "b" (A.map pl) (B.map pl)]
 | .eit A B=>[eiP (A.map pl++[ifP "c" [] [pl .wait]]) (B.map pl)]
 | .try_ nm A B=>[trP "low" "d" (A.map pl++[ifP "b" [pl (.throw nm "c")] (B.map pl)]) (B.map pl)]
 | .tk x=>[pl (.let_ "a" x),pl (.take "b" "a"),ifP "b" [] [pl .wait]]
 | .one r=>[pl r]
noncomputable def Pce.sg:Pce->List Rw
 | .two A B=>A++B
 | .iff A B=>.unl "b" (2+A.length)::(A++.jump (2+A.length+B.length)::B)
 | .eit A B=>.either (6+A.length)::(A++([.unl "c" (3+A.length),.jump (4+A.length),.wait,.settle,.jump (6+A.length+B.length)]++B))
 | .try_ nm A B=>.guard "low" "d" (6+A.length+B.length)::(A++([.unl "b" (4+A.length),.throw nm "c",.jump (4+A.length+B.length)]++(B++([.settle,.jump (6+A.length+B.length+B.length)]++B))))
 | .tk x=>[.let_ "a" x,.take "b" "a",.unl "b" 4,.jump 5,.wait]
 | .one r=>[r]
noncomputable def nmP (nm:Str):Prop:=nm = "low"\/nm = "high"
noncomputable def onR (r:Rw):Prop:=r=.wait\/r=.throw "low" "c"\/r=.throw "high" "b"
def Pce.Ok:Pce->Prop
 | .two A B=>PL A/\PL B/\A≠[]
 | .iff A B=>PL A/\PL B/\A≠[]/\B≠[]
 | .eit A B=>PL A/\PL B/\A≠[]/\B≠[]
 | .try_ nm A B=>nmP nm/\PL A/\PL B/\A≠[]/\B≠[]
 | .tk x=>0<=x/\x<B64
 | .one r=>onR r
theorem ywf (h:nmP nm):yiz nm/\fr nm:=by rcases h with rfl|rfl<;>exact ⟨fun _=>by kernel_rfl!,yjf _ (by rfl')⟩
theorem yDl (h:onR r):gdR r/\okR r=true/\ytL r:=by
 rcases h with rfl|rfl|rfl
 .exact ⟨trivial,rfl,trivial⟩
 .exact ⟨⟨ywf (.inl rfl),slC⟩,by rfl',trivial⟩
 .exact ⟨⟨ywf (.inr rfl),yEb⟩,by rfl',trivial⟩
theorem yzV:lgs [p]=(p.2 0).length:=by simp [lgs]
theorem yDm:lgs []=0:=rfl
theorem yDn {p:Pce}(g:p.Ok) {f:Nat}:cat p.pc f=p.sg.map (shR f):=by
 cases p with
 | two A B =>
  show cat ((A++B).map pl) f=(A++B).map (shR f);rw [yjQ,map_append,g.1.sh,g.2.1.sh]
 | iff A B =>
  show cat [ifP "b" (A.map pl) (B.map pl)] f=(_::(A++_::B)).map (shR f);rw [yqk,map_cons,map_append,map_cons,g.1.sh,g.2.1.sh];simp only [ifP,yjQ,ymx,shR,Int.add_assoc]
 | eit A B =>
  show cat [eiP _ (B.map pl)] f=(_::(A++(_++B))).map (shR f);rw [yqk,map_cons,map_append,map_append,g.1.sh,g.2.1.sh];simp only [eiP,ykR,yqk,ifP,yjQ,ywb,ymx,yzV,yDm,shR];simp [cat,pl,shR];omega
 | try_ nm A B =>
  show cat [trP "low" "d" _ (B.map pl)] f=(_::(A++(_++(B++(_++B))))).map (shR f);rw [yqk,map_cons,map_append,map_append,map_append,map_append,g.2.1.sh,g.2.2.1.sh];simp only [trP,ykR,yqk,ifP,yjQ,ywb,ymx,yzV,yDm,shR];simp [pl,shR];omega
 | tk x =>
  simp [Pce.pc,Pce.sg,cat,pl,ifP,lgs,shR];omega
 | one r =>
  rcases g with rfl|rfl|rfl<;>rfl
noncomputable def skS (w a b:Nat) (nm:Str):List Rw :=
 let A:=replicate a (Rw.let_ "a" 0)
 let B:=replicate b (Rw.let_ "a" 0)
 match w with
 | 0=>A++B
 | 1=>.unl "b" (2+a)::(A++.jump (2+a+b)::B)
 | 2=>.either (6+a)::(A++([.unl "c" (3+a),.jump (4+a),.wait,.settle,.jump (6+a+b)]++B))
 | _=>.guard "low" "d" (6+a+b)::(A++([.unl "b" (4+a),.throw nm "c",.jump (4+a+b)]++(B++([.settle,.jump (6+a+b+b)]++B))))
theorem ywg:∀ w,w<4->∀ a,a<5->∀ b,b<5->0<a->ywe (skS w a b "low")=true:=by rfl'
theorem yFT:∀ a,a<5->∀ b,b<5->0<a->ywe (skS 3 a b "high")=true:=by rfl'
theorem ymy {A:List Rw}(n:A≠[]):0<A.length:=List.length_pos_iff.mpr n
theorem yht (a:PL A) (b:PL B) (h:r∈A\/r∈B):okR r=true/\ytL r:=by
 rcases h with h|h
 .exact ⟨(yfp (a.1 r h)).2.1,(yfp (a.1 r h)).2.2.1⟩
 .exact ⟨(yfp (b.1 r h)).2.1,(yfp (b.1 r h)).2.2.1⟩
theorem yDo {p:Pce}(g:p.Ok):∀ r∈p.sg,okR r=true/\ytL r:=by
 have J:∀ {k:Int},0<=k->okR (.jump k)=true/\ytL (.jump k):=fun h=>⟨decide_eq_true h,trivial⟩
 have U:∀ {s:Str}{k:Int},s∈SL->0<=k->okR (.unl s k)=true/\ytL (.unl s k):=fun h k=>⟨by simp [okR,h,k],trivial⟩
 cases p with
 | two A B=>exact fun r h=>yht g.1 g.2.1 (List.mem_append.mp h)
 | iff A B =>
  intro r h;simp only [Pce.sg,mem_cons,List.mem_append] at h;rcases h with rfl|h|rfl|h
  .exact U (by simp [SL]) (by omega)
  .exact yht g.1 g.2.1 (.inl h)
  .exact J (by omega)
  .exact yht g.1 g.2.1 (.inr h)
 | eit A B =>
  intro r h;simp only [Pce.sg,mem_cons,List.mem_append,not_mem_nil,or_false] at h;rcases h with rfl|h|(rfl|rfl|rfl|rfl|rfl)|h
  .exact ⟨by simp [okR];omega,trivial⟩
  .exact yht g.1 g.2.1 (.inl h)
  .exact U (by simp [SL]) (by omega)
  .exact J (by omega)
  .exact ⟨rfl,trivial⟩
  .exact ⟨rfl,trivial⟩
  .exact J (by omega)
  .exact yht g.1 g.2.1 (.inr h)
 | try_ nm A B =>
  intro r h;simp only [Pce.sg,mem_cons,List.mem_append,not_mem_nil,or_false] at h;rcases h with rfl|h|(rfl|rfl|rfl)|h|(rfl|rfl)|h
  .exact ⟨by simp [okR,SL];omega,trivial⟩
  .exact yht g.2.1 g.2.2.1 (.inl h)
  .exact U (by simp [SL]) (by omega)
  .exact ⟨by simp [okR,SL],trivial⟩
  .exact J (by omega)
  .exact yht g.2.1 g.2.2.1 (.inr h)
  .exact ⟨rfl,trivial⟩
  .exact J (by omega)
  .exact yht g.2.1 g.2.2.1 (.inr h)
 | tk x =>
  intro r h;simp only [Pce.sg,mem_cons,not_mem_nil,or_false] at h;rcases h with rfl|rfl|rfl|rfl|rfl
  .exact ⟨by simp [okR,SL],g⟩
  .exact ⟨by rfl',trivial⟩
  .exact ⟨by rfl',trivial⟩
  .exact ⟨rfl,trivial⟩
  .exact ⟨rfl,trivial⟩
 | one r =>
  intro q h;rw [List.mem_singleton.mp h];exact (yDl g).2
theorem yDp {p:Pce}(g:p.Ok):chk p.sg=true:=by
 refine yDk ?_ fun r h=>(yDo g r h).1
 cases p with
 | two A B =>
  have:=ywg 0 (by decide) A.length (by have:=g.1.2;omega) B.length (by have:=g.2.1.2;omega) (ymy g.2.2);show ywe ((A++B).map skR)=true;rw [map_append,g.1.sk,g.2.1.sk];exact this
 | iff A B =>
  have:=ywg 1 (by decide) A.length (by have:=g.1.2;omega) B.length (by have:=g.2.1.2;omega) (ymy g.2.2.1);show ywe ((_::(A++_::B)).map skR)=true;rw [map_cons,map_append,map_cons,g.1.sk,g.2.1.sk];exact this
 | eit A B =>
  have:=ywg 2 (by decide) A.length (by have:=g.1.2;omega) B.length (by have:=g.2.1.2;omega) (ymy g.2.2.1);show ywe ((_::(A++(_++B))).map skR)=true;rw [map_cons,map_append,map_append,g.1.sk,g.2.1.sk];exact this
 | try_ nm A B =>
  have:ywe (skS 3 A.length B.length nm)=true:=by
   have c:A.length<5:=by have:=g.2.1.2;omega
   have d:B.length<5:=by have:=g.2.2.1.2;omega
   rcases g.1 with rfl|rfl
   .exact ywg 3 (by decide) _ c _ d (ymy g.2.2.2.1)
   .exact yFT _ c _ d (ymy g.2.2.2.1)
  show ywe ((_::(A++(_++(B++(_++B))))).map skR)=true;rw [map_cons,map_append,map_append,map_append,map_append,g.2.1.sk,g.2.2.1.sk];exact this
 | tk x=>kernel_rfl!
 | one r=>rcases g with rfl|rfl|rfl<;>rfl'
def plT (A:List Rw):Str:=Str.join " ; " (A.map fun r=>Str.join " " (wR r))
theorem yiH:∀ {A:List Rw},PL A->(wl (qs (A.map pl))).length<=5*A.length
 | [],_=>Nat.le_refl _
 | r::A,g=>by
  have:∀ A:List Rw,(∀ r∈A,gP r)->(wr (qs (A.map pl))).length<=5*A.length:=fun A=>by
   induction A with
   | nil=>exact fun _=>Nat.le_refl _
   | cons r A ih =>
    intro g;have:=ih fun q h=>g q (mem_cons_of_mem _ h)
    have:=(yfp (g r mem_cons_self)).2.2.2.2.2;show (wR r++wr (qs _)).length+1<=5*(A.length+1);grind
  have:=this A fun q h=>g.1 q (mem_cons_of_mem _ h)
  have:=(yfp (g.1 r mem_cons_self)).2.2.2.2.2;show (wR r++wr (qs _)).length<=5*(A.length+1);grind
theorem yhu:(sd l).length=(wl l).length+2:=by unfold sd;rw [length_cons,length_append];rfl
theorem yEc:∀ {a b:List Q},a≠[]->wl (a++b)=wl a++wr b
 | q::a,b,_=>by
  have:∀ a,wr (a++b)=wr a++wr b:=fun a=>by
   induction a with
   | nil=>rfl
   | cons q a ih=>show _::(q.2++wr (a++b))=_::(q.2++wr a)++_;rw [ih];simp
  show q.2++wr _=q.2++wr a++wr b;simp_all
theorem yEd:qs (a++b)=qs a++qs b:=map_append
theorem ywh (h:A≠[]):qs (A.map pl)≠[]:=fun e=>h (by cases A with|nil=>rfl|cons r A=>cases e)
theorem yql (g:PL A) (h:A≠[]):wl (qs (A.map pl))≠[]:=by
 cases A with
 | nil=>exact absurd rfl h
 | cons r A =>
  intro e;have:=(List.append_eq_nil_iff.mp e).1;cases r<;>cases this
theorem yiI (g:PL A) (h:A≠[]):Str.join " " (wl (qs (A.map pl)))=plT A:=by
 cases A with
 | nil=>exact absurd rfl h
 | cons r A =>
  have q:∀ q∈qs (A.map pl),frs q.2/\q.2.length<=4/\q.2≠[]:=fun q d=>by obtain ⟨p,hp,rfl⟩:=List.mem_map.mp d;obtain ⟨b,c,rfl⟩:=List.mem_map.mp hp;have G:=yfp (g.1 b (mem_cons_of_mem _ c));exact ⟨(yFP (n:=0) (ar:=0) G.1 (by decide)).2,G.2.2.2.2.2,by show wR b≠[];cases b<;>exact fun z=>by cases z⟩
  have:=(yzP _ q).2.2 (qR r) (by show wR r≠[];cases r<;>exact fun z=>by cases z);refine this.symm.trans ?_;unfold plT qs;rw [map_cons,map_map,map_map];rfl
theorem yDq {p:Pce}(g:p.Ok):AllOk 9 0 p.pc:=by
 have W:∀ {d:Nat}{ar:Int},ar<=8->ytK (d+1) ar (pl .wait):=fun h=>yqj trivial h
 have e:∀ {s:Str}{d:Nat}{ar:Int},ar<=7->d<=20->s∈SL->ytK (d+5) ar _:=fun {s d ar} o m hs=>yzS (d:=d+1) (by omega) ⟨by decide,by decide⟩ ⟨by decide,by decide⟩ .n (.c (W (by omega)) .n) (by omega) (ykQ hs)
 have L:∀ {A:List Rw},PL A->(A.map pl).length<=80/\lgs (A.map pl)<=80:=fun h=>by rw [length_map,ymx];have:=h.2;grind
 have M:∀ {l:List Pc},l.length<=80/\lgs l<=80->l.length<=90/\lgs l<=90:=fun h=>⟨by omega,by omega⟩
 have N:∀ {l:List Pc}{p:Pc},l.length<=80/\lgs l<=80->lgs [p]<=10->(l++[p]).length<=90/\lgs (l++[p])<=90:=fun {l p} h k=>by rw [length_append,ywb];exact ⟨by show _+1<=90;omega,by omega⟩
 cases p with
 | two A B =>
  show AllOk 9 0 ((A++B).map pl);rw [map_append];exact .a (g.1.pc (by decide)) (g.2.1.pc (by decide))
 | iff A B=>exact .c (yzS (d:=5) (by decide) (M (L g.1)) (M (L g.2.1)) (g.1.pc (by decide)) (g.2.1.pc (by decide)) (by decide) yEb) .n
 | eit A B=>exact .c (yFQ (d:=5) (by decide) (N (L g.1) (by decide)) (M (L g.2.1)) (.a (g.1.pc (by decide)) (.c (e (d:=0) (by decide) (by decide) (by simp [SL])) .n)) (g.2.1.pc (by decide)) (by decide)) .n
 | try_ nm A B =>
  obtain ⟨j,i,f,_⟩:=g;have T:ytK 5 1 _:=yzS (d:=1) (by decide) ⟨Nat.le_of_ble_eq_true rfl,by show ((1:Nat):Int)<=90;decide⟩ (M (L f)) (.c (yqj (r:=.throw nm "c") (d:=0) ⟨ywf j,slC⟩ (by decide)) .n) (f.pc (by decide)) (by decide) yEb;refine .c (yFR (d:=5) (by decide) (N (L i) ?_) (M (L f)) (.a (i.pc (by decide)) (.c T .n)) (f.pc (by decide)) (by decide) (ywf (.inl rfl)) slD) .n;rw [yzV];have:=f.2;simp only [ifP,yjQ,ymx,yqk];simp [pl];omega
 | tk x=>exact .c (yqj ⟨slA,g⟩ (by decide)) (.c (yqj ⟨yEb,slA⟩ (by decide)) (.c (e (d:=4) (by decide) (by decide) (by simp [SL])) .n))
 | one r=>exact .c (yqj (yDl g).1 (by decide)) .n
theorem yzW {p:Pce}(g:p.Ok):(∀ q∈p.pc,q.1.2.length<=99)/\p.pc.length<=8/\p.pc≠[]/\lgs p.pc<=18:=by
 have e:=ygj (f:=((0:Nat):Int)) (yDq g);rw [yDn g,length_map] at e;rw [<- e];clear e;cases p with
 | two A B =>
  obtain ⟨c,d,h⟩:=g;have i:=c.2;have j:=d.2;refine ⟨fun q b=>?_,?_,?_,?_⟩
  .obtain ⟨r,k,rfl⟩:=List.mem_map.mp b;have:=(yfp ((List.mem_append.mp k).elim (c.1 r) (d.1 r))).2.2.2.2.2;show (wR r).length<=99;omega
  .show ((A++B).map pl).length<=8;rw [length_map,length_append];omega
  .cases A with
   | nil=>exact absurd rfl h
   | cons r A=>exact fun z=>by cases z
  .show ((A++B).length:Int)<=18;rw [length_append];omega
 | iff A B =>
  obtain ⟨c,d,_⟩:=g;have i:=c.2;have j:=d.2;refine ⟨fun q b=>?_,Nat.le_of_ble_eq_true rfl,(fun z=>by cases z),?_⟩
  .rw [List.mem_singleton.mp b];have:=yiH c;have:=yiH d;show (sd _++_::sd _).length+1+1<=99;rw [length_append,length_cons,yhu,yhu];omega
  .simp [Pce.sg];omega
 | eit A B =>
  obtain ⟨c,d,h,_⟩:=g;have i:=c.2;have j:=d.2;refine ⟨fun q b=>?_,Nat.le_of_ble_eq_true rfl,(fun z=>by cases z),?_⟩
  .rw [List.mem_singleton.mp b];have:=yiH c;have:=yiH d;show (sd (qs (A.map pl++_))++_::sd _).length+1<=99;rw [length_append,length_cons,yhu,yhu,yEd,yEc (ywh h),length_append];show _+9+2+(_+2+1)+1<=99;omega
  .simp [Pce.sg];omega
 | try_ nm A B =>
  obtain ⟨l,c,d,h,_⟩:=g;have i:=c.2;have j:=d.2;refine ⟨fun q b=>?_,Nat.le_of_ble_eq_true rfl,(fun z=>by cases z),?_⟩
  .rw [List.mem_singleton.mp b];have:=yiH c;have:=yiH d;show (sd (qs (A.map pl++[ifP "b" [pl (.throw nm "c")] (B.map pl)]))++_::_::_::sd _).length+1<=99;rw [length_append,length_cons,length_cons,length_cons,yhu,yhu,yEd,yEc (ywh h),length_append];have:(wr (qs [ifP "b" [pl (.throw nm "c")] (B.map pl)])).length<=11+(wl (qs (B.map pl))).length:=by show ((("if":Str)::"b"::(sd [qR (.throw nm "c")]++("else":Str)::sd (qs (B.map pl))))++[]).length+1<=_;rw [append_nil,length_cons,length_cons,length_append,length_cons,yhu,yhu];show 3+2+_+1+1+1<=_;omega
   omega
  .simp [Pce.sg];omega
 | tk x =>
  refine ⟨fun q b=>?_,Nat.le_of_ble_eq_true rfl,(fun z=>by cases z),by show ((5:Nat):Int)<=18;decide⟩;simp only [Pce.pc,mem_cons,not_mem_nil,or_false] at b;rcases b with rfl|rfl|rfl<;>exact Nat.le_of_ble_eq_true rfl
 | one r =>
  refine ⟨fun q b=>?_,Nat.le_of_ble_eq_true rfl,(fun z=>by cases z),by show ((1:Nat):Int)<=18;decide⟩;rw [List.mem_singleton.mp b];rcases g with rfl|rfl|rfl<;>exact Nat.le_of_ble_eq_true rfl
theorem yiJ {a b:Str}(e:a.cps.toList=b.cps.toList):a=b:=by cases a;simp_all
theorem yjr (a b:Str):(a++b).cps.toList=a.cps.toList++b.cps.toList:=Array.toList_append
theorem yhv (s a b:Str) (r:List Str):Str.join s (a::b::r)=a++s++Str.join s (b::r):=rfl
theorem join_1 (s a:Str):Str.join s [a]=a:=rfl
def Pce.tx:Pce->Str
 | .two A B=>plT (A++B)
 | .iff A B=>"if b ( "++plT A++" ) else ( "++plT B++" )"
 | .eit A B=>"either ( "++plT A++" ; if c ( ) else ( wait ) ) or ( "++plT B++" )"
 | .try_ nm A B=>"try ( "++plT A++" ; "++("if b ( throw "++nm++" c ) else ( "++plT B++" )")++" ) on low d ( "++plT B++" )"
 | .tk x=>"let a "++tI x++" ; take b a ; if b ( ) else ( wait )"
 | .one r=>Str.join " " (wR r)
theorem yen (e:a≠[]) (d:b≠[]):Str.join " " (a++b)=Str.join " " a++" "++Str.join " " b:=yfz e d
theorem yDr {p:Pce}(g:p.Ok):p.tx=Str.join " ; " (p.pc.map fun p=>Str.join " " p.1.2):=by
 cases p with
 | two A B =>
  show plT (A++B)=Str.join " ; " (((A++B).map pl).map fun p=>Str.join " " p.1.2);rw [map_map];rfl
 | iff A B =>
  obtain ⟨f,d,c,e⟩:=g;have j:=yiI f c;have l:=yiI d e;have k:=yql f c;have i:=yql d e;show _=Str.join " " (("if":Str)::"b"::(("(":Str)::(wl (qs (A.map pl))++[(")":Str)])++("else":Str)::("(":Str)::(wl (qs (B.map pl))++[(")":Str)])));generalize wl (qs (A.map pl))=h at *;generalize wl (qs (B.map pl))=b at *;rw [show ("if":Str)::"b"::(("(":Str)::(h++[(")":Str)])++("else":Str)::("(":Str)::(b++[(")":Str)]))=(["if","b","("]:List Str)++(h++((([")","else","("]:List Str))++(b++[(")":Str)]))) by simp];rw [yen (by simp) (by simp),yen k (by simp),yen (by simp) (by simp),yen i (by simp),j,l];unfold Pce.tx;refine yiJ ?_;simp only [yjr,append_assoc];kernel_rfl!
 | eit A B =>
  obtain ⟨f,d,c,e⟩:=g;have j:=yiI f c;have l:=yiI d e;have k:=yql f c;have i:=yql d e;show _=Str.join " " (("either":Str)::(("(":Str)::(wl (qs (A.map pl++[ifP "c" [] [pl .wait]]))++[(")":Str)])++("or":Str)::("(":Str)::(wl (qs (B.map pl))++[(")":Str)])));rw [yEd,yEc (ywh c)];generalize wl (qs (A.map pl))=h at *;generalize wl (qs (B.map pl))=b at *;rw [show ("either":Str)::(("(":Str)::(h++wr (qs [ifP "c" [] [pl .wait]])++[(")":Str)])++("or":Str)::("(":Str)::(b++[(")":Str)]))=(["either","("]:List Str)++(h++(([";","if","c","(",")","else","(","wait",")",")","or","("]:List Str)++(b++[(")":Str)]))) by simp [qs,wr,ifP,iQ,sd,wl,pl,wR]];rw [yen (by simp) (by simp),yen k (by simp),yen (by simp) (by simp),yen i (by simp),j,l];unfold Pce.tx;refine yiJ ?_;simp only [yjr,append_assoc];kernel_rfl!
 | try_ nm A B =>
  obtain ⟨m,f,d,c,e⟩:=g;have j:=yiI f c;have l:=yiI d e;have k:=yql f c;have i:=yql d e;show _=Str.join " " (("try":Str)::(("(":Str)::(wl (qs (A.map pl++[ifP "b" [pl (.throw nm "c")] (B.map pl)]))++[(")":Str)])++("on":Str)::"low"::"d"::("(":Str)::(wl (qs (B.map pl))++[(")":Str)])));rw [yEd,yEc (ywh c)];rw [show wr (qs [ifP "b" [pl (.throw nm "c")] (B.map pl)])=([";","if","b","(","throw",nm,"c",")","else","("]:List Str)++(wl (qs (B.map pl))++[(")":Str)]) by simp [qs,wr,ifP,iQ,sd,wl,pl,wR]];generalize wl (qs (A.map pl))=h at *;generalize wl (qs (B.map pl))=b at *;rw [show ("try":Str)::(("(":Str)::(h++(([";","if","b","(","throw",nm,"c",")","else","("]:List Str)++(b++[(")":Str)]))++[(")":Str)])++("on":Str)::"low"::"d"::("(":Str)::(b++[(")":Str)]))=(["try","("]:List Str)++(h++(([";","if","b","(","throw",nm,"c",")","else","("]:List Str)++(b++(([")",")","on","low","d","("]:List Str)++(b++[(")":Str)]))))) by simp];rw [yen (by simp) (by simp),yen k (by simp),yen (by simp) (by simp),yen i (by simp),yen (by simp) (by simp),yen i (by simp),j,l];unfold Pce.tx;refine yiJ ?_;simp only [yjr,append_assoc,yhv,join_1];kernel_rfl!
 | tk x =>
  refine yiJ ?_;simp only [Pce.tx,Pce.pc,pl,ifP,qs,wR,iQ,sd,map_cons,map_nil,wl,wr,List.cons_append,List.nil_append,append_nil,yhv,join_1,yjr,append_assoc];kernel_rfl!
 | one r=>rfl
def dTx (ps:List Pce):Str:=Str.join " ; " (ps.map Pce.tx)
def dRw (ps:List Pce):List Rw:=DR (ps.map Pce.sg) 0
structure yqm (ps:List Pce):Prop where
 ok:∀ p∈ps,p.Ok
 ne:ps≠[]
 le:ps.length<=3
theorem yDs:∀ {ps:List Pce}{f:Nat},(∀ p∈ps,p.Ok)->cat (ps.flatMap Pce.pc) f++[Rw.lay]=DR (ps.map Pce.sg) f
 | [],_,_=>rfl
 | p::ps,f,H=>by have P:=H p mem_cons_self;rw [List.flatMap_cons,ykR,yDn P,append_assoc,length_map];show _++(cat _ (f+p.sg.length:Nat)++_)=p.sg.map _++DR _ _;rw [yDs fun p h=>H p (mem_cons_of_mem _ h)]
theorem ytk:∀ (ls:List _) a,a≠[]->(∀ l∈ls,l≠[])->Str.join s (Str.join s a::ls.map (Str.join s))=Str.join s (a++ls.flatten)
 | [],a,_,_=>by rw [List.flatten_nil,append_nil];rfl
 | l::ls,a,c,H=>by have hl:=H l mem_cons_self;show Str.join s a++s++Str.join s (Str.join s l::ls.map _)=_;rw [ytk ls l hl fun l h=>H l (mem_cons_of_mem _ h),List.flatten_cons,yfz c fun z=>hl (List.append_eq_nil_iff.mp z).1]
theorem yDt {ps:List Pce}(H:∀ p∈ps,p.Ok):AllOk 9 0 (ps.flatMap Pce.pc)/\(∀ q∈ps.flatMap Pce.pc,q.1.2.length<=99)/\(ps.flatMap Pce.pc).length<=8*ps.length/\lgs (ps.flatMap Pce.pc)<=18*ps.length:=by
 induction ps with
 | nil=>exact ⟨.n,(fun _ h=>by cases h),Nat.le_refl _,Int.le_refl _⟩
 | cons p ps ih =>
  obtain ⟨e,d,f,g⟩:=ih fun p h=>H p (mem_cons_of_mem _ h)
  have P:=H p mem_cons_self;obtain ⟨s1,s2,_,s4⟩:=yzW P;refine ⟨.a (yDq P) e,fun q c=>?_,?_,?_⟩
  .exact (List.mem_append.mp c).elim (s1 q) (d q)
  .grind
  .rw [List.flatMap_cons,ywb,length_cons];omega
theorem yxv (D:yqm ps):Rdb (dTx ps,dRw ps)/\(dTx ps).length<=69000:=by
 obtain ⟨H,c,hl⟩:=D;obtain ⟨i,h,k,j⟩:=yDt H;have e:dRw ps=cat _ 0++[Rw.lay]:=(yDs H).symm;have f:dTx ps=Str.join " ; " ((ps.flatMap Pce.pc).map fun p=>Str.join " " p.1.2):=by
  unfold dTx;rw [show ps.map Pce.tx=(ps.map _).map _ by rw [map_map];exact List.map_congr_left fun p hp=>yDr (H p hp)]
  cases ps with
  | nil=>exact absurd rfl c
  | cons p ps =>
   have d:∀ q∈p::ps,(q.pc.map fun p=>Str.join " " p.1.2)≠[]:=fun q b z=>(yzW (H q b)).2.2.1 (List.map_eq_nil_iff.mp z)
   refine (ytk _ _ (d p mem_cons_self) fun l hl=>?_).trans ?_
   .obtain ⟨q,b,rfl⟩:=List.mem_map.mp hl;exact d q (mem_cons_of_mem _ b)
   .rw [List.flatMap_cons,map_append,List.map_flatMap,List.flatMap_def]
 rw [e];generalize g:ps.flatMap Pce.pc=l at *;cases l with
 | nil =>
  cases ps with
  | nil=>exact absurd rfl c
  | cons p ps=>exact absurd (List.append_eq_nil_iff.mp g).1 (yzW (H p mem_cons_self)).2.2.1
 | cons p l=>exact yDh i (by decide) f h (by grind) (by omega)
theorem yzX (D:yqm ps):yxr (dRw ps) (Pos (ps.map Pce.sg) 0):=yzT (fun S b=>by
 obtain ⟨p,hp,rfl⟩:=List.mem_map.mp b;exact yDp (D.ok p hp)) fun S b r c=>by
 obtain ⟨p,hp,rfl⟩:=List.mem_map.mp b;exact (yDo (D.ok p hp) r c).2
noncomputable def nb (c:Int):Int:=if c%3=1 then c/3%5 else if c%3=2 then 18446744073709551615-c/3%5 else c/3%18446744073709551616
theorem yoc c:0<=nb c/\nb c<B64:=by unfold nb B64;grind
section
variable {h:AH}
theorem yDu:ybA [.int c] h=some (.int (nb c),h):=by
 unfold ybA;rw [yo];show ob (yl _ _ [.val _,.no] h) fnK=_;symm;unfold nb;split
 .rfl
 .split<;>rfl
theorem yFU (a:0<=n/\n<B64):n.natAbs.log2<1920:=by
 by_cases hz:n.natAbs=0
 .rw [hz];decide
 .rw [Nat.log2_lt hz];grind
theorem yzY (b:0<=n/\n<B64):yif [.int n] h=some (.str (tI n),h):=by rw [ywT,if_pos (yFU b)]
theorem yzZ (b:0<=n/\n<B64):(tI n).length<=20:=str_len b.1 (by decide) (Int.lt_trans b.2 ysr)
theorem yFV {a b:Str}(l:a.length+b.length<=100000):ybn (.str a) (.str b) h=some (.str (a++b),h):=by rw [ywS,if_pos l]
def slN (i:Int):Str:=SL.getD i.toNat "a"
theorem ywi (c:0<=i/\i<4):slN i∈SL/\(slN i).length=1/\∀ h,ytH (.str "abcd") (.int i) h=some (.str (slN i),h):=by
 obtain ⟨n,rfl⟩:∃ n:Nat,i=n:=⟨i.toNat,by omega⟩
 have:n=0\/n=1\/n=2\/n=3:=by omega
 rcases this with rfl|rfl|rfl|rfl<;>exact ⟨by rfl',by rfl',fun _=>by kernel_rfl!⟩
theorem yDv (c:0<=i/\i<8):slN i∈SL/\(slN i).length=1/\∀ h,ytH (.str "abcdefgh") (.int i) h=some (.str (slN i),h):=by
 obtain ⟨n,rfl⟩:∃ n:Nat,i=n:=⟨i.toNat,by omega⟩
 have:n=0\/n=1\/n=2\/n=3\/n=4\/n=5\/n=6\/n=7:=by omega
 rcases this with rfl|rfl|rfl|rfl|rfl|rfl|rfl|rfl<;>exact ⟨by rfl',by rfl',fun _=>by kernel_rfl!⟩
def wdN (i:Int):Str:=W5.getD i.toNat "plus"
theorem yDw (c:0<=i/\i<5):wdN i∈W5/\(wdN i).length<=5/\∀ h,ybd (.lst [.str "plus",.str "minus",.str "times",.str "less",.str "same"]) (.int i) h=some (.str (wdN i),h):=by
 obtain ⟨n,rfl⟩:∃ n:Nat,i=n:=⟨i.toNat,by omega⟩
 have:n=0\/n=1\/n=2\/n=3\/n=4:=by omega
 rcases this with rfl|rfl|rfl|rfl|rfl<;>exact ⟨by rfl',by rfl',fun _=>by kernel_rfl!⟩
def plR (m N:Int):List Rw :=
 if m%8=0 then [.let_ (slN (m/8%4)) N]
 else if m%8=1 then [.reckon (wdN (m/1024%5)) (slN (m/8%4)) (slN (m/32%4)) (slN (m/128%8))]
 else if m%8=2 then [.take (slN (m/8%4)) (slN (m/128%8))]
 else if m%8=3 then [.put (slN (m/128%8)) (slN (m/8%4))]
 else if m%8<6 then [.let_ "a" (m/1024%3),.take "b" "a",.reckon "plus" "b" "b" "c",.put "a" "b"]
 else if m%8=6 then [.let_ "d" (m/1024%3),.take "c" "d"]
 else [.let_ "e" 1,.reckon "plus" "c" "c" "e"]
theorem ywj (e:0<=N/\N<B64):PL (plR m N)/\plR m N≠[]:=by
 have a:=(ywi (i:=m/8%4) (by omega)).1;have b:=(ywi (i:=m/32%4) (by omega)).1;have c:=(yDv (i:=m/128%8) (by omega)).1;have w:=(yDw (i:=m/1024%5) (by omega)).1;have x:0<=m/1024%3/\m/1024%3<B64:=by unfold B64;omega
 have A:("a":Str)∈SL:=by simp [SL]
 have B:("b":Str)∈SL:=by simp [SL]
 have C:("c":Str)∈SL:=by simp [SL]
 have D:("d":Str)∈SL:=by simp [SL]
 have E:("e":Str)∈SL:=by simp [SL]
 have P:("plus":Str)∈W5:=by simp [W5]
 unfold plR
 repeat' split
 all_goals refine ⟨⟨?_,Nat.le_of_ble_eq_true rfl⟩,fun z=>by cases z⟩
 all_goals simp only [List.forall_mem_cons,not_mem_nil,false_implies,implies_true,and_true,gP]
 .exact ⟨a,e⟩
 .exact ⟨w,a,b,c⟩
 .exact ⟨a,c⟩
 .exact ⟨c,a⟩
 .exact ⟨⟨A,x⟩,⟨B,A⟩,⟨P,B,B,C⟩,A,B⟩
 .exact ⟨⟨D,x⟩,C,D⟩
 .exact ⟨⟨E,by decide,by decide⟩,P,C,C,E⟩
theorem yod (e:ρ[i]?=some (.val (.int j))) (n:¬ j=l):yl (yby (yv (xOp oEq (ye i) (xC (.int l)))) A yN) B ρ h=B ρ h:=by
 have e1:ye i ρ h=some (.int j,h):=by unfold ye;rw [e]
 have n1:=eq_false n
 simpa [e1,n1,↓reduceIte]
theorem ywk (e:ρ[i]?=some (.val (.int j))) (n:¬ j<l):yl (yby (yv (xOp oLt (ye i) (xC (.int l)))) A yN) B ρ h=B ρ h:=by
 have e1:ye i ρ h=some (.int j,h):=by unfold ye;rw [e]
 have n1:=eq_false n
 simpa [e1,n1,↓reduceIte]
theorem yiK (e:T ρ h=some (true,h)) (r:A ρ h=some (.rt v,h)):ob (yl (yby T A yN) B ρ h) fnK=some (v,h):=by simpa [e,r]
theorem yAa (e:ρ[i]?=some (.val (.int j))) (n:j=l):yv (xOp oEq (ye i) (xC (.int l))) ρ h=some (true,h):=by
 have e1:ye i ρ h=some (.int j,h):=by unfold ye;rw [e]
 subst n
 simpa [e1]
theorem yEe (e:ρ[i]?=some (.val (.int j))) (n:j<l):yv (xOp oLt (ye i) (xC (.int l))) ρ h=some (true,h):=by
 have e1:ye i ρ h=some (.int j,h):=by unfold ye;rw [e]
 have n1:=eq_true n
 simpa [e1,n1]
theorem ad (ea:e ρ h=some (.str a,h)) (eb:f ρ h=some (.str b,h)) (l:a.length+b.length<=9000):xOp ybn e f ρ h=some (.str (a++b),h):=by rw [yDU,ea,ybE,eb,ybE,yFV (by omega)]
theorem yiL {s s':Str}(ea:e ρ h=some (.str s,h)) (q:s.cps.toList=s'.cps.toList):yQ e ρ h=some (.rt (.str s'),h):=by rw [ykl,ea,<- yiJ q];rfl
theorem ypt (hN:0<=N/\N<B64):ych [.int m,.int N] h=some (.str (plT (plR m N)),h):=by
 obtain ⟨_,la,ia⟩:=ywi (i:=m/8%4) (by omega);obtain ⟨_,lb,ib⟩:=ywi (i:=m/32%4) (by omega);obtain ⟨_,lc,ic⟩:=yDv (i:=m/128%8) (by omega);obtain ⟨_,lw,iw⟩:=yDw (i:=m/1024%5) (by omega);have x:0<=m/1024%3/\m/1024%3<B64:=by unfold B64;omega
 have l1:(tI N).length<=20:=yzZ hN;have l2:(tI (m/1024%3)).length<=20:=yzZ x;unfold plR;generalize slN (m/8%4)=a at *;generalize slN (m/32%4)=b at *;generalize slN (m/128%8)=c at *;generalize wdN (m/1024%5)=w at *;have st:ych [.int m,.int N] h=ob (plC [.val (.int m),.val (.int N),.val (.lst [.str a,.str b,.str c]),.val (.int (m%8)),.no] h) fnK:=by
  unfold ych;rw [yo];show ob (yl _ (yl _ plC) [.val (.int m),.val (.int N),.no,.no,.no] h) fnK=_
  simpa [ia,ib,ic,-yBY]
 have s1:xCB (yif) (yb (ye 1) (yh)) [.val (.int m),.val (.int N),.val (.lst [.str a,.str b,.str c]),.val (.int (m%8)),.no] h=some (.str (tI N),h):=yzY hN;have s2:xCB (yif) (yb (xOp oMod (xOp oDiv (ye 0) (xC (.int 1024))) (xC (.int 3))) (yh)) [.val (.int m),.val (.int N),.val (.lst [.str a,.str b,.str c]),.val (.int (m%8)),.no] h=some (.str (tI (m/1024%3)),h):=yzY x;have iw:=iw h;have kl:("let ":Str).length<=60/\(" ":Str).length<=60/\("take ":Str).length<=60/\("put ":Str).length<=60/\("let a ":Str).length<=60/\("let d ":Str).length<=60/\(" ; take b a ; plus b b c ; put a b":Str).length<=60/\(" ; take c d":Str).length<=60:=by rfl'
 rw [st];clear st ia ib ic;unfold plC
 by_cases e0:m%8=0
 .rw [if_pos e0];exact yiK (yAa rfl e0) (yiL (ad (ad (ad rfl rfl (by omega)) rfl (by rw [yC];omega)) s1 (by rw [yC,yC];omega)) (by simp only [plT,wR,map_cons,map_nil,yhv,join_1,yjr,append_assoc]<;>kernel_rfl!))
 rw [if_neg e0,yod rfl e0]
 by_cases e1:m%8=1
 .rw [if_pos e1];refine yiK (yAa rfl e1) ?_;have a4:ybu (xOp (ybd) (xFz (ycl (yb (xC (.str "plus")) (yb (xC (.str "minus")) (yb (xC (.str "times")) (yb (xC (.str "less")) (yb (xC (.str "same")) (yh)))))))) (xOp oMod (xOp oDiv (ye 0) (xC (.int 1024))) (xC (.int 5)))) (yq 4) [.val (.int m),.val (.int N),.val (.lst [.str a,.str b,.str c]),.val (.int (m%8)),.no] h=some (.nx [.val (.int m),.val (.int N),.val (.lst [.str a,.str b,.str c]),.val (.int (m%8)),.val (.str w)],h):=by
   clear s1 s2
   simpa [iw,-ygu]
  rw [yeb,a4,ybE];exact yiL (ad (ad (ad (ad (ad (ad rfl rfl (by omega)) rfl (by rw [yC];omega)) rfl (by rw [yC,yC];omega)) rfl (by rw [yC,yC,yC];omega)) rfl (by rw [yC,yC,yC,yC];omega)) rfl (by rw [yC,yC,yC,yC,yC];omega)) (by simp only [plT,wR,map_cons,map_nil,yhv,join_1,yjr,append_assoc]<;>kernel_rfl!)
 rw [if_neg e1,yod rfl e1]
 by_cases e2:m%8=2
 .rw [if_pos e2];exact yiK (yAa rfl e2) (yiL (ad (ad (ad rfl rfl (by omega)) rfl (by rw [yC];omega)) rfl (by rw [yC,yC];omega)) (by simp only [plT,wR,map_cons,map_nil,yhv,join_1,yjr,append_assoc]<;>kernel_rfl!))
 rw [if_neg e2,yod rfl e2]
 by_cases e3:m%8=3
 .rw [if_pos e3];exact yiK (yAa rfl e3) (yiL (ad (ad (ad rfl rfl (by omega)) rfl (by rw [yC];omega)) rfl (by rw [yC,yC];omega)) (by simp only [plT,wR,map_cons,map_nil,yhv,join_1,yjr,append_assoc]<;>kernel_rfl!))
 rw [if_neg e3,yod rfl e3]
 by_cases e4:m%8<6
 .rw [if_pos e4];exact yiK (yEe rfl e4) (yiL (ad (ad rfl s2 (by omega)) rfl (by rw [yC];omega)) (by simp only [plT,wR,map_cons,map_nil,yhv,join_1,yjr,append_assoc]<;>kernel_rfl!))
 rw [if_neg e4,ywk rfl e4]
 by_cases e5:m%8=6
 .rw [if_pos e5];exact yiK (yAa rfl e5) (yiL (ad (ad rfl s2 (by omega)) rfl (by rw [yC];omega)) (by simp only [plT,wR,map_cons,map_nil,yhv,join_1,yjr,append_assoc]<;>kernel_rfl!))
 rw [if_neg e5,yod rfl e5];kernel_rfl!
end
theorem ytl (g:PL A) (n:A≠[]):(plT A).length<=500:=by
 have f:=fun w c=>((g.pc (d:=0) (ar:=0) (by decide)).lf (by rw [length_map];have:=g.2;omega) 0).f w (mem_cons_of_mem _ (mem_append_left _ c))
 have:=yhS " " (by rfl') _ f;rw [yiI g n] at this;have:=yiH g;have:=g.2;omega
noncomputable def fA (c:Int):Int:=c*48271%2147483647
noncomputable def fB (c:Int):Int:=(c/2+7)*69621%2147483629
def pA (c:Int):List Rw:=plR (fA c) (nb (c/12))
def pB (c:Int):List Rw:=plR (fB c) (nb (c/12))
def pce (c:Int):Pce :=
 if c%12<5 then .two (pA c) (pB c)
 else if c%12=5 then .iff (pA c) (pB c)
 else if c%12<8 then .eit (pA c) (pB c)
 else if c%12=8 then .try_ "low" (pA c) (pB c)
 else if c%12=9 then .try_ "high" (pA c) (pB c)
 else if c%12=10 then .tk (fA c%3)
 else if fA c%4=0 then .one .wait
 else if fA c%4=1 then .one (.throw "low" "c")
 else if fA c%4=2 then .one (.throw "high" "b")
 else .two (pA c) []
theorem yDx (c:Int):(pce c).Ok:=by
 obtain ⟨a,e⟩:=ywj (m:=fA c) (yoc (c/12));obtain ⟨b,f⟩:=ywj (m:=fB c) (yoc (c/12));unfold pce
 repeat' split
 .exact ⟨a,b,e⟩
 .exact ⟨a,b,e,f⟩
 .exact ⟨a,b,e,f⟩
 .exact ⟨.inl rfl,a,b,e,f⟩
 .exact ⟨.inr rfl,a,b,e,f⟩
 .show 0<=fA c%3/\fA c%3<B64;unfold B64;omega
 .exact .inl rfl
 .exact .inr (.inl rfl)
 .exact .inr (.inr rfl)
 .exact ⟨a,⟨(fun _ h=>by cases h),by decide⟩,e⟩
section
variable {h:AH}
theorem yDy (b:0<=j/\j<4)  h:ybd (.lst [.str "wait",.str "throw low c",.str "throw high b",.str (plT A)]) (.int j) h=some (.str (if j=0 then Pce.one .wait else if j=1 then .one (.throw "low" "c") else if j=2 then .one (.throw "high" "b") else .two A []).tx,h):=by
 have:j=0\/j=1\/j=2\/j=3:=by omega
 rcases this with rfl|rfl|rfl|rfl
 .kernel_rfl!
 .kernel_rfl!
 .kernel_rfl!
 .show _=some (PV.str (plT _),h);rw [append_nil];kernel_rfl!
theorem ywl:ycY [.int c] h=some (.str (pce c).tx,h):=by
 obtain ⟨a,a'⟩:=ywj (m:=fA c) (yoc (c/12));obtain ⟨b,b'⟩:=ywj (m:=fB c) (yoc (c/12));have la:(plT (pA c)).length<=500:=ytl a a';have lb:(plT (pB c)).length<=500:=ytl b b';have ab:plT (pA c++pB c)=plT (pA c)++" ; "++plT (pB c):=by unfold plT;rw [map_append];exact yfz (fun z=>a' (List.map_eq_nil_iff.mp z)) (fun z=>b' (List.map_eq_nil_iff.mp z))
 have x:0<=fA c%3/\fA c%3<B64:=by unfold B64;omega
 have l2:(tI (fA c%3)).length<=20:=yzZ x;have st:ycY [.int c] h=ob (pcC [.val (.int c),.val (.int (fA c)),.val (.int (fB c)),.val (.int (nb (c/12))),.val (.str (plT (pA c))),.val (.str (plT (pB c))),.val (.int (c%12)),.no,.no] h) fnK:=by
  have m1:PX.MulOk c 48271=True:=yrG (by decide) (by decide);have m2:PX.MulOk (c/2+7) 69621=True:=yrG (by decide) (by decide);have k1:c*48271%2147483647=fA c:=rfl;have k2:(c/2+7)*69621%2147483629=fB c:=rfl;have n1:∀ h,ybA [.int (c/12)] h=some (.int (nb (c/12)),h):=fun _=>yDu
  have q1:∀ h,ych [.int (fA c),.int (nb (c/12))] h=some (.str (plT (pA c)),h):=fun _=>ypt (yoc _)
  have q2:∀ h,ych [.int (fB c),.int (nb (c/12))] h=some (.str (plT (pB c)),h):=fun _=>ypt (yoc _)
  unfold ycY;rw [yo];show ob (yl _ (yl _ (yl _ (yl _ (yl _ (yl _ pcC))))) [.val (.int c),.no,.no,.no,.no,.no,.no,.no,.no] h) fnK=_;clear a a' b b' ab x l2 la lb
  simpa [m1,m2,k1,k2,n1,q1,q2]
 have s2:xCB (yif) (yb (xOp oMod (ye 1) (xC (.int 3))) (yh)) [.val (.int c),.val (.int (fA c)),.val (.int (fB c)),.val (.int (nb (c/12))),.val (.str (plT (pA c))),.val (.str (plT (pB c))),.val (.int (c%12)),.no,.no] h=some (.str (tI (fA c%3)),h):=yzY x;have kl:(" ; ":Str).length<=60/\("if b ( ":Str).length<=60/\(" ) else ( ":Str).length<=60/\(" )":Str).length<=60/\("either ( ":Str).length<=60/\(" ; if c ( ) else ( wait ) ) or ( ":Str).length<=60/\("if b ( throw ":Str).length<=60/\(" c ) else ( ":Str).length<=60/\("try ( ":Str).length<=60/\(" ) on low d ( ":Str).length<=60/\("low":Str).length<=60/\("high":Str).length<=60/\("let a ":Str).length<=60/\(" ; take b a ; if b ( ) else ( wait )":Str).length<=60:=by rfl'
 rw [st];clear st;unfold pce pcC
 by_cases e0:c%12<5
 .rw [if_pos e0];exact yiK (yEe rfl e0) (yiL (ad (ad rfl rfl (by omega)) rfl (by rw [yC];omega)) (congrArg (fun s:Str=>s.cps.toList) ab.symm))
 rw [if_neg e0,ywk rfl e0]
 by_cases e1:c%12=5
 .rw [if_pos e1];exact yiK (yAa rfl e1) (yiL (ad (ad (ad (ad rfl rfl (by omega)) rfl (by rw [yC];omega)) rfl (by rw [yC,yC];omega)) rfl (by rw [yC,yC,yC];omega)) rfl)
 rw [if_neg e1,yod rfl e1]
 by_cases e2:c%12<8
 .rw [if_pos e2];exact yiK (yEe rfl e2) (yiL (ad (ad (ad (ad rfl rfl (by omega)) rfl (by rw [yC];omega)) rfl (by rw [yC,yC];omega)) rfl (by rw [yC,yC,yC];omega)) rfl)
 rw [if_neg e2,ywk rfl e2];have tr:∀ nm:Str,nm.length<=60->ybd (.lst [.str "low",.str "high"]) (.int (c%12%2)) h=some (.str nm,h)->c%12<10->∀ B:XS,ob (yl (yby (yv (xOp (oLt) (ye 6) (xC (.int 10)))) (yl (ybu (xOp (ybd) (xFz (ycl (yb (xC (.str "low")) (yb (xC (.str "high")) (yh))))) (xOp oMod (ye 6) (xC (.int 2)))) (yq 7)) (yl (ybu (xOp ybn (xOp ybn (xOp ybn (xOp ybn (xC (.str "if b ( throw ")) (ye 7)) (xC (.str " c ) else ( "))) (ye 5)) (xC (.str " )"))) (yq 8)) (yQ (xOp ybn (xOp ybn (xOp ybn (xOp ybn (xOp ybn (xOp ybn (xC (.str "try ( ")) (ye 4)) (xC (.str " ; "))) (ye 8)) (xC (.str " ) on low d ( "))) (ye 5)) (xC (.str " )")))))) (yN)) B [.val (.int c),.val (.int (fA c)),.val (.int (fB c)),.val (.int (nb (c/12))),.val (.str (plT (pA c))),.val (.str (plT (pB c))),.val (.int (c%12)),.no,.no] h) fnK=some (.str (Pce.try_ nm (pA c) (pB c)).tx,h):=fun nm ln ix e B=>by
  refine yiK (yEe rfl e) ?_;have a1:ybu (xOp (ybd) (xFz (ycl (yb (xC (.str "low")) (yb (xC (.str "high")) (yh))))) (xOp oMod (ye 6) (xC (.int 2)))) (yq 7) [.val (.int c),.val (.int (fA c)),.val (.int (fB c)),.val (.int (nb (c/12))),.val (.str (plT (pA c))),.val (.str (plT (pB c))),.val (.int (c%12)),.no,.no] h=some (.nx [.val (.int c),.val (.int (fA c)),.val (.int (fB c)),.val (.int (nb (c/12))),.val (.str (plT (pA c))),.val (.str (plT (pB c))),.val (.int (c%12)),.val (.str nm),.no],h):=by
   clear s2 ab
   simpa [ix,-ygu]
  have a2:=ad (e:=xOp ybn (xOp ybn (xOp ybn (xC (.str "if b ( throw ")) (ye 7)) (xC (.str " c ) else ( "))) (ye 5)) (f:=xC (.str " )")) (ρ:=[.val (.int c),.val (.int (fA c)),.val (.int (fB c)),.val (.int (nb (c/12))),.val (.str (plT (pA c))),.val (.str (plT (pB c))),.val (.int (c%12)),.val (.str nm),.no]) (h:=h) (ad (ad (ad rfl rfl (by omega)) rfl (by rw [yC];omega)) rfl (by rw [yC,yC];omega)) rfl (by rw [yC,yC,yC];omega);rw [yeb,a1,ybE,yfD,yeb,ypS,a2,ybE];exact yiL (ad (ad (ad (ad (ad (ad rfl rfl (by omega)) rfl (by rw [yC];omega)) rfl (by simp only [yC];omega)) rfl (by simp only [yC];omega)) rfl (by simp only [yC];omega)) rfl (by simp only [yC];omega)) rfl
 by_cases e3:c%12=8
 .rw [if_pos e3];exact tr "low" (by omega) (by rw [e3];rfl) (by omega) _
 rw [if_neg e3]
 by_cases e4:c%12=9
 .rw [if_pos e4];exact tr "high" (by omega) (by rw [e4];rfl) (by omega) _
 rw [if_neg e4,ywk rfl (by omega)]
 by_cases e5:c%12=10
 .rw [if_pos e5];exact yiK (yAa rfl e5) (yiL (ad (ad rfl s2 (by omega)) rfl (by rw [yC];omega)) rfl)
 rw [if_neg e5,yod rfl e5];have ix:=yDy (ypj (fA c) (show (0:Int)<4 by decide)) (A:=pA c) h;clear tr s2 ab kl
 simpa [ix,-ygu]
end
section
variable {h:AH}
def dsV (ds:List (List Pce)):List PV:=ds.map fun ps=>.str (dTx ps)
def psV (ps:List Pce):List PV:=ps.map fun p=>.str p.tx
structure LdI (ds:List (List Pce)) (ps:List Pce):Prop where
 d:∀ x∈ds,yqm x
 l:ds.length<=6
 p:∀ x∈ps,x.Ok
 q:ds.length<6->ps.length<=2
theorem ypu:∀ l,(l.map (·.length)).sum<=(Str.join " ; " l).length
 | []=>zero_le _
 | [x]=>by simp [Str.join]
 | x::y::r=>by have:=ypu (y::r);show _<=(x++" ; "++Str.join " ; " _).length;rw [yC,yC,map_cons,List.sum_cons];omega
theorem yAb (I:LdI ds ps) (hp:ps.length<=1000):∃ g f,ldQ [.val X,.own (.lst (dsV ds)),.own (.lst (psV ps)),.val (.int c)] h=some (.nx [.val X,.own (.lst (dsV g)),.own (.lst (psV f)),.val (.int c)],h)/\LdI g f/\f.length<=ps.length+1:=by
 have k:=ywl (h:=h) (c:=c);have a1:yfW 2 (yT ycY (yb (ye 3) (yh))) [.val X,.own (.lst (dsV ds)),.own (.lst (psV ps)),.val (.int c)] h=some (.nx [.val X,.own (.lst (dsV ds)),.own (.lst (psV (ps++[pce c]))),.val (.int c)],h):=by
  rw [yma (xs:=psV ps) rfl]
  simpa [k]
  rw [if_pos (by unfold psV;rw [length_map];omega)];unfold psV;rw [map_append];rfl
 have n:yhB 2 ([.val X,.own (.lst (dsV ds)),.own (.lst (psV (ps++[pce c]))),.val (.int c)]:PSt) h=some (.int ((ps.length+1:Nat):Int),h):=by have:yhB 2 ([.val X,.own (.lst (dsV ds)),.own (.lst (psV (ps++[pce c]))),.val (.int c)]:PSt) h=some (.int (psV (ps++[pce c])).length,h):=rfl;rw [this];unfold psV;rw [length_map,length_append];rfl
 have o:yhB 1 ([.val X,.own (.lst (dsV ds)),.own (.lst (psV (ps++[pce c]))),.val (.int c)]:PSt) h=some (.int (ds.length:Nat),h):=by have:yhB 1 ([.val X,.own (.lst (dsV ds)),.own (.lst (psV (ps++[pce c]))),.val (.int c)]:PSt) h=some (.int (dsV ds).length,h):=rfl;rw [this];unfold dsV;rw [length_map]
 have i:∀ x∈ps++[pce c],x.Ok:=fun x l=>(List.mem_append.mp l).elim (I.p x) fun e=>by rw [List.mem_singleton.mp e];exact yDx c
 by_cases b:((ps.length+1:Nat):Int)>c/12%3/\((ds.length:Nat):Int)<6
 .have D:yqm (ps++[pce c]):=⟨i,by simp,by have:=I.q (by omega);rw [length_append];show _+1<=3;omega⟩
  refine ⟨ds++[ps++[pce c]],[],?_,⟨fun x l=>(List.mem_append.mp l).elim (I.d x) fun e=>by rw [List.mem_singleton.mp e];exact D,by rw [length_append];show _+1<=6;omega,(fun _ h=>by cases h),fun _=>zero_le _⟩,zero_le _⟩;have d:(((ps.length+1:Nat):Int)>c/12%3)=True:=eq_true b.1;have m:(((ds.length:Nat):Int)<6)=True:=eq_true b.2;have q:∀ h,ynD (.str " ; ") [.lst (psV (ps++[pce c]))] h=some (.str (dTx (ps++[pce c])),h):=fun h=>yCI (ts:=(ps++[pce c]).map Pce.tx) (by unfold psV;rw [show ((ps++[pce c]).map fun p=>PV.str p.tx)=((ps++[pce c]).map Pce.tx).map PV.str by rw [map_map];rfl];exact yjC _) (by rfl') (Nat.le_trans (Nat.add_le_add (Nat.le_trans (ypu _) (yxv D).2) (by rw [length_map];exact D.le)) (by decide))
  have a2:yfW 1 (xBM isStr (ynD) (xC (.str " ; ")) (yb (ye 2) (yh))) [.val X,.own (.lst (dsV ds)),.val (.lst (psV (ps++[pce c]))),.val (.int c)] h=some (.nx [.val X,.own (.lst (dsV (ds++[ps++[pce c]]))),.val (.lst (psV (ps++[pce c]))),.val (.int c)],h):=by
   rw [yma (xs:=dsV ds) rfl]
   simpa [q]
   rw [if_pos (by unfold dsV;rw [length_map];omega)];unfold dsV;rw [map_append];rfl
  unfold ldQ;clear k q i D I
  simpa [a1,o,n,d,m,a2]
  rfl
 .refine ⟨ds,ps++[pce c],?_,⟨I.d,I.l,i,fun r=>?_⟩,by rw [length_append];exact Nat.le_refl _⟩
  .unfold ldQ;clear k i I
   by_cases d:((ps.length+1:Nat):Int)>c/12%3
   .have m:(((ds.length:Nat):Int)<6)=False:=eq_false fun z=>b ⟨d,z⟩
    have d:=eq_true d;clear b
    simpa [a1,o,n,d,m]
   .have d:=eq_false d;clear b
    simpa [a1,o,n,d]
  .rw [length_append];show ps.length+1<=2;omega
theorem ytm:∀ (cs:List Int) ds ps v,LdI ds ps->ps.length+cs.length<=900->∃ b d g,yhN (yq 3) ldQ (cs.map .int) [.val X,.own (.lst (dsV ds)),.own (.lst (psV ps)),v] h=some (.nx [.val X,.own (.lst (dsV b)),.own (.lst (psV d)),g],h)/\LdI b d
 | [],ds,ps,v,I,_=>⟨ds,ps,v,rfl,I⟩
 | c::cs,ds,ps,v,I,hl=>by rw [length_cons] at hl;obtain ⟨i,j,k,n,o⟩:=yAb I (by omega);obtain ⟨e,f,g,l,m⟩:=ytm cs i j _ n (by omega);refine ⟨e,f,g,?_,m⟩;show yhN _ _ (PV.int c::cs.map _) _ h=_;rw [ykN rfl k,l]
theorem ytn {cs:List Int}(hl:cs.length<=900):∃ ds,ycZ [.lst (cs.map .int)] h=some (.lst (dsV ds),h)/\ds.length<=6/\∀ x∈ds,yqm x:=by
 obtain ⟨ds,ps,v,e,I⟩:=ytm cs [] [] .no ⟨(fun _ h=>by cases h),by decide,(fun _ h=>by cases h),fun _=>by decide⟩ (by grind);refine ⟨ds,?_,I.l,I.d⟩;have b:xIL (ye 0) [.val _,.own (.lst []),.own (.lst []),.no] h=some (cs.map .int,h):=ynT rfl;have e:yhN _ ldQ _ [.val (.lst (cs.map .int)),.own (.lst []),.own (.lst []),.no] h=_:=e;unfold ycZ;rw [yo];show ob (yl _ _ [.val _,.no,.no,.no] h) fnK=_
 simpa [b,e]
end
def inB (v:Int):Prop:=0<=v/\v<B64
def GV (l:List Int):Prop:=l.length=8/\∀ v∈l,inB v
def DOk (W:Nat) (d:List Key×List PV):Prop:=∃ m:List (Nat×Int×Int),d=(sK m,sA m)/\(m.map (·.1)).Nodup/\∀ p∈m,p.1<W/\inB p.2.1
theorem yFW:inB (rk w x y):=by
 unfold rk inB;have:=ypj (x+y) (show 0<B64 by decide);have:=ypj (x-y) (show 0<B64 by decide);have:=ypj (x*y) (show 0<B64 by decide)
 repeat' split
 all_goals first|assumption|exact ⟨by decide,by decide⟩
theorem in0:inB 0:=⟨by decide,by decide⟩
theorem GV.at_ (g:GV l) k:inB (l.getD k 0):=by
 by_cases e:k<l.length
 .rw [getD_eq_getElem?_getD,List.getElem?_eq_getElem e];exact g.2 _ (getElem_mem e)
 .rw [getD_eq_getElem?_getD,getElem?_eq_none (by omega)];exact in0
theorem GV.set (g:GV l) (hv:inB v):GV (l.set k v):=⟨by rw [length_set];exact g.1,fun u hu=>(List.mem_or_eq_of_mem_set hu).elim (g.2 u) fun e=>e ▸ hv⟩
section
variable {W:Nat}{d e:List Key×List PV}{dd:List (List Key×List PV)}
theorem DOk.nil:DOk W ([],[]):=⟨[],rfl,List.nodup_nil,fun _ h=>by cases h⟩
theorem DOk.put (D:DOk W d) (hk:k<W) (hv:inB v):DOk W (ydA d.1 d.2 (.inl (k:Int)) (.int v)):=by
 obtain ⟨m,rfl,nd,hb⟩:=D;refine ⟨yfm m k v 0,yzI (f:=fun p=>.int p.2.1) rfl,?_,fun p hp=>?_⟩
 .rw [ypp];split
  .exact nd
  .rename_i e;rw [List.nodup_append];exact ⟨nd,by simp,fun x hx y hy z=>by rw [List.mem_singleton.mp hy] at z;exact e (z ▸ hx)⟩
 .rcases yta hp with rfl|hp
  .exact ⟨hk,hv⟩
  .exact hb p hp
theorem DOk.mrg (D:DOk W d) (E:DOk W e):DOk W (yje d.1 d.2 e.1 e.2):=by
 obtain ⟨m,rfl,_,a⟩:=D;have:∀ m e,(∀ p∈m,p.1<W/\inB p.2.1)->DOk W e->DOk W (yje (sK m) (sA m) e.1 e.2):=by
  intro m
  induction m with
  | nil=>exact fun e _ E=>E
  | cons p m ih=>exact fun e a E=>ih _ (fun p h=>a p (mem_cons_of_mem _ h)) (E.put (a p mem_cons_self).1 (a p mem_cons_self).2)
 exact this m e a E
theorem DOk.len (D:DOk W d):d.1.length<=W:=by
 obtain ⟨m,rfl,c,a⟩:=D;have:=yiF W _ c fun k b=>by obtain ⟨p,hp,rfl⟩:=List.mem_map.mp b;exact (a p hp).1
 show (m.map _).length<=W;simp_all
theorem DOk.get (D:DOk W d) (e:ykp d.1 d.2 j=some x):∃ v,x=.int v/\inB v:=by
 obtain ⟨m,rfl,_,hb⟩:=D;have:∀ m:List (Nat×Int×Int),(∀ p∈m,p.1<W/\inB p.2.1)->ykp (sK m) (sA m) j=some x->∃ v,x=.int v/\inB v:=by
  intro m
  induction m with
  | nil=>exact fun _ e=>by cases e
  | cons p m ih =>
   intro hb e;have e:(if (Sum.inl (p.1:Int):Key)=j then some (PV.int p.2.1) else ykp (sK m) (sA m) j)=some x:=e;split at e
   .cases e;exact ⟨_,rfl,(hb p mem_cons_self).2⟩
   .exact ih (fun p h=>hb p (mem_cons_of_mem _ h)) e
 exact this m hb e
theorem yxw (H:∀ d∈dd,DOk W d) :∀ k,yxk dd j k=.non\/∃ v,yxk dd j k=.int v/\inB v
 | 0=>.inl rfl
 | k+1=>by
  unfold yxk;split
  .rename_i d b;split
   .rename_i x a;exact .inr ((H d (mem_of_getElem? b)).get a)
   .exact yxw H k
  .exact .inl rfl
theorem yto:∀ m,yrP (sK m)=some (m.map fun p=>(p.1:Int))
 | []=>rfl
 | p::m=>by show (yrP (sK m)).map _=_;rw [yto m];rfl
theorem ykS:∀ {l:List _}{p:Int×PV},p∈yjk l->p∈l
 | q::l,p,hp=>by
  have a:∀ l,p∈ynM q l->p=q\/p∈l:=by
   intro l
   induction l with
   | nil=>exact fun h=>.inl (List.mem_singleton.mp h)
   | cons r l ih =>
    intro h;unfold ynM at h;split at h
    .simp_all
    .rcases mem_cons.mp h with e|h
     .simp_all
     .exact (ih h).imp id (mem_cons_of_mem _)
  rcases a _ hp with rfl|h
  .exact mem_cons_self
  .exact mem_cons_of_mem _ (ykS h)
theorem ypv:∀ l,(yjk l).length=l.length
 | []=>rfl
 | q::l=>by
  have a:∀ l,(ynM q l).length=l.length+1:=by
   intro l
   induction l with
   | nil=>rfl
   | cons r l ih =>
    unfold ynM;split
    .rfl
    simp_all
  show (ynM q _).length=_;rw [a,ypv l];rfl
theorem ypw:∀ l,(l.map (·.1)).Nodup->(yjk l).Pairwise fun a b=>a.1<b.1
 | [],_=>.nil
 | q::l,f=>by
  have ih:=ypw l (List.nodup_cons.mp f).2;have g:∀ p∈yjk l,p.1≠q.1:=fun p hp e=>(List.nodup_cons.mp f).1 (by show q.1∈l.map _;rw [<- e];exact List.mem_map_of_mem (ykS hp))
  have c:∀ l,l.Pairwise (fun a b=>a.1<b.1)->(∀ p∈l,p.1≠q.1)->(ynM q l).Pairwise fun a b=>a.1<b.1:=by
   intro l
   induction l with
   | nil=>exact fun _ _=>List.pairwise_singleton ..
   | cons r l ih =>
    intro h n;have h2:=List.pairwise_cons.mp h;have j:=n r mem_cons_self;unfold ynM;split
    .refine List.pairwise_cons.mpr ⟨fun p hp=>?_,h⟩;grind
    .refine List.pairwise_cons.mpr ⟨fun p hp=>?_,ih h2.2 fun p hp=>n p (mem_cons_of_mem _ hp)⟩;have i:∀ l,p∈ynM q l->p=q\/p∈l:=by
      intro l
      induction l with
      | nil=>exact fun h=>.inl (List.mem_singleton.mp h)
      | cons r l ih =>
       intro h;unfold ynM at h;split at h
       .simp_all
       .rcases mem_cons.mp h with e|h
        .simp_all
        .exact (ih h).imp id (mem_cons_of_mem _)
     rcases i l hp with rfl|hp
     .omega
     .exact h2.1 p hp
  exact c _ ih g
noncomputable def Ris (ls:List (Nat×Int)):Prop:=ls.Pairwise fun a b=>a.1<b.1
theorem yoe {m:List (Nat×Int×Int)}(hm:m.length<5) (nd:(m.map (·.1)).Nodup):∃ ls:List (Nat×Int),sortI (sK m) (sA m)=some (ls.map yck)/\(∀ p∈ls,∃ q∈m,p=(q.1,q.2.1))/\ls.length=m.length/\Ris ls:=by
 have z:∀ m:List (Nat×Int×Int),(m.map fun p=>(p.1:Int)).zip (sA m)=m.map fun p=>((p.1:Int),PV.int p.2.1):=by
  intro m
  induction m with
  | nil=>rfl
  | cons p m ih=>show _::(m.map _).zip (sA m)=_;rw [ih];rfl
 have f:∀ l:List (Int×PV),(∀ p∈l,∃ q∈m,p=((q.1:Int),PV.int q.2.1))->∃ ls:List (Nat×Int),l=ls.map (fun p=>((p.1:Int),PV.int p.2))/\∀ p∈ls,∃ q∈m,p=(q.1,q.2.1):=by
  intro l
  induction l with
  | nil=>exact fun _=>⟨[],rfl,fun _ h=>by cases h⟩
  | cons p l ih =>
   intro H;obtain ⟨ls,e,k⟩:=ih fun p h=>H p (mem_cons_of_mem _ h)
   obtain ⟨q,hq,rfl⟩:=H p mem_cons_self;refine ⟨(q.1,q.2.1)::ls,by rw [map_cons,e],fun p hp=>?_⟩;rcases mem_cons.mp hp with rfl|hp
   .exact ⟨q,hq,rfl⟩
   .exact k p hp
 obtain ⟨ls,e,k⟩:=f (yjk (m.map fun p=>((p.1:Int),PV.int p.2.1))) fun p hp=>by obtain ⟨q,hq,e⟩:=List.mem_map.mp (ykS hp);exact ⟨q,hq,e.symm⟩
 have rs:=ypw (m.map fun p=>((p.1:Int),PV.int p.2.1)) (by
  rw [map_map];have:(m.map ((fun x:Int×PV=>x.1) ∘ fun p:Nat×Int×Int=>((p.1:Int),PV.int p.2.1)))=(m.map (·.1)).map (fun n:Nat=>(n:Int)):=by rw [map_map];rfl
  rw [this];exact List.Pairwise.map _ (fun a b h e=>h (by omega)) nd)
 have ln:=ypv (m.map fun p=>((p.1:Int),PV.int p.2.1));rw [e] at rs ln;rw [length_map,length_map] at ln;refine ⟨ls,?_,k,ln,(List.pairwise_map.mp rs).imp fun h=>by dsimp only at h;omega⟩;unfold sortI;rw [yto];dsimp only;rw [if_pos (by rw [length_map];omega),z,e,map_map];rfl
end
def ZS (z:Option Rw) (sd:List (Rw×List Int)):Prop:=match z with|none=>sd=[]|some b=>∃ q,sd=[(b,q)]/\GV q
structure RW (W:Nat) (rws:List Rw) (P:Nat->Option Rw->Prop) (s:RS):Prop where
 ps:∃ z,P s.t z/\ZS z s.sd
 hs:GV s.hs
 dd:∀ d∈s.dd,DOk W d
 ln:s.dd.length=s.sd.length+1
section
variable {W:Nat}{rws:List Rw}{P:Nat->Option Rw->Prop}{s:RS}
theorem RW.ok (G:yxr rws P) (R:RW W rws P s) (k:W<=16):okS s=true:=by
 obtain ⟨z,hp,hz⟩:=R.ps;unfold okS;simp only [and_eq_true,beq_iff_eq,decide_eq_true_eq,List.all_eq_true];have c:∀ d∈s.dd,d.1.length<400:=fun d h=>by have:=(R.dd d h).len;omega
 cases z with
 | none =>
  have e:=hz;rw [e];exact ⟨⟨⟨⟨R.hs.1,by rw [R.ln,e]⟩,by decide⟩,fun _ h=>by cases h⟩,c⟩
 | some b =>
  obtain ⟨q,e,i⟩:=hz;obtain ⟨j,f,_⟩:=G.zz _ _ hp;rw [e];exact ⟨⟨⟨⟨R.hs.1,by rw [R.ln,e]⟩,by show 1<90;decide⟩,fun x g=>by rw [List.mem_singleton.mp g];exact ⟨⟨j,f⟩,i.1⟩⟩,c⟩
theorem RW.start (G:yxr rws P) (g:GV bf):RW W rws P (S0 bf):=⟨⟨none,G.st,rfl⟩,g,fun d h=>by rw [List.mem_singleton.mp h];exact .nil,rfl⟩
end
section
variable {W:Nat}{rws:List Rw}{P:Nat->Option Rw->Prop}{s:RS}{r:Rw}{z:Option Rw}
theorem ywm (b:1<=W) (x:Int):∃ n:Nat,x%W=n/\n<W:=⟨(x%W).toNat,by have:=Int.emod_nonneg x (show (W:Int)≠0 by omega);omega,by have:=Int.emod_lt_of_pos x (show (0:Int)<W by omega);omega⟩
theorem RW.go (G:yxr rws P) (R:RW W rws P s) (h1:1<=W) (M:W<=16) (hp:P s.t z) (hz:ZS z s.sd) (N:rws[s.t]?=some r) (B:okR r=true) (c:cnd P s.t z r) (u:yhD W s r=false):∃ s',yqe W r s=some s'/\RW W rws P s'/\s'.sn=s.sn:=by
 have A:(okR r && okS s)=true:=by rw [B,R.ok G M];rfl
 have E:∀ {g:Rw->List Int->List Int},(∀ b q,GV q->GV (g b q))->¬tkL s.sd r s.sd.length=0->∃ s',yjO s r g=some s'/\RW W rws P s'/\s'.sn=s.sn:=fun {g} J O=>by
  obtain ⟨L,F⟩:∃ L,tkL s.sd r s.sd.length=L+1:=⟨tkL s.sd r s.sd.length-1,by omega⟩
  obtain ⟨x,m,_⟩:=ykJ F;cases z with
  | none=>rw [show s.sd=[] from hz] at m;cases m
  | some b =>
   obtain ⟨q,e,C⟩:=hz;have l0:L=0:=by have:=(List.getElem?_eq_some_iff.mp m).1;rw [e] at this;have:L<1:=this;omega
   subst l0;have K:x=(b,q):=by rw [e] at m;cases m;rfl
   subst K;have l:=R.ln;rw [e] at l;have l:s.dd.length=2:=l;refine ⟨⟨(toB b).toNat,g b q,s.sd.take 0,s.dd.take 1,s.sn⟩,?_,⟨⟨none,(G.zz _ _ hp).2.2,rfl⟩,J b q C,fun d i=>R.dd d (List.mem_of_mem_take i),?_⟩,rfl⟩
   .unfold yjO;rw [F];dsimp only;rw [m]
   .show (s.dd.take 1).length=0+1;rw [length_take];omega
 unfold yqe;rw [if_pos A];cases r with
 | let_ a n=>exact ⟨_,rfl,⟨⟨z,c,hz⟩,R.hs.set (G.lt _ (mem_of_getElem? N)),R.dd,R.ln⟩,rfl⟩
 | take a q =>
  dsimp only;rcases yxw R.dd (j:=.inl (s.hs.getD (sx q) 0%(W:Nat))) s.dd.length with e|⟨v,e,hv⟩
  .have:isN (ysH s W q)=false:=u;unfold ysH at this;rw [e] at this;cases this
  .have e:ysH s W q=.int v:=e;rw [e];exact ⟨_,rfl,⟨⟨z,c,hz⟩,R.hs.set hv,R.dd,R.ln⟩,rfl⟩
 | put p q =>
  obtain ⟨n,en,I⟩:=ywm h1 (s.hs.getD (sx p) 0);have w:s.dd≠[]:=fun e=>by have:=R.ln;rw [e] at this;simp at this
  refine ⟨_,rfl,⟨⟨z,c,hz⟩,R.hs,?_,?_⟩,rfl⟩
  .show ∀ d∈yhq s.dd _ _,DOk W d;unfold yhq;rw [List.getLast?_eq_some_getLast w,en];intro d i;rcases List.mem_append.mp i with i|i
   .exact R.dd d (List.dropLast_subset _ i)
   .rw [List.mem_singleton.mp i];exact (R.dd _ (List.getLast_mem w)).put I (R.hs.at_ _)
  .show (yhq s.dd _ _).length=_;unfold yhq;rw [List.getLast?_eq_some_getLast w];have:=R.ln;simp only [length_append,List.length_dropLast,List.length_singleton];show _=s.sd.length+1;omega
 | unl a k =>
  refine ⟨_,rfl,⟨⟨z,?_,hz⟩,R.hs,R.dd,R.ln⟩,rfl⟩;show P (if _ then _ else _) z;split
  .exact c.2
  .exact c.1
 | jump k=>exact ⟨_,rfl,⟨⟨z,c,hz⟩,R.hs,R.dd,R.ln⟩,rfl⟩
 | either k =>
  obtain ⟨rfl,o,_⟩:=c;have e:s.sd=[]:=hz;refine ⟨_,rfl,⟨⟨some (.either k),o,s.hs,?_,R.hs⟩,R.hs,?_,?_⟩,rfl⟩
  .show s.sd++_=_;rw [e];rfl
  .intro d i;rcases List.mem_append.mp i with i|i
   .exact R.dd d i
   .rw [List.mem_singleton.mp i];exact .nil
  .show (s.dd++_).length=(s.sd++_).length+1;rw [length_append,length_append,R.ln];rfl
 | guard a b k =>
  obtain ⟨rfl,o,_⟩:=c;have e:s.sd=[]:=hz;refine ⟨_,rfl,⟨⟨some (.guard a b k),o,s.hs,?_,R.hs⟩,R.hs,?_,?_⟩,rfl⟩
  .show s.sd++_=_;rw [e];rfl
  .intro d i;rcases List.mem_append.mp i with i|i
   .exact R.dd d i
   .rw [List.mem_singleton.mp i];exact .nil
  .show (s.dd++_).length=(s.sd++_).length+1;rw [length_append,length_append,R.ln];rfl
 | settle =>
  obtain ⟨H,o⟩:=c;cases z with
  | none=>exact absurd rfl H
  | some b =>
   obtain ⟨q,e,C⟩:=hz;have l:=R.ln;rw [e] at l;obtain ⟨t,d',ed⟩:∃ t d',s.dd=[t,d']:=by
    match h:s.dd,l with
    | [x,y],_=>exact ⟨x,y,rfl⟩
   have D:=R.dd;rw [ed] at D;dsimp only;rw [if_neg (by rw [e];exact fun z=>by cases z)];refine ⟨_,rfl,⟨⟨none,o,?_⟩,R.hs,?_,?_⟩,rfl⟩
   .show s.sd.dropLast=[]
    rw [e];rfl
   .show ∀ d∈yjN s.dd,DOk W d;rw [ed];intro d i;rw [List.mem_singleton.mp (show d∈[yje d'.1 d'.2 t.1 t.2] from i)];exact (D d' (by simp)).mrg (D t (by simp))
   .show (yjN s.dd).length=s.sd.dropLast.length+1;rw [ed,e];rfl
 | reckon v a p q =>
  dsimp only;rw [if_pos (show 0<=s.hs.getD (sx p) 0/\s.hs.getD (sx p) 0<B64 from R.hs.at_ _)];exact ⟨_,rfl,⟨⟨z,c,hz⟩,R.hs.set yFW,R.dd,R.ln⟩,rfl⟩
 | wait=>exact E (fun _ _ g=>g) (by have:=of_decide_eq_false u;omega)
 | throw a b=>exact E (fun _ _ g=>g.set (R.hs.at_ _)) (by have:=of_decide_eq_false u;omega)
 | lay=>cases u
end
structure HW (W:Nat) (x:HD):Prop where
 ds:∀ i,i<x.ds.length->∃ rws P,x.ds[i]?=some (.lst (rws.map yba))/\yxr rws P
 le:x.nth<=x.ds.length
 bf:GV x.bf
 nf:NF W x.s
 due:Due x.ds x.nth x.rows
 run:x.nth<x.ds.length->∃ rws P,x.rows=rws.map yba/\yxr rws P/\RW W rws P x.s
 hl:x.s.hs.length=8
structure St where
 bx:List Int
 sp:List Int
 en:List PV
 xs:List HD
noncomputable def iV (l:List Int):PV:=.lst (l.map .int)
def EnOk (e:PV):Prop:=∃ (i j:Int) (k:Str) (ts:List PV) (a b:List (Nat×Int)) (c:List Int),e=.tup [.int i,.int j,.tup (.str k::ts),.lst (a.map yck),.lst (b.map yck),iV c]/\(∀ t∈ts,(∃ s,t=.str s)\/∃ n,t=.int n)/\a.length<64/\b.length<64/\c.length=8
structure SW (W n:Nat) (S:St):Prop where
 b:S.bx.length=W
 p:S.sp.length=W
 bb:∀ v∈S.bx,inB v
 x:∀ x∈S.xs,HW W x
 e:∀ e∈S.en,EnOk e
 n:S.en.length<=n
def Turn (W:Nat) (S:St) (i:Nat) (told:PV) (S':St):Prop:=∀ h g as own,HH h g W S.bx S.sp S.en as S.xs own->∃ h' as',yK [.loc g.H,.int (i:Nat)] h=some (told,h')/\HH h' g W S'.bx S'.sp S'.en as' S'.xs own
structure TO (W n:Nat) (S:St) (i:Nat) (told:PV) (S':St):Prop where
 t:Turn W S i told S'
 w:SW W (n+1) S'
 k:∃ (k:Str) (ns:List Int),told=.tup (.str k::ns.map .int)
 l:S'.xs.length=S.xs.length
theorem NF0:NF W (S0 bf):=⟨List.nodup_nil,fun _ h=>(by cases h),by show 0<=900;decide⟩
section
variable {W n i:Nat}{S:St}{x:HD}
theorem HW.next (w:HW W x) (c:x.nth<x.ds.length) {bf:List Int}(g:GV bf):∃ rows',Due x.ds (x.nth+1) rows'/\HW W { x with nth:=x.nth+1,bf:=bf,rows:=rows',s:=S0 bf }:=by
 by_cases e:x.nth+1<x.ds.length
 .obtain ⟨rws,P,d,G⟩:=w.ds _ e;exact ⟨_,.inl ⟨e,d⟩,w.ds,c,g,NF0,.inl ⟨e,d⟩,fun _=>⟨rws,P,rfl,G,.start G g⟩,g.1⟩
 .have b:x.nth+1=x.ds.length:=by omega
  exact ⟨[],.inr ⟨b,rfl⟩,w.ds,c,g,NF0,.inr ⟨b,rfl⟩,fun h=>absurd h e,g.1⟩
theorem HW.anew (w:HW W x):HW W { x with sl:=false,s:=S0 x.bf }:=⟨w.ds,w.le,w.bf,NF0,w.due,fun h=>by obtain ⟨rws,P,e,G,_⟩:=w.run h;exact ⟨rws,P,e,G,.start G w.bf⟩,w.bf.1⟩
theorem HW.wake (w:HW W x) :HW W (ygi sp x):=by
 unfold ygi;split
 .exact w.anew
 .exact w
theorem yhU {Y:Type}{l:List Y}{i:Nat}(h:i<l.length):∃ a x b,l=a++x::b/\a.length=i:=⟨l.take i,l[i],l.drop (i+1),by simp_all,by grind⟩
theorem yxx:∀ {l:List _}{bx:List Int},(∀ v∈bx,inB v)->(∀ p∈l,inB p.2)->∀ v∈yvV bx l,inB v
 | [],_,h,_=>h
 | p::l,bx,h,k=>yxx (l:=l) (fun v hv=>(List.mem_or_eq_of_mem_set hv).elim (h v) fun e=>e ▸ k p mem_cons_self) fun p hp=>k p (mem_cons_of_mem _ hp)
theorem yAc (w:SW W n S) (h1:1<=W) (h3:W<=4) (hn:n<900) (hi:i<S.xs.length):∃ u S',TO W n S i u S':=by
 obtain ⟨bx,sp,en,xs⟩:=S;obtain ⟨rfl,J,wb,U,we,wn⟩:=w;dsimp only at *;obtain ⟨xs1,x,xs2,rfl,rfl⟩:=yhU hi;have j:=U x (by simp);have upd:∀ {x':HD},HW bx.length x'->∀ y∈xs1++x'::xs2,HW bx.length y:=fun {x'} hx y Z=>by
  rcases List.mem_append.mp Z with z|z
  .exact U y (mem_append_left _ z)
  .rcases mem_cons.mp z with rfl|z
   .exact hx
   .exact U y (mem_append_right _ (mem_cons_of_mem _ z))
 have v:∀ {h g H own} {u:PV}{S':St},HH h g bx.length bx sp en H (xs1++x::xs2) own->(∀ as1 a as2,as1.length=xs1.length->HH h g bx.length bx sp en (as1++a::as2) (xs1++x::xs2) own->∃ h' K,yK [.loc g.H,.int (as1.length:Nat)] h=some (u,h')/\HH h' g bx.length S'.bx S'.sp S'.en K S'.xs own)->∃ h' K,yK [.loc g.H,.int (xs1.length:Nat)] h=some (u,h')/\HH h' g bx.length S'.bx S'.sp S'.en K S'.xs own:=fun {h g H own u S'} X k=>by obtain ⟨as1,a,as2,rfl,l⟩:=yhU (l:=H) (i:=xs1.length) (by rw [X.ly.len,length_append,length_cons];omega);have:=k as1 a as2 l X;rwa [l] at this
 have sn4:x.s.sn.length<5:=by
  have:=yiF bx.length _ j.nf.nd fun k M=>by obtain ⟨p,hp,rfl⟩:=List.mem_map.mp M;exact j.nf.hb p hp
  rw [length_map] at this;omega
 by_cases st:stX x = "awake"
 .have o:x.nth<x.ds.length:=by
   have:=j.le
   by_cases e:x.nth=x.ds.length
   .unfold stX at st;rw [if_pos e] at st;exact absurd st (by rfl')
   .omega
  have B:x.sl=false:=by
   cases e:x.sl with
   | false=>rfl
   | true =>
    unfold stX at st;rw [if_neg (by omega),if_pos e] at st;exact absurd st (by rfl')
  obtain ⟨rws,P,I,G,R⟩:=j.run o;obtain ⟨z,hp,hz⟩:=R.ps;obtain ⟨r,O,E,c⟩:=G.nx _ _ hp;have T:=R.ok G (by omega);have A:∀ {x':HD},HW bx.length x'->SW bx.length (n+1) ⟨bx,sp,en,xs1++x'::xs2⟩:=fun hx=>⟨rfl,J,wb,upd hx,we,by show en.length<=n+1;omega⟩
  cases N:yhD bx.length x.s r with
  | false =>
   obtain ⟨s',e2,R',es⟩:=R.go G h1 (by omega) hp hz O E c N;refine ⟨.tup [.str "gone",.int x.s.t],⟨bx,sp,en,xs1++{ x with s:=s' }::xs2⟩,fun h g H own X=>v X fun as1 a as2 l X=>?_,A ⟨j.ds,j.le,j.bf,?_,j.due,(fun _=>⟨rws,P,I,G,R'⟩),R'.hs.1⟩,⟨"gone",[(x.s.t:Nat)],rfl⟩,by simp⟩
   .obtain ⟨h',c',F,C⟩:=yFK X l h1 I o B O T E N e2;exact ⟨h',_,F,C⟩
   .obtain ⟨a,b,c⟩:=j.nf;exact ⟨by rw [es];exact a,by rw [es];exact b,by rw [es];exact c⟩
  | true =>
   cases fr:stB x.s.sn sp with
   | true =>
    refine ⟨.tup [.str "anew",.int x.s.t],⟨bx,sp,en,xs1++{ x with sl:=false,s:=S0 x.bf }::xs2⟩,fun h g H own X=>v X fun as1 a as2 l X=>?_,A j.anew,⟨"anew",[(x.s.t:Nat)],rfl⟩,by simp⟩;obtain ⟨h',c',F,C⟩:=yFM X l J h1 I o B j.nf fr O T E N j.due;exact ⟨h',_,F,C⟩
   | false =>
    obtain ⟨ls,eL,kL,lL,_⟩:=yoe (m:=x.s.sn) sn4 j.nf.nd;cases r with
    | take p q =>
     obtain ⟨k,ek,M⟩:=ywm h1 (x.s.hs.getD (sx q) 0);have hv:inB (bx.getD k 0):=by rw [getD_eq_getElem?_getD,List.getElem?_eq_getElem M];exact wb _ (getElem_mem M)
     refine ⟨.tup [.str "seen",.int x.s.t,.int (k:Nat),.int (bx.getD k 0)],⟨bx,sp,en,xs1++{ x with s:=⟨x.s.t+1,x.s.hs.set (sx p) (bx.getD k 0),x.s.sd,x.s.dd,yfm x.s.sn k (bx.getD k 0) (sp.getD k 0)⟩ }::xs2⟩,fun h g H own X=>v X fun as1 a as2 l X=>?_,A ⟨j.ds,j.le,j.bf,j.nf.put M (by omega),j.due,(fun _=>⟨rws,P,I,G,⟨z,c,hz⟩,R.hs.set hv,R.dd,R.ln⟩),(R.hs.set hv).1⟩,⟨"seen",[(x.s.t:Nat),(k:Nat),bx.getD k 0],rfl⟩,by simp⟩;obtain ⟨h',F,C⟩:=yFL X l J h1 I o B j.nf fr O T E N ek M;exact ⟨h',_,F,C⟩
    | wait =>
     refine ⟨.tup [.str "asleep",.int x.s.t],⟨bx,sp,en,xs1++{ x with sl:=true }::xs2⟩,fun h g H own X=>v X fun as1 a as2 l X=>?_,A ⟨j.ds,j.le,j.bf,j.nf,j.due,(fun _=>⟨rws,P,I,G,R⟩),R.hs.1⟩,⟨"asleep",[(x.s.t:Nat)],rfl⟩,by simp⟩;obtain ⟨h',F,C⟩:=yDb X l J h1 I o B j.nf fr O T N;exact ⟨h',_,F,C⟩
    | throw p q =>
     obtain ⟨rows',du,wN⟩:=j.next o j.bf;refine ⟨.tup [.str "fell",.int x.s.t],⟨bx,sp,en++[yEa xs1.length x (.tup [.str "fell",.str p,.int (x.s.hs.getD (sx q) 0)]) (ls.map yck) [] x.bf],xs1++{ x with nth:=x.nth+1,rows:=rows',s:=S0 x.bf }::xs2⟩,fun h g H own X=>v X fun as1 a as2 l X=>?_,⟨rfl,J,wb,upd wN,fun e D=>?_,by show (en++_).length<=n+1;rw [length_append];show en.length+1<=_;omega⟩,⟨"fell",[(x.s.t:Nat)],rfl⟩,by simp⟩
     .obtain ⟨h',c',F,C⟩:=yFN X l J h1 I o B j.nf fr O T E N eL du (by omega);rw [l] at C;exact ⟨h',_,F,C⟩
     .rcases List.mem_append.mp D with D|D
      .exact we e D
      .rw [List.mem_singleton.mp D];exact ⟨_,_,"fell",[.str p,.int _],ls,[],x.bf,rfl,fun t ht=>by simp at ht;rcases ht with rfl|rfl<;>first|exact .inl ⟨_,rfl⟩|exact .inr ⟨_,rfl⟩,by omega,by decide,j.bf.1⟩
    | lay =>
     subst c;have e0:x.s.sd=[]:=hz;obtain ⟨d,ed⟩:∃ d,x.s.dd=[d]:=by
      have:=R.ln;rw [e0] at this
      match h:x.s.dd,this with
      | [d],_=>exact ⟨d,rfl⟩
     obtain ⟨m,rfl,nd,hb⟩:=R.dd d (by rw [ed];simp);have ml:m.length<5:=by
      have:=yiF bx.length _ nd fun k M=>by obtain ⟨p,hp,rfl⟩:=List.mem_map.mp M;exact (hb p hp).1
      rw [length_map] at this;omega
     obtain ⟨lw,eW,kW,lW,_⟩:=yoe ml nd;have Y:∀ p∈lw,p.1<bx.length/\inB p.2:=fun p hp=>by obtain ⟨q,hq,rfl⟩:=kW p hp;exact hb q hq
     obtain ⟨rows',du,wN⟩:=j.next o R.hs;refine ⟨.tup [.str "done",.int x.s.t],⟨yvV bx lw,yqx sp lw,en++[yEa xs1.length x (.tup [.str "done"]) (ls.map yck) (lw.map yck) x.s.hs],(xs1++{ x with nth:=x.nth+1,bf:=x.s.hs,rows:=rows',s:=S0 x.s.hs }::xs2).map (ygi (yqx sp lw))⟩,fun h g H own X=>v X fun as1 a as2 l X=>?_,⟨ypn _ _,by rw [ykM];exact J,yxx wb fun p hp=>(Y p hp).2,fun y Z=>?_,fun e D=>?_,by show (en++_).length<=n+1;rw [length_append];show en.length+1<=_;omega⟩,⟨"done",[(x.s.t:Nat)],rfl⟩,by simp⟩
     .obtain ⟨h',K,F,C,_⟩:=yFO X l J h1 I o B j.nf fr O T ed eW (fun p hp=>(Y p hp).1) eL du (by omega) fun y Z=>by
       have:y∈xs1++x::xs2:=by
        rcases List.mem_append.mp Z with z|z
        .exact mem_append_left _ z
        .exact mem_append_right _ (mem_cons_of_mem _ z)
       exact ⟨(U y this).due,(U y this).nf⟩
      rw [l] at C;exact ⟨h',_,F,C⟩
     .obtain ⟨y',hy',e'⟩:=List.mem_map.mp Z;rw [<- e'];exact (upd wN y' hy').wake
     .rcases List.mem_append.mp D with D|D
      .exact we e D
      .rw [List.mem_singleton.mp D];exact ⟨_,_,"done",[],ls,lw,x.s.hs,rfl,(fun t ht=>by cases ht),by omega,by omega,R.hs.1⟩
    | _=>cases N
 .refine ⟨.tup [.str "idle"],⟨bx,sp,en,xs1++x::xs2⟩,fun h g H own X=>v X fun as1 a as2 l X=>?_,⟨rfl,J,wb,U,we,by show en.length<=n+1;omega⟩,⟨"idle",[],rfl⟩,rfl⟩;exact ⟨h,_,yFJ X l (eq_false st),X⟩
end
inductive Rn (W:Nat):Nat->St->List Nat->List PV->St->Prop
 | nil {n:Nat}{S:St}:Rn W n S [] [] S
 | cons {n i:Nat}{S S' S'':St}{t:PV}{is:List Nat}{ts:List PV}:TO W n S i t S'->Rn W (n+1) S' is ts S''->Rn W n S (i::is) (t::ts) S''
section
variable {W:Nat}{h:AH}
theorem Rn.len (R:Rn W n S b ts S'):ts.length=b.length:=by
 induction R with
 | nil=>rfl
 | cons _ _ ih=>exact congrArg (· + 1) ih
theorem Rn.sw (w:SW W n S) (R:Rn W n S b ts S'):SW W (n+b.length) S':=by
 induction R with
 | nil=>exact w
 | cons T r ih=>exact Nat.add_right_comm _ _ 1 ▸ ih T.w
theorem Rn.snoc (R:Rn W n S b ts S') (d:TO W (n+b.length) S' i t c):Rn W n S (b++[i]) (ts++[t]) c:=by
 induction R with
 | nil=>exact .cons d .nil
 | cons T r ih=>exact .cons T (ih (Nat.add_right_comm _ _ 1 ▸ d))
noncomputable def Fl:Nat->PV->Prop
 | _,.int _=>True
 | _,.str _=>True
 | n+1,.tup xs=>∀ x∈xs,Fl n x
 | n+1,.lst xs=>∀ x∈xs,Fl n x
 | _,_=>False
theorem ymz:∀ {xs:List PV},(∀ x∈xs,f x x=some true)->ygU f xs xs=some true
 | [],_=>rfl
 | x::xs,H=>ymw (H x mem_cons_self) (ymz fun x h=>H x (mem_cons_of_mem _ h))
theorem yAd:∀ n {k:Nat}{x:PV},Fl n x->n<k->eqP k h x x=some true
 | 0,k+1,x,F,_=>by cases x<;>first|exact yzL|exact yzM|exact False.elim F
 | n+1,k+2,x,F,c=>by
  cases x with
  | tup xs=>exact yzN (ymz fun x b=>yAd n (F x b) (by omega))
  | lst xs=>exact yzO (ymz fun x b=>yAd n (F x b) (by omega))
  | _=>first|exact yzL|exact yzM|exact False.elim F
theorem TO.fl {n i:Nat}{S S':St}{t:PV}(T:TO W n S i t S'):∃ xs,t=.tup xs/\∀ x∈xs,Fl 0 x:=by
 obtain ⟨k,ns,e⟩:=T.k;refine ⟨_,e,fun x a=>?_⟩;rcases mem_cons.mp a with rfl|a
 .trivial
 .obtain ⟨i,_,rfl⟩:=List.mem_map.mp a;trivial
theorem Rn.fl (R:Rn W n S b ts S'):∀ t∈ts,Fl 1 t:=by
 induction R with
 | nil=>nofun
 | cons T _ ih =>
  intro t ht;rcases mem_cons.mp ht with rfl|ht
  .obtain ⟨xs,rfl,F⟩:=T.fl;exact F
  .exact ih t ht
end
def yAe (x:HD):List PV:=(sortI (sK x.s.sn) (sA x.s.sn)).getD []
def lkV (S:St):List PV:=[iV S.bx,iV S.sp,.lst S.en,.lst (S.xs.map fun x=>.str (stX x)),.lst (S.xs.map fun x=>iV x.s.hs),.lst (S.xs.map fun x=>.lst (yAe x)),.lst (S.xs.map fun x=>.int (x.nth:Nat))]
theorem yjR {Y:Type}{n:Nat}{f:Y->PV}{l:List Y}(H:∀ x∈l,Fl n (f x)):Fl (n+1) (.lst (l.map f)):=fun x c=>by obtain ⟨i,b,rfl⟩:=List.mem_map.mp c;exact H i b
theorem yDz:Fl n (.int i):=by cases n<;>trivial
theorem yGT:Fl n (.str i):=by cases n<;>trivial
theorem ykT:Fl (n+1) (iV l):=yjR fun _ _=>yDz
theorem ykU {l:List _}:Fl (n+2) (.lst (l.map yck)):=yjR fun x c=>by intro y b;simp at b;rcases b with rfl|rfl<;>exact yDz
theorem EnOk.fl (E:EnOk e):Fl 3 e:=by
 obtain ⟨i,j,k,ts,a,b,c,rfl,g,_⟩:=E;intro x f;simp only [mem_cons,not_mem_nil,or_false] at f;rcases f with rfl|rfl|rfl|rfl|rfl|rfl
 .exact yDz
 .exact yDz
 .intro y d;rcases mem_cons.mp d with rfl|d
  .exact yGT
  .rcases g y d with ⟨s,rfl⟩|⟨s,rfl⟩<;>trivial
 .exact ykU
 .exact ykU
 .exact ykT
section
variable {h:AH}{g:HC}{W n m:Nat}{S:St}{as:List (Nat×Lc)}{own:List (Nat×Nd)}
theorem SW.saw (w:SW W n S) (c:W<=4) {x:HD}(a:x∈S.xs):∃ ls:List _,sortI (sK x.s.sn) (sA x.s.sn)=some (ls.map yck)/\yAe x=ls.map yck/\ls.length<64:=by
 have F:=(w.x x a).nf;have:=yiF W _ F.nd fun k b=>by obtain ⟨p,hp,rfl⟩:=List.mem_map.mp b;exact F.hb p hp
 rw [length_map] at this;obtain ⟨ls,e,_,l,_⟩:=yoe (by omega) F.nd;exact ⟨ls,e,by unfold yAe;rw [e];rfl,by omega⟩
theorem SW.fl (w:SW W n S) (c:W<=4):∀ x∈lkV S,Fl 4 x:=fun x a=>by
 unfold lkV at a;simp only [mem_cons,not_mem_nil,or_false] at a;rcases a with rfl|rfl|rfl|rfl|rfl|rfl|rfl
 .exact ykT
 .exact ykT
 .exact fun e d=>(w.e e d).fl
 .exact yjR fun _ _=>yGT
 .exact yjR fun _ _=>ykT
 .refine yjR fun y b=>?_
  obtain ⟨ls,_,e,_⟩:=w.saw c b;rw [e];exact ykU
 .exact yjR fun _ _=>yDz
theorem SW.shp (w:SW W n S):∀ e∈S.en,Shp e:=fun e d=>by obtain ⟨i,j,k,ts,a,b,c,rfl,_⟩:=w.e e d;exact ⟨_,_,_,_,_,_,rfl⟩
theorem yAf (X:HH h g W S.bx S.sp S.en as S.xs own) (w:SW W n S) (a:n<1000):yca [.loc g.H] h=some (.lst S.en,h):=yvX X w.shp (by have:=w.n;omega)
theorem yhd (X:HH h g W S.bx S.sp S.en as S.xs own) (e:S.xs[k]?=some x):∃ as1 a as2 xs1 xs2,HH h g W S.bx S.sp S.en (as1++a::as2) (xs1++x::xs2) own/\as1.length=k/\xs1.length=k:=by
 obtain ⟨b,i⟩:=List.getElem?_eq_some_iff.mp e;obtain ⟨xs1,y,xs2,f,c⟩:=yhU b;obtain ⟨as1,a,as2,rfl,d⟩:=yhU (by rw [X.ly.len];exact b);have:y=x:=by simp_all
 subst this;rw [f] at X;exact ⟨as1,a,as2,xs1,xs2,X,d,c⟩
noncomputable def alS (g:HC) (m o n:Nat) (v4 v5:PVar):PSt:=[.val (.loc g.H),.val (.int (m:Nat)),.val (.int (o:Nat)),.val (.loc n),v4,v5]
theorem tell (c:∀ ρ as,mK 15 nm p as ρ (.loc g.H) h=ob (as ρ h) fun ys h2=>p (.loc g.H::ys) h2) (hl:S.xs.length<=100) (q:∀ k x,S.xs[k]?=some x->p [.loc g.H,.int (k:Nat)] h=some (f x,h)):xFz (yet (yhz (yb (ye 1) yh)) [0] (yi 15 nm p (ye 1) (yb (ye 0) yh))) (alS g S.xs.length o n v4 v5) h=some (.lst (S.xs.map f),h):=by
 have b:yhz (yb (ye 1) yh) (alS g S.xs.length o n v4 v5) h=some (ymR 0 S.xs.length,h):=ylZ (j:=S.xs.length) rfl (by omega) (by omega);have e:=ygb (inn:=yfC [0] (alS g S.xs.length o n v4 v5)) (fun k:Nat=>PV.int (0+k)) (fun k=>(S.xs.map f).getD k _) (ts:=List.range S.xs.length) fun k a=>by
  have a:=List.mem_range.mp a;rw [Int.zero_add,show (S.xs.map f).getD k .non=f _ by rw [getD_eq_getElem?_getD,getElem?_map,List.getElem?_eq_getElem a];rfl];have:=q k _ (List.getElem?_eq_getElem a);show yi 15 nm p (ye 1) (yb (ye 0) yh) [.val _,.val _] h=_
  simpa [ycu,c,this]
 rw [yAA,ywU,b,ybE,if_pos (by simp [ymR];omega)];show ob (ob (yll _ _ ((List.range S.xs.length).map _) h) _) _=_;rw [e,show (List.range S.xs.length).map _=S.xs.map f from List.ext_getElem? fun k=>?_]
 .rfl
 rw [getElem?_map]
 by_cases a:k<S.xs.length
 .rw [List.getElem?_range a,getElem?_map,List.getElem?_eq_getElem a,map_some,getD_eq_getElem?_getD,getElem?_map,List.getElem?_eq_getElem a];rfl
 simp_all
def alI (e:XE) (j:Nat):XS:=yby (yv (xOp (oEq) (ye 5) (xC (.int (j:Nat))))) (yec (ye 3) (xC (.int (j:Nat))) e) (yN)
def alC (e:XE):List XE->Nat->XS
 | [],j=>alI e j
 | e'::es,j=>yl (alI e j) (alC e' es (j+1))
variable {o a:Nat}{v4:PVar}
theorem yAg (c:a≠j):alI e j (alS g m o n v4 (.val (.int a))) h=some (.nx (alS g m o n v4 (.val (.int a))),h):=by
 have b:((a:Int)=j)=False:=eq_false (by omega);unfold alI alS
 simpa [b]
theorem ytp:∀ {es:List XE}{e:XE}{j:Nat},a<j->alC e es j (alS g m o n v4 (.val (.int a))) h=some (.nx (alS g m o n v4 (.val (.int a))),h)
 | [],_,_,b=>yAg (by omega)
 | e'::es,e,j,b=>by show yl _ _ _ h=_;rw [yeb,yAg (by omega),ybE,yfD,ytp (by omega)]
theorem ykV {n:Nat}(j:ev ρ h=some (v,h)) (l:eo ρ h=some (.loc n,h)) (a:ei ρ h=some (.int k,h)) (e:h[n]?=some (.lst xs)) (c:k<xs.length):yec eo ei ev ρ h=some (.nx ρ,h.set n (.lst (xs.set k v))):=by
 have f:ixN xs.length k=some k:=by unfold ixN;simp [c]
 unfold yec;rw [j,ybE,l,ybE,a,ybE];simp only [e,f]
theorem yxy (q:e (alS g m o n v4 (.val (.int a))) h=some (v,h)) (b:h[n]?=some (.lst xs)) (d:a<xs.length):alI e a (alS g m o n v4 (.val (.int a))) h=some (.nx (alS g m o n v4 (.val (.int a))),h.set n (.lst (xs.set a v))):=by have s:=ykV (eo:=ye 3) (ei:=xC _) q rfl rfl b d;have c:((a:Nat)=a)=True:=eq_true rfl;unfold alI;rw [yyL,show yv _ _ h=some (true,h) by unfold alS;simpa [c],ybE,if_pos rfl,s]
theorem yxz (d:h[n]?=some (.lst xs)) (c:a<xs.length):∀ {es:List XE}{e e':XE}{j:Nat},j<=a->(e::es)[a-j]?=some e'->e' (alS g m o n v4 (.val (.int a))) h=some (v,h)->alC e es j (alS g m o n v4 (.val (.int a))) h=some (.nx (alS g m o n v4 (.val (.int a))),h.set n (.lst (xs.set a v)))
 | [],e,e',j,i,b,q=>by
  have:a=j:=by have:=(List.getElem?_eq_some_iff.mp b).1;simp at this;omega
  subst this;rw [sub_self] at b;cases b;exact yxy q d c
 | k::es,e,e',j,i,b,q=>by
  show yl _ _ _ h=_
  by_cases f:a=j
  .subst f;rw [sub_self] at b;cases b;rw [yeb,yxy q d c,ybE,yfD,ytp (by omega)]
  .rw [show a-j=a-(j+1)+1 by omega] at b;rw [yeb,yAg f,ybE,yfD,yxz d c (by omega) b q]
def alT (nm:Str) (p:Fn):XE:=xFz (yet (yhz (yb (ye 1) (yh))) [0] (yi 15 nm p (ye 1) (yb (ye 0) (yh))))
def alE:List XE:=[yi 15 "boxes" ycD (ye 0) (yh),yi 15 "stamps" ycj (ye 0) (yh),yi 15 "journal" yca (ye 0) (yh),alT "state" ycW,alT "slots" ycE,alT "saw" ydN,alT "which" ycX]
theorem yDA (X:HH h g W S.bx S.sp S.en as S.xs own) (w:SW W n S) (u:W<=4) (A:n<1000) (hl:S.xs.length<=100) :∀ {a:Nat}{e:XE}{v:PV},alE[a]?=some e->(lkV S)[a]?=some v->e (alS g S.xs.length o q v4 v5) h=some (v,h):=by
 have H0:=X.at_.get 0 rfl;have z:=yxp X;have y:=ytc X;have C:=yAf X w A;have t:=fun {f nm p}=>tell (g:=g) (h:=h) (S:=S) (n:=q) (o:=o) (v4:=v4) (v5:=v5) (f:=f) (nm:=nm) (p:=p)
 have r:=t (nm:="state") (fun _ _=>yG H0 (by rfl')) hl fun k x e=>by obtain ⟨as1,a,as2,xs1,xs2,j,i,l⟩:=yhd X e;rw [<- i];exact yDc j (by omega)
 have r2:=t (nm:="slots") (fun _ _=>yG H0 (by rfl')) hl fun k x e=>by obtain ⟨as1,a,as2,xs1,xs2,j,i,l⟩:=yhd X e;rw [<- i];exact yxq j (by omega)
 have s:=t (nm:="saw") (f:=fun x=>.lst (yAe x)) (fun _ _=>yG H0 (by rfl')) hl fun k x e=>by obtain ⟨as1,a,as2,xs1,xs2,j,i,l⟩:=yhd X e;obtain ⟨ls,d,c,_⟩:=w.saw u (mem_of_getElem? e);rw [<- i,c];exact yHv j (by omega) d
 have B:=t (nm:="which") (fun _ _=>yG H0 (by rfl')) hl fun k x e=>by obtain ⟨as1,a,as2,xs1,xs2,j,i,l⟩:=yhd X e;rw [<- i];exact yDd j (by omega)
 clear t X w;intro a e v d c
 match a,d,c with
 | 0,d,c=>cases d;cases c;unfold alS;simpa [ycu,yG (m:="boxes") H0 (by rfl'),z];rfl
 | 1,d,c=>cases d;cases c;unfold alS;simpa [ycu,yG (m:="stamps") H0 (by rfl'),y];rfl
 | 2,d,c=>cases d;cases c;unfold alS;simpa [ycu,yG (m:="journal") H0 (by rfl'),C]
 | 3,d,c=>cases d;cases c;exact r
 | 4,d,c=>cases d;cases c;exact r2
 | 5,d,c=>cases d;cases c;exact s
 | 6,d,c=>cases d;cases c;exact B
end
section
variable {h:AH}{g:HC}{W n m o:Nat}{S:St}{as:List (Nat×Lc)}{own:List (Nat×Nd)}
theorem HH.junk (X:HH h g W S.bx S.sp S.en as S.xs own) d:HH (h++[d]) g W S.bx S.sp S.en as S.xs own:=⟨X.at_.junk d,X.ly⟩
def alB:XS:=yl (ybu (xOp oMod (xOp yeG (xOp ynA (ye 4) (xC (.int 3))) (ye 2)) (xC (.int 7))) (yq 5)) (alC (yi 15 "boxes" ycD (ye 0) (yh)) [yi 15 "stamps" ycj (ye 0) (yh),yi 15 "journal" yca (ye 0) (yh),alT "state" ycW,alT "slots" ycE,alT "saw" ydN,alT "which" ycX] 0)
theorem yof {d d':Nd}:(h++[d]).set h.length d'=h++[d']:=by simp_all
theorem ygk:(h++[d])[h.length]?=some d:=by simp
theorem yAh (X:HH h g W S.bx S.sp S.en as S.xs own) (w:SW W n S) (f:W<=4) (i:n<1000) (hl:S.xs.length<=100) {xs:List PV}(s:k<7) (l:o<7) (p:(k*3+o)%7=a) (ev:(lkV S)[a]?=some v) (r:xs.length=7):alB (alS g S.xs.length o h.length (.val (.int (k:Nat))) v5) (h++[.lst xs])=some (.nx (alS g S.xs.length o h.length (.val (.int (k:Nat))) (.val (.int (a:Nat)))),h++[.lst (xs.set a v)]):=by
 have a7:a<7:=by omega
 have c:((k:Nat)*3+(o:Nat))%(7:Int)=(a:Nat):=by omega
 have m1:PX.MulOk (k:Nat) 3=True:=eq_true (by left;constructor<;>omega);obtain ⟨e,b⟩:∃ e,alE[a]?=some e:=⟨_,List.getElem?_eq_getElem (by exact a7)⟩
 have q:=yxz (g:=g) (m:=S.xs.length) (o:=o) (v4:=.val (.int (k:Nat))) (ygk (h:=h) (d:=.lst xs)) (by omega) (es:=alE.tail) (e':=e) (j:=0) (zero_le a) b (yDA (X.junk (.lst xs)) w f i hl b ev);rw [yof] at q;have s1:ybu (xOp oMod (xOp yeG (xOp ynA (ye 4) (xC (.int 3))) (ye 2)) (xC (.int 7))) (yq 5) (alS g S.xs.length o h.length (.val (.int (k:Nat))) v5) (h++[.lst xs])=some (.nx (alS g S.xs.length o h.length (.val (.int (k:Nat))) (.val (.int (a:Nat)))),h++[.lst xs]):=by
  clear q X w b;unfold alS
  simpa [m1,c]
 unfold alB;rw [yeb,s1,ybE,yfD];exact q
theorem ytq (X:HH h g W S.bx S.sp S.en as S.xs own) (w:SW W n S) (i:W<=4) (s:n<1000) (hl:S.xs.length<=100) (t:o<7):∀ (l:List Nat) (xs:List PV) (v4 v5:PVar),(∀ k∈l,k<7)->xs.length=7->∃ xs' b c,yhN (yq 4) alB (l.map fun k:Nat=>.int (k:Nat)) (alS g S.xs.length o h.length v4 v5) (h++[.lst xs])=some (.nx (alS g S.xs.length o h.length b c),h++[.lst xs'])/\xs'.length=7/\(∀ j:Nat,xs[j]?=(lkV S)[j]?->xs'[j]?=(lkV S)[j]?)/\∀ k∈l,xs'[(k*3+o)%7]?=(lkV S)[(k*3+o)%7]?
 | [],xs,v4,v5,_,d=>⟨xs,v4,v5,rfl,d,fun _ e=>e,fun _ z=>by cases z⟩
 | k::l,xs,v4,v5,f,d=>by
  obtain ⟨a,r⟩:∃ a,(k*3+o)%7=a:=⟨_,rfl⟩
  have a7:a<(lkV S).length:=by show a<7;omega
  have ev:=List.getElem?_eq_getElem a7;have st:=yAh X w i s hl (v5:=v5) (f k mem_cons_self) t r ev d;obtain ⟨xs',b,c,q,v,p,u⟩:=ytq X w i s hl t l (xs.set a (lkV S)[a]) (.val (.int (k:Nat))) (.val (.int (a:Nat))) (fun k z=>f k (mem_cons_of_mem _ z)) (by rw [length_set];exact d);refine ⟨xs',b,c,?_,v,fun j x=>p j ?_,fun y z=>?_⟩
  .rw [map_cons,ykN (rfl) st,q]
  .rw [List.getElem?_set];split
   .rename_i e;subst e;rw [if_pos (by rw [d];exact a7),ev]
   .exact x
  .rcases mem_cons.mp z with rfl|z
   .rw [r];refine p a ?_;rw [getElem?_set_self (by rw [d];exact a7),ev]
   .exact u y z
theorem rot:∀ o,o<7->∀ j,j<7->∃ k,k<7/\(k*3+o)%7=j:=by decide
theorem yDB (X:HH h g W S.bx S.sp S.en as S.xs own) (w:SW W n S) (i:W<=4) (l:n<1000) (hl:S.xs.length<=100) (c:o<7):ydO [.loc g.H,.int (S.xs.length:Nat),.int (o:Nat)] h=some (.loc h.length,h++[.lst (lkV S)]):=by
 obtain ⟨xs',a,b,q,r,_,p⟩:=ytq X w i l hl c (List.range 7) (replicate 7 (.lst [])) .no .no (fun k z=>List.mem_range.mp z) rfl;have e:xs'=lkV S:=List.ext_getElem? fun j=>by
  by_cases f:j<7
  .obtain ⟨k,d,ek⟩:=rot o c j f;have:=p k (List.mem_range.mpr d);rwa [ek] at this
  .rw [getElem?_eq_none (by omega),getElem?_eq_none (by show 7<=j;omega)]
 subst e;unfold ydO;rw [yo];show ob (yl _ (yl (yjd (yhz (yb (xC (.int 7)) (yh))) (yq 4) alB) _) [.val (.loc g.H),.val (.int (S.xs.length:Nat)),.val (.int (o:Nat)),.no,.no,.no] h) fnK=_;have s1:ybu (ydl (ycl (yb (xFz (ycl (yh))) (yb (xFz (ycl (yh))) (yb (xFz (ycl (yh))) (yb (xFz (ycl (yh))) (yb (xFz (ycl (yh))) (yb (xFz (ycl (yh))) (yb (xFz (ycl (yh))) (yh)))))))))) (yq 3) [.val (.loc g.H),.val (.int (S.xs.length:Nat)),.val (.int (o:Nat)),.no,.no,.no] h=some (.nx (alS g S.xs.length o h.length .no .no),h++[.lst (replicate 7 (.lst []))]):=rfl;have s2:yjd (yhz (yb (xC (.int 7)) (yh))) (yq 4) alB (alS g S.xs.length o h.length .no .no) (h++[.lst (replicate 7 (.lst []))])=some (.nx (alS g S.xs.length o h.length a b),h++[.lst (lkV S)]):=by rw [ypT,show yhz (yb (xC (.int 7)) (yh)) (alS g S.xs.length o h.length .no .no) (h++[.lst (replicate 7 (.lst []))])=some ((List.range 7).map fun k:Nat=>.int (k:Nat),h++[.lst (replicate 7 (.lst []))]) from rfl,ybE,q]
 rw [yeb,s1,ybE,yfD,yeb,s2,ybE,yfD];rfl
theorem ytr:∀ l d v2,(∀ e∈l,Shp e)->d.length+l.length<=1000->∃ f,yhN (yq 2) cyB l [v0,.own (.lst d),v2,v3,v4] h=some (.nx [v0,.own (.lst (d++l)),f,v3,v4],h)
 | [],d,v2,_,_=>⟨v2,by rw [append_nil];rfl⟩
 | e::l,d,v2,hs,hl=>by
  rw [length_cons] at hl;obtain ⟨f,q⟩:=ytr l (d++[e]) _ (fun e z=>hs e (mem_cons_of_mem _ z)) (by rw [length_append];show d.length+1+_<=_;omega);refine ⟨f,?_⟩;have st:cyB [v0,.own (.lst d),.val e,v3,v4] h=some (.nx [v0,.own (.lst (d++[e])),.val e,v3,v4],h):=by obtain ⟨a,b,c,x,y,z,rfl⟩:=hs e mem_cons_self;unfold cyB;rw [yma rfl];symm;rw [if_pos (by omega)]
  rw [ykN (rfl) st,q,append_assoc];rfl
theorem yda {n:Nat}{xs:List PV}{i:Nat}{x:PV}(en:h[n]?=some (.lst xs)) (e:xs[i]?=some x):ybd (.loc n) (.int i) h=some (x,h):=by unfold ybd;simp only [en,ycR e]
theorem yxA {Y:Type}{f:Y->List PV}{l:List Y}{ρ:PSt}:yll (xFz (yea yI (yb (ye 0) yh))) (yfC [] ρ) (l.map fun x=>.lst (f x)) h=some (l.map fun x=>.lst (f x),h):=ygb _ _ fun x _=>by show xFz _ [.val _] h=_;symm
theorem yAi (w:SW W n S) (B:n<1000) (hl:S.xs.length<=100) (e:h[q]?=some (.lst (lkV S))):ycU [.loc q] h=some (.lst (lkV S),h):=by
 have t:=w.n;have u:ybd (.loc q) (.int 0) h=some (.lst _,h):=yda (i:=0) e rfl;have k:ybd (.loc q) (.int 1) h=some (.lst _,h):=yda (i:=1) e rfl;have j:ybd (.loc q) (.int 2) h=_:=yda (i:=2) e rfl;have p:ybd (.loc q) (.int 3) h=_:=yda (i:=3) e rfl;have y:ybd (.loc q) (.int 4) h=_:=yda (i:=4) e rfl;have c:ybd (.loc q) (.int 5) h=_:=yda (i:=5) e rfl;have b:ybd (.loc q) (.int 6) h=_:=yda (i:=6) e rfl;obtain ⟨v2,d⟩:=ytr (h:=h) (v0:=.val (.loc q)) (v3:=.no) (v4:=.no) S.en [] .no w.shp (by show 0+_<=_;omega);have r:=fun ρ=>yxA (h:=h) (ρ:=ρ) (l:=S.xs) (f:=fun x=>x.s.hs.map .int)
 have s:=fun ρ=>yxA (h:=h) (ρ:=ρ) (l:=S.xs) (f:=yAe)
 have s2:xIL (xOp (ybd) (ye 0) (xC (.int 2))) [.val (.loc q),.own (.lst []),.no,.no,.no] h=some (S.en,h):=yCe (by simpa [j,-ygu]);have s3:∀ v,xIL (xOp (ybd) (ye 0) (xC (.int 4))) [.val (.loc q),v,v2,.no,.no] h=some (S.xs.map fun x=>.lst (x.s.hs.map .int),h):=fun v=>yCe (by simpa [y,-ygu];rfl)
 have s4:∀ v a,xIL (xOp (ybd) (ye 0) (xC (.int 5))) [.val (.loc q),v,v2,a,.no] h=some (S.xs.map fun x=>.lst (yAe x),h):=fun v a=>yCe (by simpa [c,-ygu])
 have A:((S.xs.map fun x=>PV.lst (x.s.hs.map .int)).length<=100000)=True:=eq_true (by rw [length_map];omega);have z:((S.xs.map fun x=>PV.lst (yAe x)).length<=100000)=True:=eq_true (by rw [length_map];omega);unfold ycU;rw [yo];show ob (yl _ _ [.val (.loc q),.no,.no,.no,.no] h) fnK=_;clear w e t
 simpa [s2,d,s3,A,r,s4,z,s,u,k,p,b,-ygu]
 rfl
end
noncomputable def Pf (h h':AH):Prop:=∀ j,j<h.length->h'[j]?=h[j]?
theorem Pf.len (p:Pf h h'):h.length<=h'.length:=Classical.byContradiction fun z=>by have:=p h'.length;simp_all
theorem Pf.trans (p:Pf h h') (q:Pf h' b):Pf h b:=fun j c=>by rw [q j (by have:=p.len;omega),p j c]
theorem Pf.app {h:AH}{l:List Nd}:Pf h (h++l):=fun j b=>getElem?_append_left b
theorem Pf.set (p:Pf h h') (c:h.length<=n):Pf h (h'.set n d):=fun j b=>by rw [getElem?_set_ne (by omega),p j b]
theorem Pf.get {h h':AH}(p:Pf h h') {n:Nat}{d:Nd}(e:h[n]?=some d):h'[n]?=some d:=by rw [p n (List.getElem?_eq_some_iff.mp e).1,e]
theorem Pf.fr (p:Pf h h'):Fr h h':=fun m A=>⟨A.1,fun q b=>by rw [p _ (A.lt b)];exact A.2 q b⟩
theorem ypx (e:ob (yQ (xFz E) ρ h) fnK=some (.lst l,h)):ob (yQ (ydl E) ρ h) fnK=some (.loc h.length,h++[.lst l]):=by
 rw [ykl,yAA] at e;rw [ykl,yyJ];cases z:E ρ h with
 | none=>rw [z] at e;cases e
 | some p =>
  obtain ⟨d,h1⟩:=p;rw [z] at e;cases d<;>cases e;rfl
section
variable {h:AH}{g:HC}{W n k:Nat}{S:St}{as:List (Nat×Lc)}{own:List (Nat×Nd)}{x:HD}
theorem HH.pf (X:HH h g W S.bx S.sp S.en as S.xs own) (p:Pf h h'):HH h' g W S.bx S.sp S.en as S.xs own:=⟨p.fr _ X.at_,X.ly⟩
theorem yDC (X:HH h g W S.bx S.sp S.en as S.xs own):ydw [.loc g.H] h=some (.loc h.length,h++[.lst (S.bx.map .int)]):=by have:=yxp X;unfold ycD at this;unfold ydw;rw [yo] at this ⊢;exact ypx this
theorem yAj (X:HH h g W S.bx S.sp S.en as S.xs own):yde [.loc g.H] h=some (.loc h.length,h++[.lst (S.sp.map .int)]):=by have:=ytc X;unfold ycj at this;unfold yde;rw [yo] at this ⊢;exact ypx this
theorem yDD (X:HH h g W S.bx S.sp S.en as S.xs own) (e:S.xs[k]?=some x):ydx [.loc g.H,.int k] h=some (.loc h.length,h++[.lst (x.s.hs.map .int)]):=by obtain ⟨as1,a,as2,xs1,xs2,c,b,d⟩:=yhd X e;rw [<- b];have:=yxq c (by omega);unfold ycE at this;unfold ydx;rw [yo] at this ⊢;exact ypx this
theorem yHC (X:HH h g W S.bx S.sp S.en as S.xs own) (e:S.xs[k]?=some x) (j:sortI (sK x.s.sn) (sA x.s.sn)=some L):yek [.loc g.H,.int k] h=some (.loc h.length,h++[.lst L]):=by
 obtain ⟨as1,a,as2,xs1,xs2,d,f,s⟩:=yhd X e;rw [<- f];obtain ⟨q,i,o⟩:=ytd d (by omega);have l:=(ydj i).2.2.2.2.2;have R:=d.foc (by omega);have p:=(ycV R.run).2.2.1;have c:=ysT R.lg.ob R.lg.sn j;have r:yeM [.loc a.2.lg] h=some (.loc h.length,h++[.lst L]):=by unfold yew at c;unfold yeM;rw [yo] at c ⊢;exact ypx c
 unfold yek;rw [yo];show ob (yQ _ [.val _,.val _] h) fnK=_
 simpa [ycu,yG (m:="hand_at") o (by rfl'),q,l,p,yG (m:="saw") R.lg.ob (by rfl'),r]
noncomputable def Tr (X:List Nat) (t:PV):Prop:=∃ a b c p q r,t=.tup [a,b,c,.loc p,.loc q,.loc r]/\p∈X/\q∈X/\r∈X
noncomputable def Cs (h0:AH) (L:Nat) (h1:AH) (X:List Nat):Prop:=∀ x∈X,h0.length<=x/\∃ xs,h1[x]?=some (.lst xs)/\xs.length<=L
theorem yxB (v:u[q]?=some (.lst en)) (E:∀ e∈en,EnOk e):∀ (k i:Nat) (h1:AH),Pf u h1->i+k=en.length->∃ ts h2 X,yio q jlE (yfC [] ρ) k i h1=some (ts,h2)/\Pf h1 h2/\ts.length=k/\(∀ t∈ts,Tr X t)/\Cs u 64 h2 X
 | 0,i,h1,p,B=>⟨[],h1,[],by unfold yio;simp only [p.get v];rw [if_pos (by omega)],(fun _ _=>rfl),rfl,(fun _ z=>by cases z),fun _ z=>by cases z⟩
 | k+1,i,h1,p,B=>by
  have l:i<en.length:=by omega
  obtain ⟨ei,w,ek,j,a,b,c,F,_,I,lb,J⟩:=E _ (getElem_mem l);have s1:jlE (yfC [] ρ en[i]) h1=some (.tup [.int ei,.int w,.tup (.str ek::j),.loc h1.length,.loc (h1++[Nd.lst (a.map yck)]).length,.loc (h1++[Nd.lst (a.map yck)]++[Nd.lst (b.map yck)]).length],h1++[Nd.lst (a.map yck)]++[Nd.lst (b.map yck)]++[Nd.lst (c.map .int)]):=by rw [F];rfl
  obtain ⟨s,f⟩:∃ s,h1++[Nd.lst (a.map yck)]++[Nd.lst (b.map yck)]++[Nd.lst (c.map .int)]=s:=⟨_,rfl⟩
  have y:Pf h1 s:=by rw [<- f,append_assoc,append_assoc];exact Pf.app
  obtain ⟨ts,h2,X,A,m,D,C,G⟩:=yxB (ρ:=ρ) v E k (i+1) s (p.trans y) (by omega);have hl:=p.len;refine ⟨.tup [.int ei,.int w,.tup (.str ek::j),.loc h1.length,.loc _,.loc _]::ts,h2,h1.length::(h1++[Nd.lst (a.map yck)]).length::(h1++[Nd.lst (a.map yck)]++[Nd.lst (b.map yck)]).length::X,?_,y.trans m,by rw [length_cons,D],List.forall_mem_cons.2 ⟨⟨_,_,_,_,_,_,rfl,mem_cons_self,.tail _ mem_cons_self,.tail _ (.tail _ mem_cons_self)⟩,fun t H=>?_⟩,?_⟩
  .unfold yio;simp only [p.get v,List.getElem?_eq_getElem l];rw [s1,ybE,f,A,ybE]
  .obtain ⟨a,b,c,p,q,r,e,x1,x2,x3⟩:=C t H;exact ⟨a,b,c,p,q,r,e,.tail _ (.tail _ (.tail _ x1)),.tail _ (.tail _ (.tail _ x2)),.tail _ (.tail _ (.tail _ x3))⟩
  .intro x o;simp only [mem_cons] at o;rcases o with rfl|rfl|rfl|o
   .exact ⟨hl,_,m.get (d:=.lst (a.map yck)) (by rw [<- f];simp),by rw [length_map];omega⟩
   .exact ⟨by rw [length_append];omega,_,m.get (d:=.lst (b.map yck)) (by rw [<- f];simp),by rw [length_map];omega⟩
   .exact ⟨by grind,_,m.get (d:=.lst (c.map .int)) (by rw [<- f];simp),by rw [length_map];omega⟩
   .exact G x o
structure SI (h0:AH) (N:Nat) (ts:List PV) (X:List Nat) (L:Nat) (h1:AH):Prop where
 pf:Pf h0 h1
 tl:h1[N]?=some (.lst ts)
 nN:h0.length<=N
 nx:N∉X
 cs:Cs h0 L h1 X
theorem SI.app (I:SI d N ts X L h1) (c:y∈X) (m:L<=5000):∃ h2,ydR (.loc y) [v] h1=some (.non,h2)/\ydz (.loc y) h1=true/\SI d N ts X (L+1) h2:=by
 obtain ⟨b,xs,e,l⟩:=I.cs y c;have a:y≠N:=fun z=>I.nx (z ▸ c)
 refine ⟨_,yeH e (by omega),ycc e,I.pf.set b,by rw [getElem?_set_ne a];exact I.tl,I.nN,I.nx,fun z hz=>?_⟩;obtain ⟨f,j,i,o⟩:=I.cs z hz;refine ⟨f,?_⟩
 by_cases q:y=z
 .subst q;exact ⟨_,getElem?_set_self (List.getElem?_eq_some_iff.mp e).1,by simp_all⟩
 .exact ⟨j,by rw [getElem?_set_ne q];exact i,by omega⟩
theorem ywn (X:HH h g W S.bx S.sp S.en as S.xs own) (w:SW W n S) (q:n<1000):∃ N h1 ts Y,ycQ [.loc g.H] h=some (.loc N,h1)/\SI h N ts Y 64 h1/\ts.length<=1000/\∀ t∈ts,Tr Y t:=by
 obtain ⟨m,s,r,f⟩:=ydi (X.at_.get 0 rfl);have e:=X.at_.get 4 rfl;have p:=w.n;obtain ⟨ts,h2,Y,i,d,o,j,c⟩:=yxB e w.e S.en.length 0 h (fun _ _=>rfl) (by omega);refine ⟨h2.length,h2++[.lst ts],ts,Y,?_,⟨d.trans Pf.app,by simp,d.len,fun z=>?_,fun x l=>?_⟩,by omega,j⟩
 .unfold ycQ;rw [yo];show ob (yQ _ [.val _] h) fnK=_;rw [ykl,yyJ];unfold ydB
  simpa [f]
  simp only [e];rw [if_pos (by omega),i];rfl
 .obtain ⟨_,xs,e,_⟩:=c _ z;simp_all
 .obtain ⟨a,xs,e,b⟩:=c x l;exact ⟨a,xs,Pf.app.get e,b⟩
end
section
variable {h:AH}{g:HC}{W n m k N L i:Nat}{S:St}{as:List (Nat×Lc)}{own:List (Nat×Nd)}{x:HD}{h0 h1:AH}{ts:List PV}{X:List Nat}{v2 v4 v5:PVar}
noncomputable def spS (g:HC) (m:Nat) (v2:PVar) (N:Nat) (v4 v5:PVar):PSt:=[.val (.loc g.H),.val (.int (m:Nat)),v2,.val (.loc N),v4,v5]
theorem yAk (I:SI h0 N ts X L h1) (A:L<=4900) (T:Tr X t):∃ h2,spB (spS g m v2 N (.val t) v5) h1=some (.nx (spS g m v2 N (.val t) v5),h2)/\SI h0 N ts X (L+3) h2:=by
 obtain ⟨a,b,c,p,q,r,rfl,hp,z,u⟩:=T;obtain ⟨k1,f,y,w⟩:=I.app (v:=.tup [.int 0,.int 0]) hp (by omega);obtain ⟨k2,o,l,j⟩:=w.app (v:=.tup [.int 0,.int 0]) z (by omega);obtain ⟨k3,s,d,e⟩:=j.app (v:=.int 77) u (by omega);refine ⟨k3,?_,e⟩;unfold spB spS
 simpa [y,f,l,o,d,s]
theorem yts (H:∀ t∈ts,Tr X t):∀ k i h1 L v4,SI h0 N ts X L h1->i+k=ts.length->L+3*k<=4900->∃ h2 a c,yjl N false (yq 4) spB k i (spS g m v2 N v4 v5) h1=some (.nx (spS g m v2 N a v5),h2)/\SI h0 N ts X c h2
 | 0,i,h1,L,v4,I,f,_=>⟨h1,v4,L,by unfold yjl;simp only [I.tl];simp_all,I⟩
 | k+1,i,h1,L,v4,I,f,p=>by
  have b:i<ts.length:=by omega
  obtain ⟨h2,l,e⟩:=yAk I (by omega) (H _ (getElem_mem b));obtain ⟨d,a,c,o,j⟩:=yts H k (i+1) h2 _ _ e (by omega) (by omega);refine ⟨d,a,c,?_,j⟩;unfold yjl;simp only [I.tl,Bool.false_eq_true,if_false,List.getElem?_eq_getElem b];rw [show yq 4 _ _=some (spS g m v2 N _ v5) from rfl,bind_some,l];exact o
theorem yog {l:List PV}(hl:l.length<1000):ydz (.loc h.length) (h++[.lst l])=true/\ydR (.loc h.length) [v] (h++[.lst l])=some (.non,h++[.lst (l++[v])]):=⟨ycc ygk,by rw [yeH ygk (by omega),yof]⟩
theorem yAl (X:HH h g W S.bx S.sp S.en as S.xs own) (w:SW W n S) (q:W<=4) (e:S.xs[k]?=some x):∃ h',shB (spS g m v2 N v4 (.val (.int (k:Nat)))) h=some (.nx (spS g m v2 N v4 (.val (.int (k:Nat)))),h')/\Pf h h':=by
 have c:=mem_of_getElem? e;obtain ⟨ls,r,_,s⟩:=w.saw q c;have hl:=(w.x x c).hl;have f:=yDD X e;obtain ⟨o,a1⟩:=yog (h:=h) (l:=x.s.hs.map .int) (by simp_all);have o1:=X.at_.get 0 rfl;have b:=X.junk (.lst (x.s.hs.map PV.int++[.int 88]));obtain ⟨h1,d⟩:∃ h1,h++[Nd.lst (x.s.hs.map PV.int++[.int 88])]=h1:=⟨_,rfl⟩
 rw [d] at a1 b;have p:=yHC b e r;obtain ⟨j,a2⟩:=yog (h:=h1) (l:=ls.map yck) (v:=.tup [.int 1,.int 1]) (by rw [length_map];omega);have o2:=b.at_.get 0 rfl;refine ⟨_,?_,show Pf h (h1++[.lst (ls.map yck++[.tup [.int 1,.int 1]])]) from by rw [<- d];exact Pf.app.trans Pf.app⟩;unfold shB spS
 simpa [ycu,yG (m:="slots") o1 (by rfl'),f,o,a1,yG (m:="saw") o2 (by rfl'),p,j,a2]
theorem ytt (w:SW W n S) (d:W<=4):∀ (l:List Nat) h v5,HH h g W S.bx S.sp S.en as S.xs own->(∀ k∈l,k<S.xs.length)->∃ h' a,yhN (yq 5) shB (l.map fun k:Nat=>.int k) (spS g m v2 N v4 v5) h=some (.nx (spS g m v2 N v4 a),h')/\Pf h h'
 | [],h,v5,_,_=>⟨h,v5,rfl,fun _ _=>rfl⟩
 | k::l,h,v5,X,b=>by
  obtain ⟨h1,j,c⟩:=yAl X w d (List.getElem?_eq_getElem (b k mem_cons_self));obtain ⟨h2,a,f,e⟩:=ytt w d l h1 _ (X.pf c) fun k z=>b k (mem_cons_of_mem _ z)
  refine ⟨h2,a,?_,c.trans e⟩;rw [map_cons,ykN (rfl) j,f]
theorem yoh m:ymR 0 m=(List.range m).map fun k=>.int k:=by unfold ymR;simp
theorem ywo (X:HH h g W S.bx S.sp S.en as S.xs own) (w:SW W n S) (h1:1<=W) (J:W<=4) (R:n<1000) (hl:S.xs.length<=100):∃ h',ycG [.loc g.H,.int (S.xs.length:Nat)] h=some (.non,h')/\Pf h h':=by
 have T:=w.b;have U:=w.p;have M:=yDC X;obtain ⟨E,a1⟩:=yog (h:=h) (l:=S.bx.map .int) (v:=.int 9) (by rw [length_map];omega);have o1:h[g.H]?=some (ynU g.nu g.ma g.cr g.en):=X.at_.get 0 rfl;have d:=X.junk (.lst (S.bx.map PV.int++[.int 9]));obtain ⟨k1,u⟩:∃ k1,h++[Nd.lst (S.bx.map PV.int++[.int 9])]=k1:=⟨_,rfl⟩
 rw [u] at a1 d;have B:Pf h k1:=by rw [<- u];exact Pf.app
 have I:=yAj d;have o2:k1[g.H]?=some (ynU g.nu g.ma g.cr g.en):=d.at_.get 0 rfl;have s2:=ykV (h:=k1++[.lst (S.sp.map .int)]) (eo:=ye 2) (ei:=xC (.int 0)) (ev:=xC (.int 44)) (ρ:=[.val (.loc g.H),.val (.int (S.xs.length:Nat)),.val (.loc k1.length),.no,.no,.no]) (k:=0) rfl rfl rfl ygk (by rw [length_map];omega);rw [yof] at s2;have b:=d.junk (.lst ((S.sp.map PV.int).set 0 (.int 44)));obtain ⟨k2,C⟩:∃ k2,k1++[Nd.lst ((S.sp.map PV.int).set 0 (.int 44))]=k2:=⟨_,rfl⟩
 rw [C] at s2 b;have s:Pf k1 k2:=by rw [<- C];exact Pf.app
 have P:k2[g.H]?=some (ynU g.nu g.ma g.cr g.en):=b.at_.get 0 rfl;obtain ⟨N,k3,ts,Y,G,o,lt,r⟩:=ywn b w R;obtain ⟨f,v4,L,D,c⟩:=yts (g:=g) (m:=S.xs.length) (v2:=.val (.loc k1.length)) (v5:=.no) r ts.length 0 k3 64 .no o (by omega) (by omega);have q:=yeH (y:=.int 5) c.tl (by omega);have H:=ycc c.tl;have e:Pf k2 (f.set N (.lst (ts++[.int 5]))):=c.pf.set c.nN;obtain ⟨k5,F⟩:∃ k5,f.set N (.lst (ts++[.int 5]))=k5:=⟨_,rfl⟩
 rw [F] at q e;obtain ⟨A,v5,t,p⟩:=ytt (m:=S.xs.length) (v2:=.val (.loc k1.length)) (N:=N) (v4:=v4) w J (List.range S.xs.length) k5 .no (b.pf e) fun k z=>List.mem_range.mp z
 refine ⟨A,?_,B.trans (s.trans (e.trans p))⟩;have O:ygX false (ye 3) (yq 4) spB (spS g S.xs.length (.val (.loc k1.length)) N .no .no) k3=some (.nx (spS g S.xs.length (.val (.loc k1.length)) N v4 .no),f):=by unfold ygX;rw [show ye 3 (spS g S.xs.length (.val (.loc k1.length)) N .no .no) k3=some (.loc N,k3) from rfl,ybE];simp only [o.tl];exact D
 have K:yjd (yhz (yb (ye 1) (yh))) (yq 5) shB (spS g S.xs.length (.val (.loc k1.length)) N v4 .no) k5=some (.nx (spS g S.xs.length (.val (.loc k1.length)) N v4 v5),A):=by rw [ypT,ylZ (j:=(S.xs.length:Nat)) rfl (by omega) (by omega),ybE,Int.toNat_natCast,yoh,t]
 clear X d b o c w B s e p r D t;unfold spS at *;unfold ycG;rw [yo];show ob (yl _ (yl _ (yl _ (yl _ (yl (ygX false (ye 3) (yq 4) spB) (yl _ (yjd (yhz (yb (ye 1) (yh))) (yq 5) shB)))))) [.val (.loc g.H),.val (.int (S.xs.length:Nat)),.no,.no,.no,.no] h) fnK=_
 simpa [ycu,yG (m:="boxes") o1 (by rfl'),M,E,a1,yG (m:="stamps") o2 (by rfl'),I,s2,yG (m:="journal") P (by rfl'),G,O,H,q,K,-ypT]
end
def hC (g:HC) (W:Nat) (S:St) (as:List (Nat×Lc)):List (Nat×Nd):=H5 g S.bx S.sp S.en (as.map (·.1))++CR W as S.xs []
noncomputable def ub {Y:Type}(f:Bool->Y) (b:Bool) (x:Y):Bool->Y:=fun c=>if c=b then x else f c
theorem yFX {Y:Type}{f:Bool->Y}{b:Bool}{x:Y}:ub f b x b=x:=if_pos rfl
theorem yHD {Y:Type}{f:Bool->Y}{b:Bool}{x:Y}:ub f b x (!b)=f !b:=by cases b<;>rfl
theorem yxC {Y:Type}{f:Bool->Y}{b:Bool}{x:Y}{P:Bool->Y->Prop}(H:∀ c,P c (f c)) (d:P b x) c:P c (ub f b x c):=by
 unfold ub;split
 .rename_i e;rw [e];exact d
 .exact H c
noncomputable def bi (b:Bool):Int:=if b then 1 else 0
section
variable {h h':AH}{W:Nat}{g:Bool->HC}{S:Bool->St}{as:List (Nat×Lc)}{own m m1 m2:List (Nat×Nd)}{n:Nat}{d d':Nd}{G:HC}{Z:St}
theorem HH.c (X:HH h G W Z.bx Z.sp Z.en as Z.xs own):At h (hC G W Z as++own):=by have:=X.at_;rw [yiG] at this;exact this
theorem HH.of (A:At h (hC G W Z as++own)) (l:LyOk as Z.xs):HH h G W Z.bx Z.sp Z.en as Z.xs own:=⟨by rw [yiG];exact A,l⟩
theorem At.mem {d:Nd}(A:At h l) (b:(a,d)∈l):h[a]?=some d:=A.2 _ b
def T2 (h:AH) (W:Nat) (g:Bool->HC) (S:Bool->St) (own:List (Nat×Nd)):Prop:=∃ a:Bool->List (Nat×Lc),At h (hC (g false) W (S false) (a false)++(hC (g true) W (S true) (a true)++own))/\∀ b,LyOk (a b) (S b).xs
theorem T2.at_ (T:T2 h W g S own) b:∃ as w,HH h (g b) W (S b).bx (S b).sp (S b).en as (S b).xs w/\∀ {h' S' e},HH h' (g b) W S'.bx S'.sp S'.en e S'.xs w->T2 h' W g (ub S b S') own:=by
 obtain ⟨a,A,l⟩:=T;cases b
 .exact ⟨_,_,HH.of A (l false),fun {h' S' e} X=>⟨ub a false e,X.c,fun c=>by cases c;exact X.ly;exact l true⟩⟩
 .exact ⟨_,_,HH.of (A.perm (List.perm_append_comm_assoc _ _ _)) (l true),fun {h' S' e} X=>⟨ub a true e,X.c.perm (List.perm_append_comm_assoc _ _ _),fun c=>by cases c;exact l false;exact X.ly⟩⟩
theorem T2.o (T:T2 h W g S own):At h own:=by obtain ⟨a,A,_⟩:=T;exact A.sub ((List.sublist_append_right _ _).trans (List.sublist_append_right _ _))
theorem T2.fr (T:T2 h W g S own) (F:Fr h h'):T2 h' W g S own:=by obtain ⟨a,A,l⟩:=T;exact ⟨a,F _ A,l⟩
theorem T2.sub (T:T2 h W g S own) (s:m.Sublist own):T2 h W g S m:=by obtain ⟨a,A,l⟩:=T;exact ⟨a,A.sub ((s.append_left _).append_left _),l⟩
theorem T2.set (T:T2 h W g S (m1++(n,d)::m2)):T2 (h.set n d') W g S (m1++(n,d')::m2):=by obtain ⟨a,A,l⟩:=T;refine ⟨a,?_,l⟩;rw [<- append_assoc,<- append_assoc] at A ⊢;exact At.upd d' A
theorem T2.new (T:T2 h W g S (m1++m2)):T2 (h++[d]) W g S (m1++(h.length,d)::m2):=by obtain ⟨a,A,l⟩:=T;refine ⟨a,?_,l⟩;rw [<- append_assoc,<- append_assoc] at A ⊢;exact At.new d A
theorem ixb {f:Bool->PV}{b:Bool}:ybd (.lst [f false,f true]) (.int (bi b)) h=some (f b,h):=by cases b<;>rfl
theorem yGU {f:Bool->PV}{b:Bool}(e:h[n]?=some (.lst [f false,f true])):ybd (.loc n) (.int (bi b)) h=some (f b,h):=by
 cases b
 .exact yda e rfl
 .exact yda e rfl
structure Cl where
 t:Bool->Nat
 u:Bool->Nat
 T:Nat
 U:Nat
noncomputable def nV (l:List Nat):List PV:=l.map fun i:Nat=>.int (i:Nat)
def ow (c:Cl) (is:Bool->List Nat) (ts:Bool->List PV) (hl:List (Nat×List PV)):List (Nat×Nd):=(c.T,.lst [.loc (c.t false),.loc (c.t true)])::(c.U,.lst [.loc (c.u false),.loc (c.u true)])::(c.t false,.lst (nV (is false)))::(c.t true,.lst (nV (is true)))::(c.u false,.lst (ts false))::(c.u true,.lst (ts true))::hl.map fun p=>(p.1,.lst p.2)
variable {c:Cl}{is:Bool->List Nat}{ts:Bool->List PV}{hl:List (Nat×List PV)}{b:Bool}
theorem yHE:(c.t b,Nd.lst (nV (is b)))∈ow c is ts hl:=by cases b<;>simp [ow]
theorem yGV:(c.u b,Nd.lst (ts b))∈ow c is ts hl:=by cases b<;>simp [ow]
theorem T2.st (T:T2 h W g S (ow c is ts hl)) l:T2 (h.set (c.t b) (.lst (nV l))) W g S (ow c (ub is b l) ts hl):=by
 cases b
 .exact T.set (m1:=[_,_])
 .exact T.set (m1:=[_,_,_])
theorem T2.su (T:T2 h W g S (ow c is ts hl)) l:T2 (h.set (c.u b) (.lst l)) W g S (ow c is (ub ts b l) hl):=by
 cases b
 .exact T.set (m1:=[_,_,_,_])
 .exact T.set (m1:=[_,_,_,_,_])
theorem ymA (T:T2 h W g S (ow c is ts hl)) (O:TO W k (S b) i t S') (h1:(is b).length<=1000) (h2:(ts b).length<=1000):∃ h',ydg [.lst [.loc (g false).H,.loc (g true).H],.loc c.T,.loc c.U,.int (bi b),.int i] h=some (.non,h')/\T2 h' W g (ub S b S') (ow c (ub is b (is b++[i])) (ub ts b (ts b++[t])) hl):=by
 have x1:=yGU (b:=b) (f:=fun b=>.loc _) (T.o.get 0 rfl);have o:=T.o.mem (yHE (b:=b));have a1:=yeH (y:=.int i) o (by unfold nV;rw [length_map];omega);have s:=ycc o;rw [show nV _++[.int i]=nV (is b++[i]) by unfold nV;rw [map_append];rfl] at a1;have l:=T.st (b:=b) (is b++[i]);obtain ⟨as,w,X,e⟩:=l.at_ b;obtain ⟨k2,r,q,v⟩:=O.t _ _ _ _ X;have a:=e v;have o1:=X.at_.get 0 rfl;have x2:=yGU (b:=b) (f:=fun b=>.loc _) (l.o.get 1 rfl);have x3:=fun h=>ixb (h:=h) (b:=b) (f:=fun b=>.loc (g b).H)
 have p:=ycc (l.o.mem (yGV (b:=b)));have u:=a.o.mem (yGV (b:=b));have a2:=yeH (y:=t) u (by omega);refine ⟨_,?_,a.su _⟩;unfold ydg;rw [yo];show ob (yl _ _ [.val _,.val _,.val _,.val _,.val _] h) fnK=_
 simpa [x1,s,a1,x2,p,x3,ycu,yG (m:="turn") o1 (by rfl'),q,a2,-ygu]
end
theorem ypy cs c b:yqv (cs.map PV.int) c b=(yqv cs c b).map .int:=by unfold yqv;rw [length_map,List.map_take,List.map_drop]
theorem yDE {Y:Type}(xs:List Y) (k:Nat):yqv xs none (some k)=xs.take k:=by unfold yqv;simp only [HT.sIx_nat,HT.sIx_none,List.drop_zero,Nat.sub_zero];grind
theorem ytu cs k n:yha (cs.map PV.int) k n=(yha cs k n).map .int:=by unfold yha;rw [length_map,List.map_filterMap];simp_all
section
variable {h:AH}{ns:List Int}
theorem yhe k:ybl [.scr ns,.int (k:Nat)] h=some (.int (ns.getD k 0),h):=by
 unfold ybl;rw [yo];show ob (yl _ _ [.val _,.val _] h) fnK=_
 by_cases e:k<ns.length
 .have b:((k:Int)<ns.length)=True:=eq_true (by omega);have c:atI ns k=some (ns.getD k 0):=ycR (by simp_all);have d:ybd (.scr ns) (.int k) h=some (.int (ns.getD k 0),h):=by unfold ybd;simp only [c]
  simpa [b,d,c]
 .have b:((k:Int)<ns.length)=False:=eq_false (by omega);rw [show ns.getD k 0=0 by simp_all]
  simpa [b]
def bxV (c:Int) (W:Nat):List Int:=(List.range W).map fun k:Nat=>nb (c+31*(k:Int)*(k:Int))
theorem yAm:(bxV c W).length=W/\∀ v∈bxV c W,0<=v/\v<B64:=by refine ⟨by unfold bxV;simp,fun v hv=>?_⟩;obtain ⟨k,_,rfl⟩:=List.mem_map.mp hv;exact yoc _
theorem ytv (g:W<=4) {v2:PVar}(b:∀ x,yfC [0] ρ x=[.val x,.val (.scr ns)]):yll (yT ybA (yb (xOp yeG (yT ybl (yb (ye 1) (yb (xC (.int 1)) yh))) (xOp ynA (xOp ynA (xC (.int 31)) (ye 0)) (ye 0))) yh)) (yfC [0] ρ) (ymR 0 W) h=some ((bxV (ns.getD 1 0) W).map .int,h):=by
 unfold ymR bxV;rw [map_map];refine (ygb _ _ fun k d=>?_);have d:=List.mem_range.mp d;rw [b,Int.zero_add];have e:ybl [.scr ns,.int 1] h=some _:=yhe 1;have f:=yDu (h:=h) (c:=ns.getD 1 0+31*k*k);have m1:PX.MulOk 31 k=True:=eq_true (by left;decide);have m2:PX.MulOk (31*k) k=True:=eq_true (by constructor<;>omega)
 simpa [e,m1,m2,f]
 rfl
theorem ymB {cs:List Int}{m:Nat}(h1:1<=m) (d:cs.length<=60) {ρ:PSt}(b:∀ x,yfC [4,3] ρ x=[.val x,.val (.lst (cs.map .int)),.val (.int m)]):∀ l:List Nat,∃ hs:List _,yll (yT ycZ (yb (xFz (yqt yzp (ye 1) (yfU (ye 0)) (yfU (ye 2)))) yh)) (yfC [4,3] ρ) (l.map fun k:Nat=>.int k) h=some (hs.map fun ds=>.lst (dsV ds),h)/\hs.length=l.length/\∀ ds∈hs,ds.length<=6/\∀ x∈ds,yqm x
 | []=>⟨[],rfl,rfl,fun _ h=>by cases h⟩
 | k::l=>by
  obtain ⟨hs,e,j,g⟩:=ymB h1 d b l;obtain ⟨ds,q,f,i⟩:=ytn (h:=h) (cs:=yha cs k m) (by have:=yml cs k m;omega);refine ⟨_,?_,by simp_all,List.forall_mem_cons.2 ⟨⟨f,i⟩,g⟩⟩;have sl:∀ h,yzp (.lst (cs.map _)) (some _) (some _) h=some _:=fun h=>by show (if 0<=(k:Int)/\1<=(m:Int) then _ else _)=_;rw [if_pos ⟨by omega,by omega⟩,Int.toNat_natCast,Int.toNat_natCast,ytu]
  have c:yT ycZ (yb (xFz (yqt yzp (ye 1) (yfU (ye 0)) (yfU (ye 2)))) yh) [.val (.int k),.val (.lst (cs.map .int)),.val (.int m)] h=some (.lst (dsV ds),h):=by simpa [sl,q]
  show ob _ _=_;rw [b,c,ybE];rw [e];rfl
end
def rwP (ds:List (List Pce)):List (Str×List Rw):=ds.map fun ps=>(dTx ps,dRw ps)
def S00 (c:Int) (W:Nat) (hs:List (List (List Pce))):St:=⟨bxV c W,replicate W 0,[],(hs.map rwP).map hd0⟩
theorem sw0 (H:∀ ds∈hs,ds.length<=6/\∀ x∈ds,yqm x):SW W 0 (S00 c W hs):=by
 obtain ⟨k,l⟩:=yAm;refine ⟨k,by simp [S00],l,fun x m=>?_,(fun _ h=>by cases h),Nat.le_refl _⟩
 .obtain ⟨d,hd,rfl⟩:=List.mem_map.mp m;obtain ⟨f,b,rfl⟩:=List.mem_map.mp hd;have j:GV Z8:=⟨rfl,fun v hv=>by rw [show v=0 by simpa [Z8] using hv];exact in0⟩
  have g:∀ d∈rwP f,∃ P,yxr d.2 P:=fun d hd=>by obtain ⟨ps,hp,rfl⟩:=List.mem_map.mp hd;exact ⟨_,yzX ((H f b).2 ps hp)⟩
  generalize rwP f=ds at *;refine ⟨fun i e=>?_,zero_le _,j,NF0,yGS ds,fun n=>?_,rfl⟩
  .have e:=by simpa [hd0] using e
   obtain ⟨P,G⟩:=g _ (getElem_mem e);refine ⟨_,P,?_,G⟩;show (ds.map ypr)[i]?=_;rw [getElem?_map,List.getElem?_eq_getElem e];rfl
  .cases ds with
   | nil=>exact absurd n (by decide)
   | cons d r =>
    obtain ⟨P,G⟩:=g d mem_cons_self;exact ⟨_,P,rfl,G,.start G j⟩
section
variable {h h':AH}{c:Int}{W nb n b:Nat}{hs:List (List (List Pce))}
def plc (b:Nat):List (List (List Pce))->List (Nat×List (Str×List Rw))
 | []=>[]
 | ds::l=>(b,rwP ds)::plc (b+1) l
theorem yDF:∀ hs b,(plc b hs).map (fun p=>hd0 p.2)=(hs.map rwP).map hd0
 | [],_=>rfl
 | ds::l,b=>by show hd0 _::_=_;rw [yDF l];rfl
theorem ykW:∀ hs b,(plc b hs).length=hs.length
 | [],_=>rfl
 | ds::l,b=>by show _+1=_;rw [ykW l];rfl
theorem yAn:∀ {hs:List _}{b:Nat}{p:Nat×List _},p∈plc b hs->b<=p.1/\p.1<b+hs.length/\∃ ds∈hs,p.2=rwP ds/\hs[p.1-b]?=some ds
 | ds::l,b,p,hp=>by
  rcases mem_cons.mp hp with rfl|hp
  .simp_all
  .obtain ⟨a1,a2,d,hd,e,e'⟩:=yAn hp;refine ⟨by omega,by grind,d,mem_cons_of_mem _ hd,e,?_⟩;grind
theorem yAo:(rwP ds).map txV=dsV ds:=by unfold rwP;rw [map_map];rfl
def hdC (hs:List (List (List Pce))):List Nd:=hs.map fun ds=>.lst (dsV ds)
theorem ytw:∀ hs h,yll (ydl (yea yI (yb (ye 0) yh))) (yfC [] ρ) (hs.map fun ds=>.lst (dsV ds)) h=some ((plc h.length hs).map fun p=>.loc p.1,h++hdC hs)
 | [],h=>by rw [show hdC []=[] from rfl,append_nil];rfl
 | ds::l,h=>by have a:=ytw (ρ:=ρ) l (h++[.lst (dsV ds)]);show ob (ydl _ [.val _] h) _=_;rw [show ydl _ _ h=some _ from rfl,ybE,a,length_append];rw [append_assoc];rfl
structure Hd (h:AH) (c:Int) (W:Nat) (hs:List (List (List Pce))) (nb n b:Nat):Prop where
 o:h[nb]?=some (.lst ((bxV c W).map .int))
 l:h[n]?=some (.lst ((plc b hs).map fun p=>.loc p.1))
 e:∀ p∈plc b hs,h[p.1]?=some (.lst (p.2.map txV))
theorem Hd.fr (D:Hd h c W hs nb n b) (F:Fr h h'):Hd h' c W hs nb n b:=⟨F.get D.o,F.get D.l,fun p hp=>F.get (D.e p hp)⟩
theorem yDG (a:1<=hs.length):Hd (h++[Nd.lst ((bxV c W).map .int)]++hdC hs++[Nd.lst ((plc (h++[Nd.lst ((bxV c W).map .int)]).length hs).map fun p=>.loc p.1)]) c W hs h.length (h++[Nd.lst ((bxV c W).map .int)]++hdC hs).length (h++[Nd.lst ((bxV c W).map .int)]).length:=by refine ⟨by simp,by simp,fun p hp=>?_⟩;obtain ⟨a1,a2,ds,hd,e,e'⟩:=yAn hp;rw [getElem?_append_left (by rw [length_append];unfold hdC;rw [length_map];omega),getElem?_append_right a1];unfold hdC;rw [getElem?_map,e',e,yAo];rfl
theorem yiM (D:Hd h c W hs nb n b) (t:1<=W) (k:W<=4) (H:∀ ds∈hs,ds.length<=6/\∀ x∈ds,yqm x) (h1:1<=hs.length) (s:hs.length<=8):∃ h' g f,yZ [.loc h.length,.loc nb,.loc n] (h++[Nd.ins 15 [] []])=some (.non,h')/\g.H=h.length/\∀ m,At h m->HH h' g W (S00 c W hs).bx (S00 c W hs).sp (S00 c W hs).en f (S00 c W hs).xs m:=by
 obtain ⟨l,q⟩:=yAm;obtain ⟨h',g,f,j,o,r⟩:=yth (by omega) (by omega) q (fun p hp=>by obtain ⟨_,_,ds,hd,e,_⟩:=yAn hp;rw [e];refine ⟨by unfold rwP;simp_all,fun d a=>?_⟩;obtain ⟨ps,i,rfl⟩:=List.mem_map.mp a;exact (yxv ((H ds hd).2 ps i)).1) (by rw [ykW];exact h1) (by rw [ykW];exact s) D.o D.l D.e
 refine ⟨h',g,f,j,o,fun m A=>?_⟩;have:=r m A;rw [yDF,l] at this;exact this
end
section
variable {h:AH}{c:Int}{W q r n:Nat}{hs:List (List (List Pce))}{is all:List Nat}{xs ts:List PV}{S':St}{own:List (Nat×Nd)}
theorem yAp (F:∀ x∈xs,Fl n x) (a:n<40):ygU (eqP 40 h) xs xs=some true:=ymz fun x b=>yAd n (F x b) a
theorem yDH (F:∀ x∈xs,Fl n x) (d:n<40) (b:h[q]?=some (.lst xs)) (a:h[r]?=some (.lst xs)):ynL (.loc q) (.loc r) h=some (.bl false,h):=by
 have:pairE (eqP 40 h) h (.loc q) (.loc r)=some true:=by unfold pairE ybr;simp only [b,a,if_true,yAp F d]
 unfold ynL;rw [this];rfl
theorem yxD (F:∀ x∈xs,Fl n x) (d:n<40) (e:h[q]?=some (.lst xs)):ynL (.loc q) (.lst xs) h=some (.bl false,h)/\yCk (.lst xs) (.loc q) h=some (.bl true,h):=by
 have a:pairE (eqP 40 h) h (.loc q) (.lst xs)=some true:=by unfold pairE ybr;simp only [e,if_true,yAp F d]
 have b:pairE (eqP 40 h) h (.lst xs) (.loc q)=some true:=by unfold pairE ybr;simp only [e,if_true,yAp F d]
 unfold ynL yCk;rw [a,b];exact ⟨rfl,rfl⟩
theorem ywp {g:HC}{ρ:PSt}(hρ:∀ x,yfC [4] ρ x=[.val x,.val (.loc g.H)]) {is:List Nat}{n:Nat}{S S':St}{ts:List PV}(R:Rn W n S is ts S'):∀ {i:Nat}{h:AH}{as:List (Nat×Lc)},i+is.length=all.length->all.drop i=is->HH h g W S.bx S.sp S.en as S.xs ((q,.lst (nV all))::own)->∃ h' as',yio q agE (yfC [4] ρ) is.length i h=some (ts,h')/\HH h' g W S'.bx S'.sp S'.en as' S'.xs ((q,.lst (nV all))::own):=by
 induction R with
 | nil =>
  intro i h as hi _ X;exact ⟨h,as,by show yio q agE _ 0 i h=_;unfold yio;simp only [X.c.mem (mem_append_right _ mem_cons_self)];rw [if_pos (by unfold nV;rw [length_map];simpa using hi.symm)],X⟩
 | @cons _ j _ _ _ t is ts T rn ih =>
  intro i h as hi ed X;rw [length_cons] at hi;obtain ⟨h1,as1,q1,X1⟩:=T.t h g as _ X;have ej:all[i]?=some j:=by rw [<- List.head?_drop,ed];rfl
  obtain ⟨h2,as2,q2,X2⟩:=ih (i:=i+1) (by omega) (by rw [<- List.tail_drop,ed];rfl) X1;refine ⟨h2,as2,?_,X2⟩;have e1:agE (yfC [4] ρ (.int (j:Nat))) h=some (t,h1):=by
   have o:=X.at_.get 0 rfl;rw [hρ];unfold agE;clear X X1 X2 rn T q2
   simpa [ycu,yG (m:="turn") o (by rfl'),q1]
  show yio q agE _ (is.length+1) i h=_;unfold yio;simp only [X.c.mem (mem_append_right _ mem_cons_self)];rw [show (nV all)[i]?=some (.int (j:Nat)) by unfold nV;rw [getElem?_map,ej];rfl];dsimp only;rw [e1,ybE,q2,ybE]
theorem ypz (R:Rn W 0 (S00 c W hs) is ts S') (u:1<=W) (b:W<=4) (H:∀ ds∈hs,ds.length<=6/\∀ x∈ds,yqm x) (h1:1<=hs.length) (E:hs.length<=8) (hl:is.length<=900) (A:At h ((q,.lst (nV is))::(r,.lst ts)::own)):∃ h',ybZ [.lst ((bxV c W).map .int),.lst (hs.map fun ds=>.lst (dsV ds)),.loc q,.loc r] h=some (.bl true,h')/\At h' ((q,.lst (nV is))::(r,.lst ts)::own):=by
 have D:=yDG (h:=h) (c:=c) (W:=W) h1;have f:=fun ρ=>ytw (ρ:=ρ) hs (h++[.lst ((bxV c W).map .int)])
 obtain ⟨k1,e⟩:∃ k1,h++[Nd.lst ((bxV c W).map .int)]=k1:=⟨_,rfl⟩
 rw [e] at D f;obtain ⟨k2,k⟩:∃ k2,k1++hdC hs=k2:=⟨_,rfl⟩
 rw [k] at D f;obtain ⟨k3,d⟩:∃ k3,k2++[Nd.lst ((plc k1.length hs).map fun p=>.loc p.1)]=k3:=⟨_,rfl⟩
 rw [d] at D;have w:Pf h k3:=by rw [<- d,<- k,<- e,append_assoc,append_assoc];exact Pf.app
 obtain ⟨a,g,I,C,l,t⟩:=yiM D u b H h1 E;have X:=t _ (w.fr _ A);obtain ⟨k5,s,o,B⟩:=ywp (i:=0) (ρ:=[.val _,.val _,.val (.loc q),.val (.loc r),.val (.loc g.H)]) (fun _=>rfl) R (by omega) rfl X;have j:=B.c.sub (List.sublist_append_right _ _);refine ⟨k5,?_,j⟩;have F:=(yxD (h:=k5) R.fl (by decide) (j.get 1 rfl)).2;have y:∀ v h,xIL (ye 1) [.val (.lst ((bxV c W).map .int)),.val _,.val (.loc q),.val (.loc r),v] h=some (hs.map fun ds=>.lst (dsV ds),h):=fun _ _=>ynT rfl
 have G:((hs.map fun ds=>PV.lst (dsV ds)).length<=100000)=True:=eq_true (by rw [length_map];omega);have m:ydB (ye 2) [4] agE [.val (.lst ((bxV c W).map .int)),.val (.lst (hs.map fun ds=>.lst (dsV ds))),.val (.loc q),.val (.loc r),.val (.loc g.H)] a=some (.lst ts,k5):=by
  unfold ydB;rw [show ye 2 _ a=some (.loc q,a) from rfl,ybE];simp only [X.c.mem (mem_append_right _ mem_cons_self)];have z:(nV is).length=is.length:=by unfold nV;rw [length_map]
  rw [if_pos (by omega),z,o];rfl
 rw [l] at *;unfold ybZ;rw [yo];show ob (yl _ _ [.val _,.val _,.val (.loc q),.val (.loc r),.no] h) fnK=_
 simpa [e,y,G,f,d,ynO,C,m,F]
end
noncomputable def heV (hl:List (Nat×List PV)):List PV:=hl.map fun p=>.tup [.loc p.1,.lst p.2]
structure LI (W n m:Nat) (Z:St) (S:Bool->St) (is:Bool->List Nat) (ts:Bool->List PV) (hl:List (Nat×List PV)):Prop where
 r:∀ b,Rn W 0 Z (is b) (ts b) (S b)
 l:∀ b,(is b).length<=n
 x:∀ b,(S b).xs.length=m
 f:∀ p∈hl,∀ x∈p.2,Fl 4 x
section
variable {h:AH}{W n m i:Nat}{Z:St}{g:Bool->HC}{S:Bool->St}{c:Cl}{is:Bool->List Nat}{ts:Bool->List PV}{hl:List (Nat×List PV)}{b:Bool}{v0 v1 v2 v4 v5 v6 v11 v12 v13 v14 v15 v16 v17:PVar}{M:Int}
theorem LI.turn (I:LI W n m Z S is ts hl) (w:SW W 0 Z) (h1:1<=W) (a:W<=4) (j:n<900) (f:i<m) b:∃ t S',TO W (0+(is b).length) (S b) i t S'/\LI W (n+1) m Z (ub S b S') (ub is b (is b++[i])) (ub ts b (ts b++[t])) hl:=by
 have l:=I.l b;obtain ⟨t,S',T⟩:=yAc ((I.r b).sw w) h1 a (by omega) (by rw [I.x];exact f);refine ⟨t,S',T,fun d=>?_,yxC (P:=fun _ (l:List Nat)=>l.length<=n+1) (fun d=>Nat.le_succ_of_le (I.l d)) (by rw [length_append];exact Nat.succ_le_succ l),yxC (P:=fun _ (s:St)=>s.xs.length=m) I.x (by rw [T.l,I.x]),I.f⟩
 by_cases e:d=b
 .subst e;rw [yFX,yFX,yFX];exact (I.r d).snoc T
 .simp only [ub,if_neg e];exact I.r d
def lwS (v0 v1 v2:PVar) (m:Nat) (v4 v5 v6:PVar) (g:Bool->HC) (c:Cl) (hl:List (Nat×List PV)) (v11 v12 v13 v14 v15 v16 v17:PVar):PSt:=[v0,v1,v2,.val (.int (m:Nat)),v4,v5,v6,.val (.lst [.loc (g false).H,.loc (g true).H]),.val (.loc c.T),.val (.loc c.U),.own (.lst (heV hl)),v11,v12,v13,v14,v15,v16,v17]
theorem yAq (T:T2 h W g S (ow c is ts hl)) (I:LI W n m Z S is ts hl) (w:SW W 0 Z) (h1:1<=W) (e:W<=4) (f:n<900) (j:1<=m) {k:Nat}(x:k<5):∃ h' S' a d,tnB (lwS v0 v1 v2 m v4 v5 v6 g c hl v11 (.val (.int M)) (.val (.int (bi b))) v14 (.val (.int k)) v16 v17) h=some (.nx (lwS v0 v1 v2 m v4 v5 v6 g c hl v11 (.val (.int M)) (.val (.int (bi b))) v14 (.val (.int k)) v16 v17),h')/\T2 h' W g S' (ow c a d hl)/\LI W (n+1) m Z S' a d hl/\S' (!b)=S !b:=by
 obtain ⟨i,ei,s⟩:=ywm j (M/(70+7*k));obtain ⟨t,S',O,v⟩:=I.turn w h1 e f s b;have l:=I.l b;obtain ⟨h',q,o⟩:=ymA T O (by omega) (by rw [(I.r b).len];omega);refine ⟨h',_,_,_,?_,o,v,yHD⟩;have p:((0:Int)<m)=True:=eq_true (by omega);have u:((0:Int)<70+7*k/\70+7*(k:Int)<1073741824)=True:=eq_true (by omega);have r:PX.MulOk 7 k=True:=eq_true (by left;decide);unfold tnB lwS
 simpa [p,u,r,ei,q]
theorem ytx (w:SW W 0 Z) (h1:1<=W) (f:W<=4) (t:1<=m):∀ l h n S is ts v15,T2 h W g S (ow c is ts hl)->LI W n m Z S is ts hl->n+l.length<=900->(∀ k∈l,k<5)->∃ h' S' d e a,yhN (yq 15) tnB (nV l) (lwS v0 v1 v2 m v4 v5 v6 g c hl v11 (.val (.int M)) (.val (.int (bi b))) v14 v15 v16 v17) h=some (.nx (lwS v0 v1 v2 m v4 v5 v6 g c hl v11 (.val (.int M)) (.val (.int (bi b))) v14 a v16 v17),h')/\T2 h' W g S' (ow c d e hl)/\LI W (n+l.length) m Z S' d e hl/\S' (!b)=S !b
 | [],h,n,S,is,ts,v15,T,I,_,_=>⟨h,S,is,ts,v15,rfl,T,I,rfl⟩
 | k::l,h,n,S,is,ts,v15,T,I,D,u=>by
  rw [length_cons] at D;obtain ⟨o,v,q,p,B,E,x,A⟩:=yAq T I w h1 f (by omega) t (u k mem_cons_self);obtain ⟨h2,C,s,j,a,y,r,G,F⟩:=ytx w h1 f t l o _ v q p _ E x (by omega) fun k z=>u k (mem_cons_of_mem _ z)
  refine ⟨h2,C,s,j,a,?_,r,by grind,F.trans A⟩;show yhN _ _ (PV.int _::nV l) _ h=_;rw [ykN rfl (B),y]
theorem yFY:ow c is ts (hl++[p])=ow c is ts hl++[(p.1,.lst p.2)]:=by unfold ow;simp
theorem yGW {b:Bool}:1-bi b=bi !b:=by cases b<;>rfl
theorem yHF (T:T2 h W g S (ow c is ts hl)) (I:LI W n m Z S is ts hl) (w:SW W 0 Z) (h1:1<=W) (f:W<=4) (j:n<900) (p:1<=m):∃ h' S' a d,lbD (lwS v0 v1 v2 m v4 v5 v6 g c hl v11 (.val (.int M)) (.val (.int (bi b))) v14 v15 v16 v17) h=some (.nx (lwS v0 v1 v2 m v4 v5 v6 g c hl v11 (.val (.int M)) (.val (.int (bi b))) v14 v15 v16 v17),h')/\T2 h' W g S' (ow c a d hl)/\LI W (n+1) m Z S' a d hl:=by
 by_cases e:M/300%3=0
 .obtain ⟨i,ei,o⟩:=ywm p (M/900);obtain ⟨t,S',O,u⟩:=I.turn w h1 f j o !b;have l:=I.l !b;obtain ⟨h',q,k⟩:=ymA T O (by omega) (by rw [(I.r _).len];omega);refine ⟨h',_,_,_,?_,k,u⟩;have s:((0:Int)<m)=True:=eq_true (by omega);unfold lbD lwS
  simpa [e,yGW,s,ei,q]
 .refine ⟨h,S,is,ts,?_,T,I.r,fun b=>Nat.le_succ_of_le (I.l b),I.x,I.f⟩;have r:=eq_false e;unfold lbD lwS
  simpa [r]
end
section
variable {h:AH}{W n m i:Nat}{Z:St}{g:Bool->HC}{S:Bool->St}{c:Cl}{is:Bool->List Nat}{ts:Bool->List PV}{hl:List (Nat×List PV)}{b:Bool}{v0 v1 v2 v4 v5 v6 v11 v12 v13 v14 v15 v16 v17:PVar}{z:Int}
theorem LI.mono (I:LI W n m Z S is ts hl) (e:n<=k):LI W k m Z S is ts hl:=⟨I.r,fun b=>Nat.le_trans (I.l b) e,I.x,I.f⟩
def lbA (q:Int):XE:=yT ydO (yb (xOp (ybd) (ye 7) (xOp yoG (xC (.int 1)) (ye 13))) (yb (ye 3) (yb (xOp oMod (xOp oDiv (ye 12) (xC (.int q))) (xC (.int 7))) (yh))))
def lbB:XS:=yl (ybu (xOp oMod (xOp ynA (ye 11) (xC (.int 16807))) (xC (.int 2147483587))) (yq 12)) (yl (ybu (xOp oMod (ye 12) (xC (.int 2))) (yq 13)) (yl (ybu (lbA 2) (yq 14)) (yl (yfW 10 (yfa (yb (ye 14) (yb (yT ycU (yb (ye 14) (yh))) (yh))))) (yl (yjd (yhz (yb (xOp yeG (xC (.int 1)) (xOp oMod (xOp oDiv (ye 12) (xC (.int 14))) (xC (.int 5)))) (yh))) (yq 15) tnB) (yl (yW (yT ycG (yb (xOp (ybd) (ye 7) (ye 13)) (yb (ye 3) (yh))))) (yl (yby (yv (xOp (ynL) (lbA 98) (ye 14))) (yQ (xC (.bl false))) (yN)) lbD))))))
theorem yxE (T:T2 h W g S (ow c is ts hl)) (I:LI W n m Z S is ts hl) (w:SW W 0 Z) (a:W<=4) (t:n<900) (j:m<=100) (s:0<q/\q<1000):lbA q (lwS v0 v1 v2 m v4 v5 v6 g c hl v11 (.val (.int M)) (.val (.int (bi b))) v14 v15 v16 v17) h=some (.loc h.length,h++[.lst (lkV (S !b))]):=by
 obtain ⟨o,eo,k⟩:∃ o:Nat,M/q%7=o/\o<7:=⟨(M/q%7).toNat,by omega,by omega⟩
 have l:=I.l !b;obtain ⟨r,d,X,_⟩:=T.at_ !b;have e:=yDB X ((I.r _).sw w) a (by omega) (by rw [I.x];exact j) k;rw [I.x] at e;have x3:=fun h=>ixb (h:=h) (b:=!b) (f:=fun b=>.loc (g b).H)
 have p:(0<q/\q<1073741824)=True:=eq_true (by omega);unfold lbA lwS
 simpa [yGW,x3,p,eo,e,-ygu]
noncomputable def lbM (z:Int):Int:=z*16807%2147483587
theorem yFZ (M:Int):∃ b:Bool,M%2=bi b:=⟨decide (M%2=1),by unfold bi;simp only [decide_eq_true_eq];split<;>omega⟩
theorem yGa (eM:lbM z=M):ybu (xOp oMod (xOp ynA (ye 11) (xC (.int 16807))) (xC (.int 2147483587))) (yq 12) (lwS v0 v1 v2 m v4 v5 v6 g c hl (.val (.int z)) v12 v13 v14 v15 v16 v17) h=some (.nx (lwS v0 v1 v2 m v4 v5 v6 g c hl (.val (.int z)) (.val (.int M)) v13 v14 v15 v16 v17),h):=by
 have mu:PX.MulOk z 16807=True:=eq_true (by right;decide);unfold lbM at eM;unfold lwS
 simpa [mu,eM]
theorem yGb (eb:M%2=bi b):ybu (xOp oMod (ye 12) (xC (.int 2))) (yq 13) (lwS v0 v1 v2 m v4 v5 v6 g c hl v11 (.val (.int M)) v13 v14 v15 v16 v17) h=some (.nx (lwS v0 v1 v2 m v4 v5 v6 g c hl v11 (.val (.int M)) (.val (.int (bi b))) v14 v15 v16 v17),h):=by
 unfold lwS
 simpa [eb]
theorem yGc (e:ycU [.loc q] h=some (.lst L,h)) (hh:hl.length<=1000):yfW 10 (yfa (yb (ye 14) (yb (yT ycU (yb (ye 14) (yh))) (yh)))) (lwS v0 v1 v2 m v4 v5 v6 g c hl v11 v12 v13 (.val (.loc q)) v15 v16 v17) h=some (.nx (lwS v0 v1 v2 m v4 v5 v6 g c (hl++[(q,L)]) v11 v12 v13 (.val (.loc q)) v15 v16 v17),h):=by
 rw [yma rfl];unfold lwS
 simpa [e]
 rw [if_pos (by unfold heV;rw [length_map];omega)];unfold heV;rw [map_append];rfl
theorem yGd {M:Int}{nn:Nat}(en:1+M/14%5=(nn:Nat)) (n5:nn<=5):yhz (yb (xOp yeG (xC (.int 1)) (xOp oMod (xOp oDiv (ye 12) (xC (.int 14))) (xC (.int 5)))) (yh)) (lwS v0 v1 v2 m v4 v5 v6 g c hl v11 (.val (.int M)) v13 v14 v15 v16 v17) h=some (nV (List.range nn),h):=by
 have:=ylZ (j:=(nn:Nat)) (h:=h) (h1:=h) (ρ:=lwS v0 v1 v2 m v4 v5 v6 g c hl v11 (.val (.int M)) v13 v14 v15 v16 v17) (a:=yb (xOp yeG (xC (.int 1)) (xOp oMod (xOp oDiv (ye 12) (xC (.int 14))) (xC (.int 5)))) (yh)) (by
  unfold lwS
  simpa [en]) (by omega) (by omega)
 rw [this,Int.toNat_natCast,yoh];rfl
theorem yGe (q:ycG [.loc (g b).H,.int (m:Nat)] h=some (.non,h')):yW (yT ycG (yb (xOp (ybd) (ye 7) (ye 13)) (yb (ye 3) (yh)))) (lwS v0 v1 v2 m v4 v5 v6 g c hl v11 v12 (.val (.int (bi b))) v14 v15 v16 v17) h=some (.nx (lwS v0 v1 v2 m v4 v5 v6 g c hl v11 v12 (.val (.int (bi b))) v14 v15 v16 v17),h'):=by
 have x3:=fun h=>ixb (h:=h) (b:=b) (f:=fun b=>.loc (g b).H)
 unfold lwS
 simpa [x3,q,-ygu]
theorem yGf (q5:e ρ h=some (p,h')) (v:ye 14 ρ h'=some (q,h')) (q6:ynL p q h'=some (.bl false,h')):yby (yv (xOp (ynL) e (ye 14))) (yQ (xC (.bl false))) (yN) ρ h=some (.nx ρ,h'):=by simpa [q5,v,q6]
theorem yAr (T:T2 h W g S (ow c is ts hl)) (I:LI W n m Z S is ts hl) (w:SW W 0 Z) (h1:1<=W) (h16:W<=4) (hn:n<=800) (hm:1<=m) (hm':m<=100) (hh:hl.length<=1000):∃ h' S' is' ts' hl' v12' v13' v14' v15',lbB (lwS v0 v1 v2 m v4 v5 v6 g c hl (.val (.int z)) v12 v13 v14 v15 v16 v17) h=some (.nx (lwS v0 v1 v2 m v4 v5 v6 g c hl' (.val (.int z)) v12' v13' v14' v15' v16 v17),h')/\T2 h' W g S' (ow c is' ts' hl')/\LI W (n+6) m Z S' is' ts' hl'/\hl'.length=hl.length+1:=by
 obtain ⟨M,eM⟩:∃ M,lbM z=M:=⟨_,rfl⟩
 obtain ⟨b,eb⟩:=yFZ M;have lb:=I.l (!b);have wb:=(I.r (!b)).sw w;have q1:=fun {v14 v15}=>yxE (v0:=v0) (v1:=v1) (v2:=v2) (v4:=v4) (v5:=v5) (v6:=v6) (v11:=.val (.int z)) (v14:=v14) (v15:=v15) (v16:=v16) (v17:=v17) (M:=M) (q:=2) (b:=b) T I w h16 (by omega) hm' (by omega)
 obtain ⟨k1,e1⟩:∃ k1,h++[Nd.lst (lkV (S (!b)))]=k1:=⟨_,rfl⟩
 have ge:k1[h.length]?=some (.lst (lkV (S (!b)))):=by rw [<- e1];exact ygk
 have q2:=yAi wb (by omega) (by rw [I.x];exact hm') ge;have T1:T2 k1 W g S (ow c is ts (hl++[(h.length,lkV (S (!b)))])):=by rw [yFY,<- e1];exact T2.new (m2:=[]) (by rw [append_nil];exact T)
 rw [e1] at q1;have I1:LI W n m Z S is ts (hl++[(h.length,lkV (S (!b)))]):=⟨I.r,I.l,I.x,fun p hp=>by
  rcases List.mem_append.mp hp with hp|hp
  .exact I.f p hp
  .rw [List.mem_singleton.mp hp];exact wb.fl h16⟩
 obtain ⟨hl1,ehl⟩:∃ hl1,hl++[(h.length,lkV (S (!b)))]=hl1:=⟨_,rfl⟩
 have hmem:(h.length,Nd.lst (lkV (S (!b))))∈hl1.map fun p=>(p.1,Nd.lst p.2):=by rw [<- ehl];simp
 have ln:hl1.length=hl.length+1:=by rw [<- ehl];simp
 rw [ehl] at T1 I1;obtain ⟨nn,en,n5⟩:∃ nn:Nat,1+M/14%5=(nn:Nat)/\nn<=5:=⟨(1+M/14%5).toNat,by omega,by omega⟩
 obtain ⟨k2,S2,is2,ts2,v15',q3,T2',I2,eS⟩:=ytx (v0:=v0) (v1:=v1) (v2:=v2) (v4:=v4) (v5:=v5) (v6:=v6) (v11:=.val (.int z)) (v14:=.val (.loc h.length)) (v16:=v16) (v17:=v17) (M:=M) (b:=b) w h1 h16 hm (List.range nn) k1 n S is ts v15 T1 I1 (by rw [List.length_range];omega) fun k hk=>by have:=List.mem_range.mp hk;omega
 rw [List.length_range] at I2;obtain ⟨as,ow',X,_⟩:=T2'.at_ b;have l2:=I2.l b;obtain ⟨k3,q4,p4⟩:=ywo X ((I2.r b).sw w) h1 h16 (by omega) (by rw [I2.x];exact hm');rw [I2.x] at q4;have T3:=T2'.fr p4.fr;have q5:=yxE (v0:=v0) (v1:=v1) (v2:=v2) (v4:=v4) (v5:=v5) (v6:=v6) (v11:=.val (.int z)) (v14:=.val (.loc h.length)) (v15:=v15') (v16:=v16) (v17:=v17) (M:=M) (q:=98) (b:=b) T3 I2 w h16 (by omega) hm' (by omega);have T4:=T3.fr (Pf.app (l:=[.lst (lkV (S2 (!b)))])).fr;have ge':(k3++[Nd.lst (lkV (S2 (!b)))])[k3.length]?=some (.lst (lkV (S (!b)))):=by rw [<- eS];exact ygk
 obtain ⟨k4,e4⟩:∃ k4,k3++[Nd.lst (lkV (S2 (!b)))]=k4:=⟨_,rfl⟩
 rw [e4] at q5 T4 ge';have q6:=yDH (wb.fl h16) (by decide) ge' (T4.o.mem (by unfold ow;exact .tail _ (.tail _ (.tail _ (.tail _ (.tail _ (.tail _ hmem)))))));obtain ⟨k5,S5,is5,ts5,q7,T5,I5⟩:=yHF (v0:=v0) (v1:=v1) (v2:=v2) (v4:=v4) (v5:=v5) (v6:=v6) (v11:=.val (.int z)) (v14:=.val (.loc h.length)) (v15:=v15') (v16:=v16) (v17:=v17) (M:=M) (b:=b) T4 I2 w h1 h16 (by omega) hm;refine ⟨k5,S5,is5,ts5,hl1,.val (.int M),.val (.int (bi b)),.val (.loc h.length),v15',?_,T5,I5.mono (by omega),ln⟩;have s3:ybu (lbA 2) (yq 14) (lwS v0 v1 v2 m v4 v5 v6 g c hl (.val (.int z)) (.val (.int M)) (.val (.int (bi b))) v14 v15 v16 v17) h=some (.nx (lwS v0 v1 v2 m v4 v5 v6 g c hl (.val (.int z)) (.val (.int M)) (.val (.int (bi b))) (.val (.loc h.length)) v15 v16 v17),k1):=by rw [ypS,q1,ybE];rfl
 have s4:=yGc (v0:=v0) (v1:=v1) (v2:=v2) (m:=m) (v4:=v4) (v5:=v5) (v6:=v6) (g:=g) (c:=c) (v11:=.val (.int z)) (v12:=.val (.int M)) (v13:=.val (.int (bi b))) (v15:=v15) (v16:=v16) (v17:=v17) q2 hh;rw [ehl] at s4;unfold lbB;rw [yeb,yGa eM,ybE,yfD,yeb,yGb eb,ybE,yfD,yeb,s3,ybE,yfD,yeb,s4,ybE,yfD,yeb,ypT,yGd en n5,ybE,q3,ybE,yfD,yeb,yGe q4,ybE,yfD,yeb,yGf q5 rfl q6,ybE,yfD,q7]
theorem yty (w:SW W 0 Z) (h1:1<=W) (o:W<=4) (M:1<=m) (k:m<=100):∀ (l:List Int) h n S is ts hl v11 v12 v13 v14 v15,T2 h W g S (ow c is ts hl)->LI W n m Z S is ts hl->n+6*l.length<=800->hl.length+l.length<=1000->∃ h' S' p j a s f e q d,yhN (yq 11) lbB (l.map .int) (lwS v0 v1 v2 m v4 v5 v6 g c hl v11 v12 v13 v14 v15 v16 v17) h=some (.nx (lwS v0 v1 v2 m v4 v5 v6 g c a s f e q d v16 v17),h')/\T2 h' W g S' (ow c p j a)/\LI W 800 m Z S' p j a/\a.length<=1000
 | [],h,n,S,is,ts,hl,v11,v12,v13,v14,v15,T,I,L,N=>⟨h,S,is,ts,hl,v11,v12,v13,v14,v15,rfl,T,I.mono (by omega),by omega⟩
 | z::l,h,n,S,is,ts,hl,v11,v12,v13,v14,v15,T,I,L,N=>by rw [length_cons] at L N;obtain ⟨h2,S2,F,E,u,G,A,v,K,X,P,U,e1⟩:=yAr T I w h1 o (by omega) M k (by omega);obtain ⟨O,Y,B,y,H,x,C,t,D,J,R,r⟩:=yty w h1 o M k l h2 _ S2 F E u _ G A v K P U (by omega) (by omega);refine ⟨O,Y,B,y,H,x,C,t,D,J,?_,r⟩;rw [map_cons,ykN rfl (X),R]
end
section
variable {h:AH}{W n m i:Nat}{Z:St}{g:Bool->HC}{S:Bool->St}{c:Cl}{is:Bool->List Nat}{ts:Bool->List PV}{hl:List (Nat×List PV)}{ρ:PSt}
def he2:XG:=yBw 2 (ypP (yq 16) (ypP (yq 17) (yDQ)))
theorem yAs {p:Nat×List PV}(e:h[p.1]?=some (.lst p.2)) (F:∀ x∈p.2,Fl 4 x):heB [v0,v1,v2,v3,v4,v5,v6,v7,v8,v9,v10,v11,v12,v13,v14,v15,.val (.loc p.1),.val (.lst p.2)] h=some (.nx [v0,v1,v2,v3,v4,v5,v6,v7,v8,v9,v10,v11,v12,v13,v14,v15,.val (.loc p.1),.val (.lst p.2)],h):=by
 have q:=(yxD F (by decide) e).1;unfold heB
 simpa [q]
theorem ytz:∀ l v16 v17,(∀ p∈l,h[p.1]?=some (.lst p.2)/\∀ x∈p.2,Fl 4 x)->∃ b a,yhN he2 heB (heV l) [v0,v1,v2,v3,v4,v5,v6,v7,v8,v9,v10,v11,v12,v13,v14,v15,v16,v17] h=some (.nx [v0,v1,v2,v3,v4,v5,v6,v7,v8,v9,v10,v11,v12,v13,v14,v15,b,a],h)
 | [],v16,v17,_=>⟨v16,v17,rfl⟩
 | p::l,v16,v17,H=>by
  obtain ⟨e,F⟩:=H p mem_cons_self;obtain ⟨d,f,q⟩:=ytz l _ _ fun p hp=>H p (mem_cons_of_mem _ hp)
  refine ⟨d,f,?_⟩;show yhN he2 heB (.tup _::heV l) _ h=_;rw [ykN (rfl) (yAs e F),q]
theorem ytA (T:T2 h W g S (ow c is ts hl)) (I:LI W n m (S00 c0 W hs) S is ts hl) (o:n<=800) (d:1<=W) (a:W<=4) (H:∀ ds∈hs,ds.length<=6/\∀ x∈ds,yqm x) (h1:1<=hs.length) (e:hs.length<=8):∃ h1 h2,ybZ [.lst ((bxV c0 W).map .int),.lst (hs.map fun ds=>.lst (dsV ds)),.loc (c.t false),.loc (c.u false)] h=some (.bl true,h1)/\ybZ [.lst ((bxV c0 W).map .int),.lst (hs.map fun ds=>.lst (dsV ds)),.loc (c.t true),.loc (c.u true)] h1=some (.bl true,h2)/\h1[c.T]?=some (.lst [.loc (c.t false),.loc (c.t true)])/\h1[c.U]?=some (.lst [.loc (c.u false),.loc (c.u true)]):=by
 have l0:=I.l false;have k:=I.l true;have A:At h ((c.t false,.lst (nV (is false)))::(c.u false,.lst (ts false))::[(c.t true,.lst (nV (is true))),(c.u true,.lst (ts true)),(c.T,.lst [.loc (c.t false),.loc (c.t true)]),(c.U,.lst [.loc (c.u false),.loc (c.u true)])]):=by
  have A:=T.o.sub (by exact List.Sublist.append_left (List.nil_sublist _) [_,_,_,_,_,_])
  refine A.perm ?_;refine (List.perm_append_comm (l₁:=[_,_,_,_])).trans ?_;exact .cons _ (.cons _ (.cons _ (.swap _ _ _)))
 obtain ⟨k1,j,b⟩:=ypz (I.r false) d a H h1 e (by omega) A;obtain ⟨k2,f,l⟩:=ypz (I.r true) d a H h1 e (by omega) (b.sub (.cons _ (.cons _ (.cons₂ _ (.cons₂ _ (List.nil_sublist _))))));exact ⟨k1,k2,j,f,b.get 4 rfl,b.get 5 rfl⟩
end
section
variable {h:AH}{c:Int}{W nb n b q:Nat}{hs:List (List (List Pce))}
theorem yDI:∀ {hs:List _}{b:Nat},(∀ p∈plc b hs,h[p.1]?=some (.lst (p.2.map txV)))->ygU (eqP (k+2) h) ((plc b hs).map fun p=>.loc p.1) (hs.map fun ds=>.lst (dsV ds))=some true
 | [],_,_=>rfl
 | ds::l,b,H=>by refine ymw ?_ (yDI fun p hp=>H p (mem_cons_of_mem _ hp));have e:=H _ mem_cons_self;show pairE _ h (.loc b) _=_;rw [yAo] at e;unfold pairE ybr;simp only [e,if_true];exact ymz fun x a=>by obtain ⟨ps,_,rfl⟩:=List.mem_map.mp a;exact yzM
theorem yGX:eqP (k+1) h (.loc n) (.lst ys)=pairE (eqP k h) h (.loc n) (.lst ys):=rfl
theorem yGg (D:Hd h c W hs nb n b) (e:h[q]?=some (.lst [.loc nb,.loc n])):ynL (.loc q) (.lst [.lst ((bxV c W).map .int),.lst (hs.map fun ds=>.lst (dsV ds))]) h=some (.bl false,h):=by
 have d:eqP 40 h (.loc nb) (.lst ((bxV c W).map .int))=some true:=by refine (yGX).trans ?_;unfold pairE ybr;simp only [D.o,if_true,ypq]
 have a:eqP 40 h (.loc n) (.lst (hs.map fun ds=>.lst (dsV ds)))=some true:=by refine (yGX).trans ?_;unfold pairE ybr;simp only [D.l];rw [if_pos (by rw [length_map,length_map,ykW])];exact yDI D.e
 have:pairE (eqP 40 h) h (.loc q) (.lst [.lst ((bxV c W).map .int),.lst (hs.map fun ds=>.lst (dsV ds))])=some true:=by unfold pairE ybr;simp only [e];exact ymw d (ymw a rfl)
 unfold ynL;rw [this];rfl
theorem ywq (D:Hd h c W hs nb n b) (A:At h own) (k:1<=W) (a:W<=4) (H:∀ ds∈hs,ds.length<=6/\∀ x∈ds,yqm x) (h1:1<=hs.length) (j:hs.length<=8):∃ k1 k2 g,yZ [.loc h.length,.loc nb,.loc n] (h++[Nd.ins 15 [] []])=some (.non,k1)/\yZ [.loc k1.length,.loc nb,.loc n] (k1++[Nd.ins 15 [] []])=some (.non,k2)/\(g false).H=h.length/\(g true).H=k1.length/\T2 k2 W g (fun _=>S00 c W hs) own/\Hd k2 c W hs nb n b/\∀ x:Nat,h[x]?=some (Nd.lst [.loc nb,.loc n])->k1[x]?=some (Nd.lst [.loc nb,.loc n]):=by
 obtain ⟨k1,t,as1,r,p,d⟩:=yiM D k a H h1 j;have i:Fr h k1:=fun m A=>(d m A).c.sub (List.sublist_append_right _ _)
 obtain ⟨k2,u,as2,l,o,f⟩:=yiM (D.fr i) k a H h1 j;have s:=fun m A=>(f m A).c.sub (List.sublist_append_right _ _)
 refine ⟨k1,k2,fun b=>if b then u else t,r,l,p,o,⟨fun b=>if b then as2 else as1,?_,fun b=>?_⟩,(D.fr i).fr s,fun x e=>i.get e⟩
 .exact (f _ (d _ A).c).c.perm (List.perm_append_comm_assoc _ _ _)
 .cases b
  .exact (d _ A).ly
  .exact (f _ (d _ A).c).ly
end
def lqT:XS:=yl (yjd (xIL (xFz (ypL ymS (xFz (yqt ytI (ye 0) (yfV) (yfU (xC (.int 66))))) (xFz (ycl (yb (xC (.int 4)) (yb (xC (.int 9)) (yb (xC (.int 25)) (yh))))))))) (yq 11) lbB) (ytF 10 (yl (yjd (xIL (ye 10)) he2 heB) (yQ (yjh (yT ybZ (yb (ye 2) (yb (ye 5) (yb (xOp (ybd) (ye 8) (xC (.int 0))) (yb (xOp (ybd) (ye 9) (xC (.int 0))) (yh)))))) (yT ybZ (yb (ye 2) (yb (ye 5) (yb (xOp (ybd) (ye 8) (xC (.int 1))) (yb (xOp (ybd) (ye 9) (xC (.int 1))) (yh))))))))))
section
variable {h:AH}{ns:List Int}{c0:Int}{W m:Nat}{hs:List (List (List Pce))}{g:Bool->HC}{c:Cl}{v1 v4 v6:PVar}
theorem ywr (T:T2 h W g (fun _=>S00 c0 W hs) (ow c (fun _=>[]) (fun _=>[]) [])) (hl:ns.length<=63) (s:1<=W) (d:W<=4) (H:∀ ds∈hs,ds.length<=6/\∀ x∈ds,yqm x) (A:hs.length=m) (h1:1<=m) (B:m<=8):∃ h',ob (lqT (lwS (.val (.scr ns)) v1 (.val (.lst ((bxV c0 W).map .int))) m v4 (.val (.lst (hs.map fun ds=>.lst (dsV ds)))) v6 g c [] .no .no .no .no .no .no .no) h) fnK=some (.bl true,h'):=by
 have I:LI W 0 m (S00 c0 W hs) (fun _=>S00 c0 W hs) (fun _=>[]) (fun _=>[]) []:=⟨fun _=>.nil,fun _=>Nat.le_refl _,fun _=>by show ((hs.map rwP).map hd0).length=m;rw [length_map,length_map,A],fun _ z=>by cases z⟩
 obtain ⟨k1,C,v,y,a,v11,v12,v13,v14,v15,k,b,e,D⟩:=yty (v0:=.val (.scr ns)) (v1:=v1) (v2:=.val (.lst ((bxV c0 W).map .int))) (v4:=v4) (v5:=.val (.lst (hs.map fun ds=>.lst (dsV ds)))) (v6:=v6) (v16:=.no) (v17:=.no) (sw0 H) s d h1 (by omega) (ns.take 66++[4,9,25]) h 0 _ _ _ [] .no .no .no .no .no T I (by rw [length_append,length_take];show 0+6*(_+3)<=_;omega) (by rw [length_append,length_take];show 0+(_+3)<=_;omega);obtain ⟨v16,v17,r⟩:=ytz (h:=k1) (v0:=.val (.scr ns)) (v1:=v1) (v2:=.val (.lst ((bxV c0 W).map .int))) (v3:=.val (.int (m:Nat))) (v4:=v4) (v5:=.val (.lst (hs.map fun ds=>.lst (dsV ds)))) (v6:=v6) (v7:=.val (.lst [.loc (g false).H,.loc (g true).H])) (v8:=.val (.loc c.T)) (v9:=.val (.loc c.U)) (v10:=.val (.lst (heV a))) (v11:=v11) (v12:=v12) (v13:=v13) (v14:=v14) (v15:=v15) a .no .no fun p hp=>⟨b.o.mem (by unfold ow;exact .tail _ (.tail _ (.tail _ (.tail _ (.tail _ (.tail _ (List.mem_map.mpr ⟨p,hp,rfl⟩))))))),e.f p hp⟩
 obtain ⟨k2,k3,n,o,f,j⟩:=ytA b e (Nat.le_refl _) s d H (by omega) (by omega);have d1:=b.o.get 0 rfl;have d2:=b.o.get 1 rfl;have x1:ybd (.loc c.T) (.int 0) k1=_:=yda (i:=0) d1 rfl;have x2:ybd (.loc c.U) (.int 0) k1=_:=yda (i:=0) d2 rfl;have x3:ybd (.loc c.T) (.int 1) k2=_:=yda (i:=1) f rfl;have x4:ybd (.loc c.U) (.int 1) k2=_:=yda (i:=1) j rfl;have l:ytI (.scr ns) none (some 66)=fun h=>some (.lst ((ns.take 66).map .int),h):=by funext h;show some (Nd.lst (yqv (ns.map PV.int) _ _),h)=_;rw [ypy,show (66:Int)=((66:Nat):Int) from rfl,yDE]
 have t:∀ h,ymS (.lst ((ns.take 66).map .int)) (.lst [.int 4,.int 9,.int 25]) h=some (.lst ((ns.take 66++[4,9,25]).map .int),h):=fun h=>by rw [yrH,if_pos (by rw [length_map,length_take];show _+3<=_;omega),map_append];rfl
 have u:xIL (xFz (ypL ymS (xFz (yqt ytI (ye 0) (yfV) (yfU (xC (.int 66))))) (xFz (ycl (yb (xC (.int 4)) (yb (xC (.int 9)) (yb (xC (.int 25)) (yh)))))))) (lwS (.val (.scr ns)) v1 (.val (.lst ((bxV c0 W).map .int))) m v4 (.val (.lst (hs.map fun ds=>.lst (dsV ds)))) v6 g c [] .no .no .no .no .no .no .no) h=some ((ns.take 66++[4,9,25]).map .int,h):=yCe (by
  clear T b I e k r n o H f j d1 d2;unfold lwS
  simpa [l,t,-yrH,-yBZ])
 have q:yjd (xIL (xFz (ypL ymS (xFz (yqt ytI (ye 0) (yfV) (yfU (xC (.int 66))))) (xFz (ycl (yb (xC (.int 4)) (yb (xC (.int 9)) (yb (xC (.int 25)) (yh))))))))) (yq 11) lbB (lwS (.val (.scr ns)) v1 (.val (.lst ((bxV c0 W).map .int))) m v4 (.val (.lst (hs.map fun ds=>.lst (dsV ds)))) v6 g c [] .no .no .no .no .no .no .no) h=some (.nx (lwS (.val (.scr ns)) v1 (.val (.lst ((bxV c0 W).map .int))) m v4 (.val (.lst (hs.map fun ds=>.lst (dsV ds)))) v6 g c a v11 v12 v13 v14 v15 .no .no),k1):=by rw [ypT,u,ybE,k]
 refine ⟨k3,?_⟩;unfold lqT;rw [yeb,q,ybE,yfD];clear T b I e k H f j d1 d2 q u l t;unfold lwS;have w:∀ h,xIL (ye 10) [.val (.scr ns),v1,.val (.lst ((bxV c0 W).map .int)),.val (.int (m:Nat)),v4,.val (.lst (hs.map fun ds=>.lst (dsV ds))),v6,.val (.lst [.loc (g false).H,.loc (g true).H]),.val (.loc c.T),.val (.loc c.U),.val (.lst (heV a)),v11,v12,v13,v14,v15,.no,.no] h=some (heV a,h):=fun _=>ynT rfl
 simpa [w,r,x1,x2,n,x3,x4,o,-ygu]
end
def lqM:XS:=yl (ybu (ydl (ycl (yb (ydl (yea (yI) (yb (ye 2) (yh)))) (yb (ydl (yet (xIL (ye 5)) [] (ydl (yea (yI) (yb (ye 0) (yh)))))) (yh))))) (yq 6)) (yl (ybu (xFz (ycl (yb (yfe 15 yZ (yb (xOp (ybd) (ye 6) (xC (.int 0))) (yb (xOp (ybd) (ye 6) (xC (.int 1))) (yh)))) (yb (yfe 15 yZ (yb (xOp (ybd) (ye 6) (xC (.int 0))) (yb (xOp (ybd) (ye 6) (xC (.int 1))) (yh)))) (yh))))) (yq 7)) (yl (yby (yv (xOp (ynL) (ye 6) (xFz (ycl (yb (ye 2) (yb (ye 5) (yh))))))) (yQ (xC (.bl false))) (yN)) (yl (yec (xOp (ybd) (ye 6) (xC (.int 0))) (xC (.int 0)) (xC (.int 5))) (yl (yW (xBM ydz (ydR) (xOp (ybd) (xOp (ybd) (ye 6) (xC (.int 1))) (xC (.int 0))) (yb (xC (.str "let a 1")) (yh)))) (yl (ybu (ydl (ycl (yb (ydl (ycl (yh))) (yb (ydl (ycl (yh))) (yh))))) (yq 8)) (yl (ybu (ydl (ycl (yb (ydl (ycl (yh))) (yb (ydl (ycl (yh))) (yh))))) (yq 9)) (yl (yid (ycl (yh)) 10) lqT)))))))
section
variable {h:AH}{ns:List Int}{c0:Int}{W m:Nat}{hs:List (List (List Pce))}{v1 v4:PVar}
theorem yAt (hl:ns.length<=63) (Z:1<=W) (B:W<=4) (H:∀ ds∈hs,ds.length<=6/\∀ x∈ds,yqm x) (hm:hs.length=m) (h1:1<=m) (h8:m<=8):∃ h',ob (lqM [.val (.scr ns),v1,.val (.lst ((bxV c0 W).map .int)),.val (.int (m:Nat)),v4,.val (.lst (hs.map fun ds=>.lst (dsV ds))),.no,.no,.no,.no,.no,.no,.no,.no,.no,.no,.no,.no] h) fnK=some (.bl true,h'):=by
 have D:=yDG (h:=h) (c:=c0) (W:=W) (hs:=hs) (by omega);have K:=fun ρ=>ytw (ρ:=ρ) hs (h++[.lst ((bxV c0 W).map .int)])
 obtain ⟨k1,S⟩:∃ k1,h++[Nd.lst ((bxV c0 W).map .int)]=k1:=⟨_,rfl⟩
 rw [S] at D K;obtain ⟨k2,e2⟩:∃ k2,k1++hdC hs=k2:=⟨_,rfl⟩
 rw [e2] at D K;obtain ⟨k3,X⟩:∃ k3,k2++[Nd.lst ((plc k1.length hs).map fun p=>.loc p.1)]=k3:=⟨_,rfl⟩
 rw [X] at D;obtain ⟨l,O⟩:∃ l,k3++[Nd.lst [.loc h.length,.loc k2.length]]=l:=⟨_,rfl⟩
 have t:Hd l c0 W hs h.length k2.length k1.length:=by rw [<- O];exact D.fr Pf.app.fr
 have A:l[k3.length]?=some (.lst [.loc h.length,.loc k2.length]):=by rw [<- O];exact ygk
 have l1:k1.length=h.length+1:=by rw [<- S];simp
 have l2:k2.length=k1.length+hs.length:=by rw [<- e2];simp [hdC]
 have l3:k3.length=k2.length+1:=by rw [<- X];simp
 obtain ⟨ds,rest,j⟩:∃ ds rest,hs=ds::rest:=by
  cases hs with
  | nil=>exact absurd hm (by show ¬ 0=m;omega)
  | cons a b=>exact ⟨a,b,rfl⟩
 have f4:=t.e (k1.length,rwP ds) (by rw [j];exact mem_cons_self);have R:At l [(k3.length,.lst [.loc h.length,.loc k2.length]),(h.length,.lst ((bxV c0 W).map .int)),(k1.length,.lst ((rwP ds).map txV)),(k2.length,.lst ((plc k1.length hs).map fun p=>.loc p.1))]:=⟨by simp;omega,fun p hp=>by
  simp only [mem_cons,not_mem_nil,or_false] at hp;rcases hp with rfl|rfl|rfl|rfl
  .exact A
  .exact t.o
  .exact f4
  .exact t.l⟩
 obtain ⟨k5,z,g,q1,q2,U,N,T,P,w⟩:=ywq t R Z B H (by omega) (by omega);replace w:=w _ A;have Y:=T.o.get 0 rfl;have ne:=yGg P Y;obtain ⟨b1,_⟩:=yAm (c:=c0) (W:=W);have x0:ybd (.loc k3.length) (.int 0) l=_:=yda (i:=0) A rfl;have x1:ybd (.loc k3.length) (.int 1) l=_:=yda (i:=1) A rfl;have y0:ybd (.loc k3.length) (.int 0) k5=_:=yda (i:=0) w rfl;have y1:ybd (.loc k3.length) (.int 1) k5=_:=yda (i:=1) w rfl;have z0:ybd (.loc k3.length) (.int 0) z=_:=yda (i:=0) Y rfl;have F:=fun ρ (e:xOp (ybd) (ye 6) (xC (.int 0)) ρ z=some (.loc h.length,z))=>ykV (ei:=xC (.int 0)) (ev:=xC (.int 5)) (ρ:=ρ) (k:=0) rfl e rfl (T.o.get 1 rfl) (by rw [length_map];omega)
 have f:=T.set (m1:=[_]) (d':=.lst (((bxV c0 W).map PV.int).set 0 (.int 5)));obtain ⟨v,e7⟩:∃ v,z.set h.length (.lst (((bxV c0 W).map PV.int).set 0 (.int 5)))=v:=⟨_,rfl⟩
 rw [e7] at f F;have u1:ybd (.loc k3.length) (.int 1) v=_:=yda (i:=1) (f.o.get 0 rfl) rfl;have u0:ybd (.loc k2.length) (.int 0) v=_:=yda (i:=0) (x:=.loc k1.length) (f.o.get 3 rfl) (by rw [j];rfl);have dl:((rwP ds).map txV).length<100000:=by rw [yAo];unfold dsV;rw [length_map];have:=(H ds (by rw [j];exact mem_cons_self)).1;omega
 have a8:=yeH (y:=.str "let a 1") (f.o.get 2 rfl) dl;have i8:=ycc (f.o.get 2 rfl);have u:=f.set (m1:=[_,_]) (d':=.lst ((rwP ds).map txV++[.str "let a 1"]));obtain ⟨n,e8⟩:∃ n,v.set k1.length (.lst ((rwP ds).map txV++[.str "let a 1"]))=n:=⟨_,rfl⟩
 rw [e8] at u a8;have u:=u.sub (List.nil_sublist _);have M:=T2.new (m1:=[]) (m2:=[]) (d:=.lst []) u;obtain ⟨r,d1⟩:∃ r,n++[Nd.lst []]=r:=⟨_,rfl⟩
 rw [d1] at M;have P2:=T2.new (m1:=[_]) (m2:=[]) (d:=.lst []) M;obtain ⟨C,d2⟩:∃ C,r++[Nd.lst []]=C:=⟨_,rfl⟩
 rw [d2] at P2;have E:=T2.new (m1:=[]) (m2:=[_,_]) (d:=.lst [.loc n.length,.loc r.length]) P2;obtain ⟨s,d3⟩:∃ s,C++[Nd.lst [.loc n.length,.loc r.length]]=s:=⟨_,rfl⟩
 rw [d3] at E;have I:=T2.new (m1:=[_,_,_]) (m2:=[]) (d:=.lst []) E;obtain ⟨o,d4⟩:∃ o,s++[Nd.lst []]=o:=⟨_,rfl⟩
 rw [d4] at I;have L:=T2.new (m1:=[_,_,_,_]) (m2:=[]) (d:=.lst []) I;obtain ⟨J,d5⟩:∃ J,o++[Nd.lst []]=J:=⟨_,rfl⟩
 rw [d5] at L;have G:=T2.new (m1:=[_]) (m2:=[_,_,_,_]) (d:=.lst [.loc s.length,.loc o.length]) L;obtain ⟨j6,d6⟩:∃ j6,J++[Nd.lst [.loc s.length,.loc o.length]]=j6:=⟨_,rfl⟩
 rw [d6] at G;obtain ⟨h',q⟩:=ywr (ns:=ns) (c:=⟨fun b=>if b then r.length else n.length,fun b=>if b then o.length else s.length,C.length,J.length⟩) (v1:=v1) (v4:=v4) (v6:=.val (.loc k3.length)) G hl Z B H hm h1 h8;refine ⟨h',.trans ?_ q⟩;have i1:∀ h,xIL (ye 5) [.val (.scr ns),v1,.val (.lst ((bxV c0 W).map .int)),.val (.int (m:Nat)),v4,.val (.lst (hs.map fun ds=>.lst (dsV ds))),.no,.no,.no,.no,.no,.no,.no,.no,.no,.no,.no,.no] h=some (hs.map fun ds=>.lst (dsV ds),h):=fun _=>ynT rfl
 have c1:((hs.map fun ds=>PV.lst (dsV ds)).length<=100000)=True:=eq_true (by rw [length_map];omega);have S9:∀ v7,yec (xOp (ybd) (ye 6) (xC (.int 0))) (xC (.int 0)) (xC (.int 5)) [.val (.scr ns),v1,.val (.lst ((bxV c0 W).map .int)),.val (.int (m:Nat)),v4,.val (.lst (hs.map fun ds=>.lst (dsV ds))),.val (.loc k3.length),v7,.no,.no,.no,.no,.no,.no,.no,.no,.no,.no] z=_:=fun v7=>F _ (by
  clear F D t P T f u M P2 E I L G q q1 q2 H K R
  simpa [z0,-ygu])
 clear F D t P T f u M P2 E I L G q H R z0 A w Y f4 l1 l2 l3;unfold lqM lwS;rw [U,N]
 simpa [S,i1,c1,K,X,O,x0,x1,ynO,q1,y0,y1,q2,ne,S9,u1,u0,i8,a8,d1,d2,d3,d4,d5,d6,-ygu]
 rfl
end
section
variable {h:AH}
theorem yDJ (ns:List Int) (hl:ns.length<=63):∃ h',yvx [.scr ns] h=some (.bl true,h'):=by
 have c0:∀ h,ybl [.scr ns,.int 0] h=some (.int (ns.getD 0 0),h):=fun _=>yhe 0
 have t:∀ h,ybl [.scr ns,.int 1] h=some (.int (ns.getD 1 0),h):=fun _=>yhe 1
 obtain ⟨W,s,l,u⟩:∃ W:Nat,1+ns.getD 0 0%4=(W:Nat)/\1<=W/\W<=4:=⟨(1+ns.getD 0 0%4).toNat,by omega,by omega,by omega⟩
 obtain ⟨m,p,m2,v⟩:∃ m:Nat,2+ns.getD 1 0/3%2=(m:Nat)/\2<=m/\m<=4:=⟨(2+ns.getD 1 0/3%2).toNat,by omega,by omega,by omega⟩
 obtain ⟨cs,d⟩:∃ cs,yqv ns (some 2) (some 22)=cs:=⟨_,rfl⟩
 have g:cs.length<=60:=by rw [<- d];unfold yqv;rw [show (2:Int)=((2:Nat):Int) from rfl,show (22:Int)=((22:Nat):Int) from rfl,HT.sIx_nat,HT.sIx_nat,length_take];omega
 have sl:ytI (.scr ns) (some 2) (some 22)=fun h=>some (.lst (cs.map .int),h):=by funext h;show some (Nd.lst (yqv (ns.map PV.int) _ _),h)=_;rw [ypy,d]
 obtain ⟨hs,e,b,c⟩:=ymB (h:=h) (cs:=cs) (m:=m) (by omega) g (ρ:=[.val (.scr ns),.val (.int (W:Nat)),.val (.lst ((bxV (ns.getD 1 0) W).map .int)),.val (.int (m:Nat)),.val (.lst (cs.map .int)),.no,.no,.no,.no,.no,.no,.no,.no,.no,.no,.no,.no,.no]) (fun _=>rfl) (List.range m);rw [List.length_range] at b;have f:=ytv (h:=h) (ns:=ns) (W:=W) (by omega) (v2:=.no) (ρ:=[.val (.scr ns),.val (.int (W:Nat)),.no,.no,.no,.no,.no,.no,.no,.no,.no,.no,.no,.no,.no,.no,.no,.no]) (fun _=>rfl);obtain ⟨h',q⟩:=yAt (h:=h) (ns:=ns) (c0:=ns.getD 1 0) (W:=W) (v1:=.val (.int (W:Nat))) (v4:=.val (.lst (cs.map .int))) hl l (by omega) c b (by omega) (by omega);refine ⟨h',.trans ?_ q⟩;have o:yhz (yb (ye 1) (yh)) [.val (.scr ns),.val (.int (W:Nat)),.no,.no,.no,.no,.no,.no,.no,.no,.no,.no,.no,.no,.no,.no,.no,.no] h=some (ymR 0 W,h):=ylZ (j:=(W:Nat)) rfl (by omega) (by omega);have i:((ymR 0 W).length<=100000)=True:=eq_true (by simp [ymR];omega);have n:yhz (yb (ye 3) (yh)) [.val (.scr ns),.val (.int (W:Nat)),.val (.lst ((bxV (ns.getD 1 0) W).map .int)),.val (.int (m:Nat)),.val (.lst (cs.map .int)),.no,.no,.no,.no,.no,.no,.no,.no,.no,.no,.no,.no,.no] h=some ((List.range m).map fun k:Nat=>.int (k:Nat),h):=by rw [<- yoh];exact ylZ (j:=(m:Nat)) rfl (by omega) (by omega)
 have r:(((List.range m).map fun k:Nat=>PV.int (k:Nat)).length<=100000)=True:=eq_true (by simp;omega);clear q c b g;unfold yvx;rw [yo];show ob (yl _ (yl _ (yl _ (yl _ (yl _ lqM)))) [.val (.scr ns),.no,.no,.no,.no,.no,.no,.no,.no,.no,.no,.no,.no,.no,.no,.no,.no,.no] h) fnK=_
 simpa [c0,s,o,i,f,t,p,sl,n,r,e,-yBZ]
end
end
noncomputable def top (i:Nat):Stmt:=PySem.Challenge.pw_retryhall_k29_two_halls.main.body.getD i (.Pass ⟨0,0,0,0⟩)
noncomputable abbrev FR:=Str×Str×Stmt×Nat×List Str
abbrev fRw (x q:Str) (s:Stmt) (k:Nat) (n:List Str):FR:=(x,q,s,k,n)
noncomputable abbrev mRw (k:Nat) (x:Str) (n:Nat):Nat×Str×Nat:=(k,x,n)
def r0:FR:=fRw "__init__" "Log.__init__" (inClass (top 8) 0) 1 ["self"]
def r1:FR:=fRw "write" "Log.write" (inClass (top 8) 1) 3 ["self","box","number","top"]
def r2:FR:=fRw "own" "Log.own" (inClass (top 8) 2) 2 ["self","box","layer"]
def r3:FR:=fRw "begin" "Log.begin" (inClass (top 8) 3) 1 ["self"]
def r4:FR:=fRw "settle" "Log.settle" (inClass (top 8) 4) 1 ["self","top","beneath"]
def r5:FR:=fRw "drop" "Log.drop" (inClass (top 8) 5) 1 ["self"]
def r6:FR:=fRw "see" "Log.see" (inClass (top 8) 7) 3 ["self","box","number"]
def r7:FR:=fRw "saw" "Log.saw" (inClass (top 8) 8) 1 ["self"]
def r8:FR:=fRw "saw" "Log.saw" (inClass (top 8) 8) 1 ["self"]
def r9:FR:=fRw "wrote" "Log.wrote" (inClass (top 8) 9) 1 ["self","lowest"]
def r10:FR:=fRw "reckon" "reckon" (top 15) 3 ["word","one","other"]
def r11:FR:=fRw "is_whole" "is_whole" (top 16) 1 ["value"]
def r12:FR:=fRw "is_number" "is_number" (top 17) 1 ["value"]
def r13:FR:=fRw "is_made_of" "is_made_of" (top 23) 2 ["text","signs"]
def r14:FR:=fRw "number_of" "number_of" (top 18) 1 ["text","number"]
def r15:FR:=fRw "is_word" "is_word" (top 19) 1 ["text"]
def r16:FR:=fRw "is_slot" "is_slot" (top 20) 1 ["text"]
def r17:FR:=fRw "slot_index" "slot_index" (top 21) 1 ["slot"]
def r18:FR:=fRw "is_name" "is_name" (top 22) 1 ["text"]
def r19:FR:=fRw "__init__" "Doer.__init__" (inClass (top 25) 0) 3 ["self","slots","width"]
def r20:FR:=fRw "held_in" "Doer.held_in" (inClass (top 25) 1) 2 ["self","slot"]
def r21:FR:=fRw "hold" "Doer.hold" (inClass (top 25) 2) 3 ["self","slot","number"]
def r22:FR:=fRw "box_at" "Doer.box_at" (inClass (top 25) 3) 2 ["self","place"]
def r23:FR:=fRw "do_reckon" "Doer.do_reckon" (inClass (top 25) 4) 5 ["self","word","slot","one","other"]
def r24:FR:=fRw "do_put" "Doer.do_put" (inClass (top 25) 5) 3 ["self","place","slot"]
def r25:FR:=fRw "sees_at" "Doer.sees_at" (inClass (top 25) 6) 2 ["self","place"]
def r26:FR:=fRw "take_own" "Doer.take_own" (inClass (top 25) 7) 3 ["self","slot","place"]
def r27:FR:=fRw "take_seen" "Doer.take_seen" (inClass (top 25) 8) 4 ["self","slot","place","numbers","box"]
def r28:FR:=fRw "takes" "takes" (top 27) 2 ["begun_by","row"]
def r29:FR:=fRw "__init__" "Run.__init__" (inClass (top 28) 0) 4 ["self","rows","slots","width"]
def r30:FR:=fRw "row" "Run.row" (inClass (top 28) 1) 1 ["self"]
def r31:FR:=fRw "is_stale" "Run.is_stale" (inClass (top 28) 2) 2 ["self","stamps"]
def r32:FR:=fRw "taker_layer" "Run.taker_layer" (inClass (top 28) 3) 2 ["self","row","layer"]
def r33:FR:=fRw "is_looked_over" "Run.is_looked_over" (inClass (top 28) 4) 1 ["self","row"]
def r34:FR:=fRw "see_next" "Run.see_next" (inClass (top 28) 5) 3 ["self","numbers","stamps","row","box"]
def r35:FR:=fRw "go_plain" "Run.go_plain" (inClass (top 28) 7) 2 ["self","row"]
def r36:FR:=fRw "lead" "Run.lead" (inClass (top 28) 8) 2 ["self","row"]
def r37:FR:=fRw "leave" "Run.leave" (inClass (top 28) 10) 2 ["self","row","layer","side","begun_by"]
def r38:FR:=fRw "throw" "Run.throw" (inClass (top 28) 9) 2 ["self","row","number","begun_by"]
def r39:FR:=fRw "go" "Run.go" (inClass (top 28) 6) 1 ["self","row"]
def r40:FR:=fRw "state" "Hand.state" (inClass (top 29) 1) 1 ["self"]
def r41:FR:=fRw "new_run" "Hand.new_run" (inClass (top 29) 2) 1 ["self","rows"]
def r42:FR:=fRw "begin_anew" "Hand.begin_anew" (inClass (top 29) 3) 1 ["self"]
def r43:FR:=fRw "fall_asleep" "Hand.fall_asleep" (inClass (top 29) 4) 1 ["self"]
def r44:FR:=fRw "go_on" "Hand.go_on" (inClass (top 29) 5) 2 ["self","slots"]
def r45:FR:=fRw "__init__" "Hand.__init__" (inClass (top 29) 0) 3 ["self","deeds","width"]
def r46:FR:=fRw "__init__" "Let.__init__" (inClass (top 33) 0) 3 ["self","slot","number"]
def r47:FR:=fRw "__init__" "Reckon.__init__" (inClass (top 34) 0) 5 ["self","word","slot","one","other"]
def r48:FR:=fRw "__init__" "Take.__init__" (inClass (top 35) 0) 3 ["self","slot","place"]
def r49:FR:=fRw "__init__" "Put.__init__" (inClass (top 36) 0) 3 ["self","place","slot"]
def r50:FR:=fRw "__init__" "If.__init__" (inClass (top 37) 0) 4 ["self","slot","parts","others"]
def r51:FR:=fRw "__init__" "Either.__init__" (inClass (top 38) 0) 3 ["self","parts","others"]
def r52:FR:=fRw "__init__" "Try.__init__" (inClass (top 39) 0) 5 ["self","parts","name","slot","others"]
def r53:FR:=fRw "__init__" "Throw.__init__" (inClass (top 40) 0) 3 ["self","name","slot"]
def r54:FR:=fRw "long" "Let.long" (inClass (top 33) 2) 1 ["self"]
def r55:FR:=fRw "long" "Reckon.long" (inClass (top 34) 2) 1 ["self"]
def r56:FR:=fRw "long" "Take.long" (inClass (top 35) 2) 1 ["self"]
def r57:FR:=fRw "long" "Put.long" (inClass (top 36) 2) 1 ["self"]
def r58:FR:=fRw "long" "Throw.long" (inClass (top 40) 2) 1 ["self"]
def r59:FR:=fRw "long" "Wait.long" (inClass (top 41) 1) 1 ["self"]
def r60:FR:=fRw "list_long" "list_long" (top 31) 1 ["parts"]
def r61:FR:=fRw "long" "If.long" (inClass (top 37) 2) 1 ["self"]
def r62:FR:=fRw "long" "Either.long" (inClass (top 38) 2) 1 ["self"]
def r63:FR:=fRw "long" "Try.long" (inClass (top 39) 2) 1 ["self"]
def r64:FR:=fRw "plain_rows" "plain_rows" (top 46) 1 ["part"]
def r65:FR:=fRw "first_row" "first_row" (top 48) 2 ["part","second"]
def r66:FR:=fRw "rows_between" "rows_between" (top 49) 2 ["part","behind"]
def r67:FR:=fRw "list_rows" "list_rows" (top 44) 2 ["parts","first","rows","part"]
def r68:FR:=fRw "part_rows" "part_rows" (top 45) 2 ["part","first"]
def r69:FR:=fRw "sided_rows" "sided_rows" (top 47) 2 ["part","first","behind","second","inner","outer"]
def r70:FR:=fRw "rows_of" "rows_of" (top 43) 1 ["deed"]
def r71:FR:=fRw "__init__" "Reader.__init__" (inClass (top 55) 0) 2 ["self","words"]
def r72:FR:=fRw "words_of" "words_of" (top 54) 1 ["text"]
def r73:FR:=fRw "ahead" "Reader.ahead" (inClass (top 55) 1) 1 ["self"]
def r74:FR:=fRw "taken" "Reader.taken" (inClass (top 55) 2) 1 ["self","word"]
def r75:FR:=fRw "pass_over" "Reader.pass_over" (inClass (top 55) 3) 2 ["self","wanted","word"]
def r76:FR:=fRw "slot_taken" "Reader.slot_taken" (inClass (top 55) 4) 1 ["self","word"]
def r77:FR:=fRw "name_taken" "Reader.name_taken" (inClass (top 55) 5) 1 ["self","word"]
def r78:FR:=fRw "number_taken" "Reader.number_taken" (inClass (top 55) 6) 1 ["self","word","number"]
def r79:FR:=fRw "reckon_taken" "Reader.reckon_taken" (inClass (top 55) 14) 2 ["self","word","slot","one","other"]
def r80:FR:=fRw "plain_taken" "Reader.plain_taken" (inClass (top 55) 13) 2 ["self","word","slot","place","name"]
def r81:FR:=fRw "list_taken" "Reader.list_taken" (inClass (top 55) 7) 2 ["self","around","parts"]
def r82:FR:=fRw "side_taken" "Reader.side_taken" (inClass (top 55) 8) 2 ["self","around","parts"]
def r83:FR:=fRw "part_taken" "Reader.part_taken" (inClass (top 55) 9) 2 ["self","around","word"]
def r84:FR:=fRw "if_taken" "Reader.if_taken" (inClass (top 55) 10) 2 ["self","around","slot","parts","others"]
def r85:FR:=fRw "either_taken" "Reader.either_taken" (inClass (top 55) 11) 2 ["self","around","parts","others"]
def r86:FR:=fRw "try_taken" "Reader.try_taken" (inClass (top 55) 12) 2 ["self","around","parts","name","slot","others"]
def r87:FR:=fRw "read" "read" (top 53) 1 ["text","reader","deed"]
def r88:FR:=fRw "check_boxes" "check_boxes" (top 60) 1 ["boxes"]
def r89:FR:=fRw "rows_of_deeds" "rows_of_deeds" (top 62) 1 ["texts"]
def r90:FR:=fRw "rows_of_hands" "rows_of_hands" (top 61) 1 ["hands"]
def r91:FR:=fRw "__init__" "Hall.__init__" (inClass (top 63) 0) 3 ["self","boxes","hands"]
def r92:FR:=fRw "boxes" "Hall.boxes" (inClass (top 63) 1) 1 ["self"]
def r93:FR:=fRw "stamps" "Hall.stamps" (inClass (top 63) 2) 1 ["self"]
def r94:FR:=fRw "hand_at" "Hall.hand_at" (inClass (top 63) 4) 2 ["self","hand"]
def r95:FR:=fRw "state" "Hall.state" (inClass (top 63) 5) 2 ["self","hand"]
def r96:FR:=fRw "which" "Hall.which" (inClass (top 63) 6) 2 ["self","hand"]
def r97:FR:=fRw "slots" "Hall.slots" (inClass (top 63) 7) 2 ["self","hand"]
def r98:FR:=fRw "saw" "Hall.saw" (inClass (top 63) 8) 2 ["self","hand"]
def r99:FR:=fRw "journal" "Hall.journal" (inClass (top 63) 9) 1 ["self"]
def r100:FR:=fRw "boxes" "Hall.boxes" (inClass (top 63) 1) 1 ["self"]
def r101:FR:=fRw "stamps" "Hall.stamps" (inClass (top 63) 2) 1 ["self"]
def r102:FR:=fRw "slots" "Hall.slots" (inClass (top 63) 7) 2 ["self","hand"]
def r103:FR:=fRw "saw" "Hall.saw" (inClass (top 63) 8) 2 ["self","hand"]
def r104:FR:=fRw "journal" "Hall.journal" (inClass (top 63) 9) 1 ["self"]
def r105:FR:=fRw "wake_stale" "Hall.wake_stale" (inClass (top 63) 13) 1 ["self","member"]
def r106:FR:=fRw "end_deed" "Hall.end_deed" (inClass (top 63) 14) 5 ["self","hand","end","laid","slots","member"]
def r107:FR:=fRw "lay_down" "Hall.lay_down" (inClass (top 63) 12) 2 ["self","hand","run","laid","pair","box"]
def r108:FR:=fRw "looked_over_told" "Hall.looked_over_told" (inClass (top 63) 11) 3 ["self","hand","row_number","member","row","box"]
def r109:FR:=fRw "turn" "Hall.turn" (inClass (top 63) 10) 2 ["self","hand","member","row_number"]
def r110:FR:=fRw "_law_cell_at" "_law_cell_at" (top 65) 2 ["_law_script","_law_k"]
def r111:FR:=fRw "_law_number_by" "_law_number_by" (top 66) 1 ["_law_cell","_law_part"]
def r112:FR:=fRw "_law_plain" "_law_plain" (top 67) 2 ["_law_mixed","_law_number","_law_slots","_law_way","_law_word"]
def r113:FR:=fRw "_law_piece" "_law_piece" (top 68) 1 ["_law_cell","_law_first","_law_second","_law_number","_law_one","_law_other","_law_way","_law_name","_law_thrower"]
def r114:FR:=fRw "_law_deeds" "_law_deeds" (top 69) 1 ["_law_cells","_law_deeds_here","_law_pieces","_law_cell"]
def r115:FR:=fRw "_law_all" "_law_all" (top 70) 3 ["_law_hall","_law_count","_law_order","_law_found","_law_k","_law_asked"]
def r116:FR:=fRw "_law_copy" "_law_copy" (top 71) 1 ["_law_found","_law_journal","_law_entry","_law_slots","_law_sights"]
def r117:FR:=fRw "_law_spoil" "_law_spoil" (top 72) 2 ["_law_hall","_law_count","_law_stamps","_law_told","_law_entry","_law_hand"]
def r118:FR:=fRw "_law_again" "_law_again" (top 73) 4 ["_law_boxes","_law_hands","_law_turns","_law_told","_law_hall"]
def r119:FR:=fRw "_law_turned" "_law_turned" (top 74) 5 ["_law_halls","_law_turns","_law_told","_law_which","_law_hand"]
def r120:FR:=fRw "law" "law" (top 75) 1 ["_law_script","_law_many","_law_boxes","_law_count","_law_cells","_law_hands","_law_handed","_law_halls","_law_turns","_law_told","_law_held","_law_cell","_law_mixed","_law_which","_law_ahead","_law_k","_law_found","_law_copied"]
def fT:List FR:=[r0,r1,r2,r3,r4,r5,r6,r7,r8,r9,r10,r11,r12,r13,r14,r15,r16,r17,r18,r19,r20,r21,r22,r23,r24,r25,r26,r27,r28,r29,r30,r31,r32,r33,r34,r35,r36,r37,r38,r39,r40,r41,r42,r43,r44,r45,r46,r47,r48,r49,r50,r51,r52,r53,r54,r55,r56,r57,r58,r59,r60,r61,r62,r63,r64,r65,r66,r67,r68,r69,r70,r71,r72,r73,r74,r75,r76,r77,r78,r79,r80,r81,r82,r83,r84,r85,r86,r87,r88,r89,r90,r91,r92,r93,r94,r95,r96,r97,r98,r99,r100,r101,r102,r103,r104,r105,r106,r107,r108,r109,r110,r111,r112,r113,r114,r115,r116,r117,r118,r119,r120]
def fR (n:Nat):FR:=fT.getD n r0
def FR.ps (r:FR):List Str:=r.2.2.2.2.take r.2.2.2.1
abbrev fP (n:Nat):List Str:=FR.ps (fR n)
noncomputable def AllP {Y:Type}(p:Y->Prop):List Y->Prop
 | []=>True
 | c::cs=>p c/\AllP p cs
theorem AllP.get {Y:Type}{p:Y->Prop}{d:Y}(hd:p d):∀ {cs:List Y},AllP p cs->∀ k:Nat,p (cs.getD k d)
 | [],_,_=>hd
 | _::_,a,0=>a.1
 | _::_,a,k+1=>AllP.get hd a.2 k
theorem AllP.mem {Y:Type}{p:Y->Prop}:∀ {cs:List Y},AllP p cs->∀ i∈cs,p i
 | c::cs,a,i,hi=>by
  rcases mem_cons.mp hi with rfl|hi
  .exact a.1
  .exact AllP.mem a.2 i hi
theorem yxF:AllP (fun r:FR=>yeE r.2.2.2.2 r.ps (ybT r.2.2.1)) fT:=by repeat' first|exact True.intro|refine And.intro ?_ ?_|exact ⟨rfl,rfl,rfl,by rfl',rfl,by rfl',by rfl'⟩
theorem sc (n:Nat) (h:fR n=r:=by rfl):yeE r.2.2.2.2 r.ps (ybT r.2.2.1):=h ▸ AllP.get (p:=fun r:FR=>yeE r.2.2.2.2 r.ps (ybT r.2.2.1)) yxF.1 yxF n
def mT:List (Nat×Str×Nat):=[mRw 1 "long" 54,mRw 2 "long" 55,mRw 3 "long" 56,mRw 4 "long" 57,mRw 5 "long" 61,mRw 6 "long" 62,mRw 7 "long" 63,mRw 8 "long" 58,mRw 9 "long" 59,mRw 11 "write" 1,mRw 11 "own" 2,mRw 11 "begin" 3,mRw 11 "settle" 4,mRw 11 "drop" 5,mRw 11 "see" 6,mRw 11 "saw" 7,mRw 11 "wrote" 9,mRw 11 "saw" 8,mRw 12 "held_in" 20,mRw 12 "hold" 21,mRw 12 "box_at" 22,mRw 12 "do_put" 24,mRw 12 "do_reckon" 23,mRw 12 "sees_at" 25,mRw 12 "take_own" 26,mRw 12 "take_seen" 27,mRw 12 "row" 30,mRw 12 "is_stale" 31,mRw 12 "taker_layer" 32,mRw 12 "is_looked_over" 33,mRw 12 "see_next" 34,mRw 12 "go" 39,mRw 12 "go_plain" 35,mRw 12 "lead" 36,mRw 12 "throw" 38,mRw 12 "leave" 37,mRw 14 "state" 40,mRw 14 "new_run" 41,mRw 14 "begin_anew" 42,mRw 14 "fall_asleep" 43,mRw 14 "go_on" 44,mRw 15 "boxes" 92,mRw 15 "stamps" 93,mRw 15 "hand_at" 94,mRw 15 "state" 95,mRw 15 "which" 96,mRw 15 "slots" 97,mRw 15 "saw" 98,mRw 15 "journal" 99,mRw 15 "wake_stale" 105,mRw 15 "end_deed" 106,mRw 15 "lay_down" 107,mRw 15 "looked_over_told" 108,mRw 15 "turn" 109,mRw 15 "boxes" 100,mRw 15 "stamps" 101,mRw 15 "slots" 102,mRw 15 "saw" 103,mRw 15 "journal" 104,mRw 10 "ahead" 73,mRw 10 "taken" 74,mRw 10 "pass_over" 75,mRw 10 "slot_taken" 76,mRw 10 "name_taken" 77,mRw 10 "number_taken" 78,mRw 10 "list_taken" 81,mRw 10 "side_taken" 82,mRw 10 "part_taken" 83,mRw 10 "if_taken" 84,mRw 10 "either_taken" 85,mRw 10 "try_taken" 86,mRw 10 "plain_taken" 80,mRw 10 "reckon_taken" 79]
noncomputable abbrev gRw (x:Str) (n:Nat):Str×Nat:=(x,n)
def gT:List (Str×Nat):=[gRw "reckon" 10,gRw "is_whole" 11,gRw "is_number" 12,gRw "is_made_of" 13,gRw "number_of" 14,gRw "is_word" 15,gRw "is_slot" 16,gRw "slot_index" 17,gRw "is_name" 18,gRw "takes" 28,gRw "list_long" 60,gRw "plain_rows" 64,gRw "first_row" 65,gRw "rows_between" 66,gRw "list_rows" 67,gRw "part_rows" 68,gRw "sided_rows" 69,gRw "rows_of" 70,gRw "words_of" 72,gRw "read" 87,gRw "check_boxes" 88,gRw "rows_of_deeds" 89,gRw "rows_of_hands" 90,gRw "_law_cell_at" 110,gRw "_law_number_by" 111,gRw "_law_plain" 112,gRw "_law_piece" 113,gRw "_law_deeds" 114,gRw "_law_all" 115,gRw "_law_copy" 116,gRw "_law_spoil" 117,gRw "_law_again" 118,gRw "_law_turned" 119,gRw "law" 120]
noncomputable def kT:List (Nat×Nat):=[(1,46),(2,47),(3,48),(4,49),(5,50),(6,51),(7,52),(8,53),(10,71),(11,0),(12,29),(13,19),(14,45),(15,91)]
noncomputable def cT:List Str:=["Part","Let","Reckon","Take","Put","If","Either","Try","Throw","Wait","Reader","Log","Run","Doer","Hand","Hall"]
noncomputable def zT:List Str:=["all","any","bool","int","isinstance","len","list","range","reversed","sorted","str","sum"]
def nT:List (Str×List Nat):=[("stack",[11]),("last_seen",[11]),("held",[12]),("width",[12,14]),("log",[12]),("rows",[12]),("at",[10,12]),("seen_stamps",[12]),("sides",[12]),("deeds",[14]),("nth",[14]),("sleeps",[14]),("before",[14]),("run",[14]),("numbers",[15]),("marks",[15]),("crew",[15]),("entries",[15]),("words",[10]),("slot",[1,2,3,4,5,7,8]),("number",[1]),("place",[3,4]),("parts",[5,6,7]),("others",[5,6,7]),("name",[7,8]),("word",[2]),("one",[2]),("other",[2])]
theorem ml1 {Y:Type}{P:List Y->Prop}(h:∀ a,P [a]):∀ us:List Y,us.length=1->P us
 | [_],_=>h _
theorem ml2 {Y:Type}{P:List Y->Prop}(h:∀ a b,P [a,b]):∀ us:List Y,us.length=2->P us
 | [_,_],_=>h _ _
theorem ml3 {Y:Type}{P:List Y->Prop}(h:∀ a b c,P [a,b,c]):∀ us:List Y,us.length=3->P us
 | [_,_,_],_=>h _ _ _
theorem ml4 {Y:Type}{P:List Y->Prop}(h:∀ a b c d,P [a,b,c,d]):∀ us:List Y,us.length=4->P us
 | [_,_,_,_],_=>h _ _ _ _
theorem ml5 {Y:Type}{P:List Y->Prop}(h:∀ a b c d e,P [a,b,c,d,e]):∀ us:List Y,us.length=5->P us
 | [_,_,_,_,_],_=>h _ _ _ _ _
set_option genInjectivity false in
set_option genSizeOf false in
structure Ads where
 A:Nat->Addr
 fl:Nat->Addr×FuncData
 k_FIGURES:Tok
 k_LETTERS:Tok
 k_MOST_AROUND:Tok
 k_MOST_BOXES:Tok
 k_MOST_DEEDS:Tok
 k_MOST_HANDS:Tok
 k_MOST_ROWS:Tok
 k_SLOTS:Tok
 k_WIDE:Tok
 k_WORDS:Addr
noncomputable abbrev Ads.a (t:Ads) (n:Nat):Addr:=(t.fl n).1
noncomputable abbrev Ads.d (t:Ads) (n:Nat):FuncData:=(t.fl n).2
noncomputable abbrev ypA (K:Frag) (t:Ads):Ck:=⟨K,t.A⟩
structure Txt (K:Frag) (mg:Str->Option Value) (t:Ads):Prop where
 f:∀ n,Fun K (fR n).1 (fR n).2.1 (fR n).2.2.1 (t.a n) (t.d n)
 b:∀ n,Binds K (t.d n) (fP n) []
 G:∀ n,mg (gT.getD n ("reckon",10)).1=some (.ref (t.a (gT.getD n ("reckon",10)).2))
 C:∀ n,mg (cT.getD n "Part")=some (.ref (t.A n))
 J:∀ n,Mk K (t.A (kT.getD n (1,46)).1) (t.a (kT.getD n (1,46)).2)
 M:∀ n,Meth K (t.A (mT.getD n (mRw 1 "long" 54)).1) (mT.getD n (mRw 1 "long" 54)).2.1 (t.a (mT.getD n (mRw 1 "long" 54)).2.2)
 mk_Part:makesIn K (t.A 0)=true
 io_Part:findIn K (.ref (t.A 0)) "__init__" = some (some (.builtin "object.__init__"))
 kp_Part:keepIn K (.ref (t.A 0))=true
 mk_Wait:makesIn K (t.A 9)=true
 io_Wait:findIn K (.ref (t.A 9)) "__init__" = some (some (.builtin "object.__init__"))
 kp_Wait:keepIn K (.ref (t.A 9))=true
 cf_Doer:yvv K (t.A 13) "__init__" (t.a 19)
 cl:∀ k,Cls K (t.A k)
 N:∀ n,∀ k∈(nT.getD n ("stack",[11])).2,Cls K (t.A k)/\NoAttr K (t.A k) (nT.getD n ("stack",[11])).1
 isa:∀ r∈yge,∀ (H:Hp) (a dx:Addr) (fs:List (Str×V)),H a=some (.ins (t.A r.1) dx fs)->IsI K H (.ref a) (.ref (t.A r.2.1)) r.2.2
 Z:∀ n,mg (zT.getD n "all")=none
 m_FIGURES:mg "FIGURES" = some (.str "0123456789" t.k_FIGURES)
 m_LETTERS:mg "LETTERS" = some (.str "abcdefghijklmnopqrstuvwxyz" t.k_LETTERS)
 m_MOST_AROUND:mg "MOST_AROUND" = some (.int 8 t.k_MOST_AROUND)
 m_MOST_BOXES:mg "MOST_BOXES" = some (.int 16 t.k_MOST_BOXES)
 m_MOST_DEEDS:mg "MOST_DEEDS" = some (.int 6 t.k_MOST_DEEDS)
 m_MOST_HANDS:mg "MOST_HANDS" = some (.int 8 t.k_MOST_HANDS)
 m_MOST_ROWS:mg "MOST_ROWS" = some (.int 80 t.k_MOST_ROWS)
 m_SLOTS:mg "SLOTS" = some (.str "abcdefgh" t.k_SLOTS)
 m_WIDE:mg "WIDE" = some (.int 18446744073709551616 t.k_WIDE)
 m_WORDS:mg "WORDS" = some (.ref t.k_WORDS)
 kt_WORDS:KTp K t.k_WORDS ((["plus","minus","times","less","same"]:List Str).map V.str)
theorem Txt.F (T:Txt K mg t) (n:Nat) (r:FR) (h:fR n=r:=by rfl):Fun K r.1 r.2.1 r.2.2.1 (t.a n) (t.d n):=h ▸ T.f n
theorem Txt.k (T:Txt K mg t) (n:Nat):keepIn K (.ref (t.a n))=true:=(T.f n).kp
section
variable {P:Program}{w:World}{K:Frag}{mg:Str->Option Value}{base:Heap}{t:Ads}
theorem ydV {Q:VK}(h:spE ck n (fun _ _=>none) vs H Q E):False:=by obtain ⟨_,_,_,_,_,_,_,_,q,_⟩:=h;cases q
theorem ydr:FnOk P w K mg base CX0 k f fd ps (spE ck n fun _ _=>none):=⟨fun vs H Q E h=>(ydV h).elim,fun A outer s H args us vs Q E _ _ _ _ h=>(ydV h).elim⟩
local macro_rules | `(‹($n,$i,$r,$k,$p)›)=>`(FnOk $(Lean.mkIdent `P) $(Lean.mkIdent `w) $(Lean.mkIdent `K) $(Lean.mkIdent `mg) $(Lean.mkIdent `base) CX0 $n ($(Lean.mkIdent `t).a $i) ($(Lean.mkIdent `t).d $i) (FR.ps $r) (spE (ypA $(Lean.mkIdent `K) $(Lean.mkIdent `t)) $k $p))
structure yHG (P:Program) (w:World) (K:Frag) (mg:Str->Option Value) (base:Heap) (t:Ads) (n:Nat):Prop where
 ygl:‹(n+1,60,r60,1,(yY n))›
 ymC:‹(n+1,61,r61,1,(yiy n))›
 ygF:‹(n+1,62,r62,1,(yeP n))›
 yjS:‹(n+1,63,r63,1,(yhb n))›
 m_long:ynk P w K mg base (n+1) t.A "long" (fun k=>spE (ypA K t) 1 (yix n k))
structure yHH (P:Program) (w:World) (K:Frag) (mg:Str->Option Value) (base:Heap) (t:Ads) (n:Nat):Prop where
 yiN:‹(n+47,67,r67,2,(ycA n))›
 yoi:‹(n+47,68,r68,2,(ydT n))›
 ymD:‹(n+47,69,r69,2,(yej n))›
structure yHI (P:Program) (w:World) (K:Frag) (mg:Str->Option Value) (base:Heap) (t:Ads) (n:Nat):Prop where
 ydW:‹(n+6,81,r81,2,(ybQ n))›
 ygm:‹(n+6,82,r82,2,(yt n))›
 ygn:‹(n+6,83,r83,2,(yJ n))›
 yhf:‹(n+6,84,r84,2,(ycf n))›
 yfq:‹(n+6,85,r85,2,(ybw n))›
 ygG:‹(n+6,86,r86,2,(ybY n))›
variable (T:Txt K mg t)
include T
theorem yiO:FnOk P w K mg base CX0 (0+1) (t.a 46) (t.d 46) (FR.ps r46) (spI (ypA K t) 2 1 yfN):=zin (T.F 46 r46) (sc 46) rfl (by decide) fun _ _ _ _ _ _ hr=>(ybv (ybG (T.N 19) z_v) (ydH (ybG (T.N 20) z_v)))
theorem ygH:FnOk P w K mg base CX0 (0+1) (t.a 47) (t.d 47) (FR.ps r47) (spI (ypA K t) 4 2 yey):=zin (T.F 47 r47) (sc 47) rfl (by decide) fun _ _ _ _ _ _ hr=>(ybv (ybG (T.N 25) z_v) (ybv (ybG (T.N 19) z_v) (ybv (ybG (T.N 26) z_v) (ydH (ybG (T.N 27) z_v)))))
theorem yhE:FnOk P w K mg base CX0 (0+1) (t.a 48) (t.d 48) (FR.ps r48) (spI (ypA K t) 2 3 yfi):=zin (T.F 48 r48) (sc 48) rfl (by decide) fun _ _ _ _ _ _ hr=>(ybv (ybG (T.N 19) z_v) (ydH (ybG (T.N 21) z_v)))
theorem yiP:FnOk P w K mg base CX0 (0+1) (t.a 49) (t.d 49) (FR.ps r49) (spI (ypA K t) 2 4 yfO):=zin (T.F 49 r49) (sc 49) rfl (by decide) fun _ _ _ _ _ _ hr=>(ybv (ybG (T.N 21) z_v) (ydH (ybG (T.N 19) z_v)))
theorem yjs:FnOk P w K mg base CX0 (0+1) (t.a 50) (t.d 50) (FR.ps r50) (spI (ypA K t) 3 5 ygz):=zin (T.F 50 r50) (sc 50) rfl (by decide) fun _ _ _ _ _ _ hr=>(ybv (ybG (T.N 19) z_v) (ybv (ybG (T.N 22) (ybU (ybo ym yM (T.Z 6) (ya z_v yd)))) (ydH (ybG (T.N 23) (ybU (ybo ym yM (T.Z 6) (ya z_v yd)))))))
theorem ygI:FnOk P w K mg base CX0 (0+1) (t.a 51) (t.d 51) (FR.ps r51) (spI (ypA K t) 2 6 yez):=zin (T.F 51 r51) (sc 51) rfl (by decide) fun _ _ _ _ _ _ hr=>(ybv (ybG (T.N 22) (ybU (ybo ym yM (T.Z 6) (ya z_v yd)))) (ydH (ybG (T.N 23) (ybU (ybo ym yM (T.Z 6) (ya z_v yd))))))
theorem yiQ:FnOk P w K mg base CX0 (0+1) (t.a 52) (t.d 52) (FR.ps r52) (spI (ypA K t) 4 7 yfP):=zin (T.F 52 r52) (sc 52) rfl (by decide) fun _ _ _ _ _ _ hr=>(ybv (ybG (T.N 22) (ybU (ybo ym yM (T.Z 6) (ya z_v yd)))) (ybv (ybG (T.N 24) z_v) (ybv (ybG (T.N 19) z_v) (ydH (ybG (T.N 23) (ybU (ybo ym yM (T.Z 6) (ya z_v yd))))))))
theorem yhg:FnOk P w K mg base CX0 (0+1) (t.a 53) (t.d 53) (FR.ps r53) (spI (ypA K t) 2 8 yeV):=zin (T.F 53 r53) (sc 53) rfl (by decide) fun _ _ _ _ _ _ hr=>(ybv (ybG (T.N 24) z_v) (ydH (ybG (T.N 19) z_v)))
theorem yoj:‹(0+1,54,r54,1,yjJ)›:=zfn (T.F 54 r54) (sc 54) fun _ _ _ _ _ _ hr=>(yf (yj yg))
theorem yjt:‹(0+1,55,r55,1,ygA)›:=zfn (T.F 55 r55) (sc 55) fun _ _ _ _ _ _ hr=>(yf (yj yg))
theorem ymE:‹(0+1,56,r56,1,yiv)›:=zfn (T.F 56 r56) (sc 56) fun _ _ _ _ _ _ hr=>(yf (yj yg))
theorem yok:‹(0+1,57,r57,1,yjK)›:=zfn (T.F 57 r57) (sc 57) fun _ _ _ _ _ _ hr=>(yf (yj yg))
theorem ykX:‹(0+1,58,r58,1,yhm)›:=zfn (T.F 58 r58) (sc 58) fun _ _ _ _ _ _ hr=>(yf (yj yg))
theorem ymF:‹(0+1,59,r59,1,yiw)›:=zfn (T.F 59 r59) (sc 59) fun _ _ _ _ _ _ hr=>(yf (yj yg))
theorem ykY:∀ n,yHG P w K mg base t n
 | 0=>⟨ydr,ydr,ydr,ydr,fun c=>⟨T.cl c,.inl fun _ _ _ _ h=>ydV h⟩⟩
 | n+1=>by
  have I:=ykY n;have yds:=I.ygl;have yDK:=I.ymC;have yws:=I.ygF;have yAE:=I.yjS;have G_long:=I.m_long;exact ⟨zfn (T.F 60 r60) (sc 60) fun _ _ _ _ _ _ hr=>(yf (yj (yfg (yuj rfl) yEH (T.Z 11) (ya (ybU (ygw [] (ydG z_v) (fun _ _ _ _ _ _=>(ysh z_v G_long)))) yd)))),
   zfn (T.F 61 r61) (sc 61) fun _ _ _ _ _ _ hr=>(yf (yj (ybb ycg ydy (ybb ycg ydy yg (yV yds (T.G 10) (T.k 60) (T.b 60) (ya (yy (T.N 22) z_v) yd))) (yV yds (T.G 10) (T.k 60) (T.b 60) (ya (yy (T.N 23) z_v) yd))))),
   zfn (T.F 62 r62) (sc 62) fun _ _ _ _ _ _ hr=>(yf (yj (ybb ycg ydy (ybb ycg ydy yg (yV yds (T.G 10) (T.k 60) (T.b 60) (ya (yy (T.N 22) z_v) yd))) (yV yds (T.G 10) (T.k 60) (T.b 60) (ya (yy (T.N 23) z_v) yd))))),
   zfn (T.F 63 r63) (sc 63) fun _ _ _ _ _ _ hr=>(yf (yj (ybb ycg ydy (ybb ycg ydy yg (yV yds (T.G 10) (T.k 60) (T.b 60) (ya (yy (T.N 22) z_v) yd))) (yV yds (T.G 10) (T.k 60) (T.b 60) (ya (yy (T.N 23) z_v) yd))))),
   fun c=>⟨T.cl c,match c with|0=>.inl fun _ _ _ _ h=>ydV h|1=>.inr ⟨_,_,_,(T.M 0),(yoj T).mono (by omega),(T.b 54)⟩|2=>.inr ⟨_,_,_,(T.M 1),(yjt T).mono (by omega),(T.b 55)⟩|3=>.inr ⟨_,_,_,(T.M 2),(ymE T).mono (by omega),(T.b 56)⟩|4=>.inr ⟨_,_,_,(T.M 3),(yok T).mono (by omega),(T.b 57)⟩|5=>.inr ⟨_,_,_,(T.M 4),I.ymC.mono (by omega),(T.b 61)⟩|6=>.inr ⟨_,_,_,(T.M 5),I.ygF.mono (by omega),(T.b 62)⟩|7=>.inr ⟨_,_,_,(T.M 6),I.yjS.mono (by omega),(T.b 63)⟩|8=>.inr ⟨_,_,_,(T.M 7),(ykX T).mono (by omega),(T.b 58)⟩|9=>.inr ⟨_,_,_,(T.M 8),(ymF T).mono (by omega),(T.b 59)⟩|10=>.inl fun _ _ _ _ h=>ydV h|11=>.inl fun _ _ _ _ h=>ydV h|12=>.inl fun _ _ _ _ h=>ydV h|13=>.inl fun _ _ _ _ h=>ydV h|14=>.inl fun _ _ _ _ h=>ydV h|15=>.inl fun _ _ _ _ h=>ydV h|c+16=>.inl fun _ _ _ _ h=>ydV h⟩⟩
theorem ykZ:‹(0+1,64,r64,1,yhn)›:=zfn (T.F 64 r64) (sc 64) fun _ _ _ _ _ _ hr=>(yc (yO (ycq (yfg ybm (ygt (K:=ckX _ _) T.isa) (T.Z 4) (ya z_v (ya (yeU (T.C 1)) yd)))) (yf (yj (ybU (ybC (ya (ycS (ya yB (ya (yy (T.N 19) z_v) (ya (yy (T.N 20) z_v) yd)))) yd))))) yn) (yc (yO (ycq (yfg ybm (ygt (K:=ckX _ _) T.isa) (T.Z 4) (ya z_v (ya (yeU (T.C 2)) yd)))) (yf (yj (ybU (ybC (ya (ycS (ya (yy (T.N 25) z_v) (ya (yy (T.N 19) z_v) (ya (yy (T.N 26) z_v) (ya (yy (T.N 27) z_v) yd))))) yd))))) yn) (yc (yO (ycq (yfg ybm (ygt (K:=ckX _ _) T.isa) (T.Z 4) (ya z_v (ya (yeU (T.C 3)) yd)))) (yf (yj (ybU (ybC (ya (ycS (ya yB (ya (yy (T.N 19) z_v) (ya (yy (T.N 21) z_v) yd)))) yd))))) yn) (yc (yO (ycq (yfg ybm (ygt (K:=ckX _ _) T.isa) (T.Z 4) (ya z_v (ya (yeU (T.C 4)) yd)))) (yf (yj (ybU (ybC (ya (ycS (ya yB (ya (yy (T.N 21) z_v) (ya (yy (T.N 19) z_v) yd)))) yd))))) yn) (yc (yO (ycq (yfg ybm (ygt (K:=ckX _ _) T.isa) (T.Z 4) (ya z_v (ya (yeU (T.C 8)) yd)))) (yf (yj (ybU (ybC (ya (ycS (ya yB (ya (yy (T.N 24) z_v) (ya (yy (T.N 19) z_v) yd)))) yd))))) yn) (yc (yO (ycq (yfg ybm (ygt (K:=ckX _ _) T.isa) (T.Z 4) (ya z_v (ya (yeU (T.C 9)) yd)))) (yf (yj (ybU (ybC (ya (ycS (ya yB yd)) yd))))) yn) (yf (yj (ybU (ybC yd))))))))))
theorem ymG:‹(0+1,65,r65,2,yeQ)›:=zfn (T.F 65 r65) (sc 65) fun _ _ _ _ _ _ hr=>(yc (yO (ycq (yfg ybm (ygt (K:=ckX _ _) T.isa) (T.Z 4) (ya z_v (ya (yeU (T.C 5)) yd)))) (yf (yj (ycS (ya yB (ya (yy (T.N 19) z_v) (ya z_v yd)))))) yn) (yc (yO (ycq (yfg ybm (ygt (K:=ckX _ _) T.isa) (T.Z 4) (ya z_v (ya (yeU (T.C 6)) yd)))) (yf (yj (ycS (ya yB (ya z_v yd))))) yn) (yf (yj (ycS (ya yB (ya (yy (T.N 24) z_v) (ya (yy (T.N 19) z_v) (ya z_v yd)))))))))
theorem yiR:‹(0+1,66,r66,2,ydv)›:=zfn (T.F 66 r66) (sc 66) fun _ _ _ _ _ _ hr=>(yc (yO (ycq (yfg ybm (ygt (K:=ckX _ _) T.isa) (T.Z 4) (ya z_v (ya (yeU (T.C 5)) yd)))) (yf (yj (ybU (ybC (ya (ycS (ya yB (ya z_v yd))) yd))))) yn) (yf (yj (ybU (ybC (ya (ycS (ya yB yd)) (ya (ycS (ya yB (ya z_v yd))) yd)))))))
theorem ytB:∀ n,yHH P w K mg base t n
 | 0=>⟨ydr,ydr,ydr⟩
 | n+1=>by
  have I:=ytB n;have yiS:=I.yiN;have yol:=I.yoi;have ymH:=I.ymD;exact ⟨zfn (T.F 67 r67) (sc 67) fun _ _ _ _ _ _ hr=>have nd:=(sc 67 (r:=r67)).nd;(yc (ygc (ybC yd)) (yc (ygx (ydG z_v) ydn (yf (yCy (yV yol (T.G 15) (T.k 68) (T.b 68) (ya z_v (ya (ybb ycg ydy z_v (ysj (T.Z 5))) yd)))))) (ygZ (yf (yj z_v))))),
   zfn (T.F 68 r68) (sc 68) fun _ _ _ _ _ _ hr=>(yc (yO (ysg (ymh (ycq (yfg ybm (ygt (K:=ckX _ _) T.isa) (T.Z 4) (ya z_v (ya (yeU (T.C 5)) yd)))) (ymh (ycq (yfg ybm (ygt (K:=ckX _ _) T.isa) (T.Z 4) (ya z_v (ya (yeU (T.C 6)) yd)))) (yip (ycq (yfg ybm (ygt (K:=ckX _ _) T.isa) (T.Z 4) (ya z_v (ya (yeU (T.C 7)) yd)))))))) (yf (yj (yV ymH (T.G 16) (T.k 69) (T.b 69) (ya z_v (ya z_v yd))))) yn) (yf (yj (yV (ykZ T) (T.G 11) (T.k 64) (T.b 64) (ya z_v yd))))),
   zfn (T.F 69 r69) (sc 69) fun _ _ _ _ _ _ hr=>have nd:=(sc 69 (r:=r69)).nd;(yc (yw (ybb ycg ydy z_v (ysh z_v (ykY T 45).m_long))) (yc (yw (ybb yfG yjj z_v (yV (ykY T 45).ygl (T.G 10) (T.k 60) (T.b 60) (ya (yy (T.N 23) z_v) yd)))) (yc (yw (yV yiS (T.G 14) (T.k 67) (T.b 67) (ya (yy (T.N 22) z_v) (ya (ybb ycg ydy z_v yg) yd)))) (yc (yw (yV yiS (T.G 14) (T.k 67) (T.b 67) (ya (yy (T.N 23) z_v) (ya z_v yd)))) (yf (yj (ybU (ynP ylv yrA (ybU (ynP ylv yrA (ybU (ynP ylv yrA (ybU (ybC (ya (yV (ymG T) (T.G 12) (T.k 65) (T.b 65) (ya z_v (ya z_v yd))) yd))) z_v)) (yV (yiR T) (T.G 13) (T.k 66) (T.b 66) (ya z_v (ya z_v yd))))) z_v))))))))⟩
theorem yqn:‹(92+1,70,r70,1,yeA)›:=zfn (T.F 70 r70) (sc 70) fun _ _ _ _ _ _ hr=>(yf (yj (ybU (ynP ylv yrA (yV (ytB T 45).yiN (T.G 14) (T.k 67) (T.b 67) (ya z_v (ya yg yd))) (ybU (ybC (ya (ycS (ya yB yd)) yd)))))))
theorem ygJ:‹(0+1,13,r13,2,ydC)›:=zfn (T.F 13 r13) (sc 13) fun _ _ _ _ _ _ hr=>(yf (yj (yfg (yoB rfl) yBJ (T.Z 0) (ya (ybU (ygw ["signs"] (yCv z_v) (fun _ _ _ _ _ _=>(ygY ylA yBE z_v z_v)))) yd))))
theorem ymI:‹(1+1,14,r14,1,yeO)›:=zfn (T.F 14 r14) (sc 14) fun _ _ _ _ _ _ hr=>have nd:=(sc 14 (r:=r14)).nd;(yc (yO (ysg (ymh (yff (yhP yjg yjg ytG ytG yg (yfg yee yoH (T.Z 5) (ya z_v yd)) yg)) (yip (yff (ycq (yV (ygJ T) (T.G 3) (T.k 13) (T.b 13) (ya z_v (ya (ymg T.m_FIGURES) yd)))))))) (yf (yj yjm)) yn) (yc (yO (ysg (ypa (yx ybj ydb (ybf yoy yuI z_v yg) yB) (ykx (yx ytW yDR z_v yB)))) (yf (yj yjm)) yn) (yc (yw (ysi ylB yBI (T.Z 3) (ya z_v yd))) (yf (yj (ysf (yx yhy yqu z_v (yfK T.m_WIDE)) z_v yjm))))))
theorem yqo:‹(0+1,15,r15,1,yir)›:=zfn (T.F 15 r15) (sc 15) fun _ _ _ _ _ _ hr=>(yf (yj (ygY yqZ yFk z_v (yCF (ss:=["plus","minus","times","less","same"]) T.m_WORDS T.kt_WORDS))))
theorem yqp:‹(0+1,16,r16,1,yis)›:=zfn (T.F 16 r16) (sc 16) fun _ _ _ _ _ _ hr=>(yf (yj (ypZ (ygY ybj ydb (yfg yee yoH (T.Z 5) (ya z_v yd)) yg) (ypY (ygY ylA yBE z_v (ymg T.m_SLOTS))))))
theorem yqq:‹(1+1,18,r18,1,yit)›:=zfn (T.F 18 r18) (sc 18) fun _ _ _ _ _ _ hr=>(yf (yj (ypZ (yse yjg yjg ytG ytG yg (yfg yee yoH (T.Z 5) (ya z_v yd)) yg) (ypY (yV (ygJ T) (T.G 3) (T.k 13) (T.b 13) (ya z_v (ya (ymg T.m_LETTERS) yd)))))))
theorem yiT:‹(0+1,11,r11,1,yex)›:=zfn (T.F 11 r11) (sc 11) fun _ _ _ _ _ _ hr=>(yf (yj (ypZ (yfg ybm (ygt (K:=ckX _ _) T.isa) (T.Z 4) (ya z_v (ya (yCt (T.Z 3)) yd))) (ypY (yFx (yfg ybm (ygt (K:=ckX _ _) T.isa) (T.Z 4) (ya z_v (ya (yCt (T.Z 2)) yd))))))))
theorem ymJ:‹(1+1,12,r12,1,ydo)›:=zfn (T.F 12 r12) (sc 12) fun _ _ _ _ _ _ hr=>(yf (yj (ypZ (yV (yiT T) (T.G 1) (T.k 11) (T.b 11) (ya z_v yd)) (ypY (yse yjg yhy ytG yqu yg z_v (yfK T.m_WIDE))))))
theorem ygK:FnOk P w K mg base CX0 (0+1) (t.a 71) (t.d 71) (FR.ps r71) (spI (ypA K t) 1 10 ydp):=zin (T.F 71 r71) (sc 71) rfl (by decide) fun _ _ _ _ _ _ hr=>(ybv (ybG (T.N 18) (ybU (ybo ym yM (T.Z 6) (ya z_v yd)))) (ydH (ybG (T.N 6) yg)))
theorem yom:‹(0+1,72,r72,1,yfy)›:=zfn (T.F 72 r72) (sc 72) fun _ _ _ _ _ _ hr=>(yc (yO (yx ybj ydb z_v yB) (yf (yj (ybU (ybC yd)))) yn) (yf (yj (ymi PySem.F.plainAttrs_str PySem.F.slot_str_split PySem.F.type_str_split yvw m_split z_v (ya yB yd)))))
theorem ycH:‹(0+1,73,r73,1,ybH)›:=zfn (T.F 73 r73) (sc 73) fun _ _ _ _ _ _ hr=>(yc (yO (yx yhy yqu (yy (T.N 6) z_v) (yfg ybh yeT (T.Z 5) (ya (yy (T.N 18) z_v) yd))) (yf (yj (ybf yD ybq (yy (T.N 18) z_v) (yy (T.N 6) z_v)))) yn) (yf (yj yjm)))
theorem ycI:‹(1+1,74,r74,1,ybI)›:=zfn (T.F 74 r74) (sc 74) fun _ _ _ _ _ _ hr=>have nd:=(sc 74 (r:=r74)).nd;(yc (yw (yu z_v (T.M 59) (ycH T) (T.b 73))) (yc (yO (yx you yuH z_v yjm) (yf ycr) yn) (yc (ybN (T.N 6) z_v (ybb ycg ydy (yy (T.N 6) z_v) yg)) (yf (yj z_v)))))
theorem ybs:‹(2+1,75,r75,2,yS)›:=zfn (T.F 75 r75) (sc 75) fun _ _ _ _ _ _ hr=>have nd:=(sc 75 (r:=r75)).nd;(yc (yw (yu z_v (T.M 60) (ycI T) (T.b 74))) (yf (yO (yx ytW yDR z_v z_v) (yf ycr) yn)))
theorem yL:‹(2+1,76,r76,1,yz)›:=zfn (T.F 76 r76) (sc 76) fun _ _ _ _ _ _ hr=>have nd:=(sc 76 (r:=r76)).nd;(yc (yw (yu z_v (T.M 60) (ycI T) (T.b 74))) (yc (yO (yff (ycq (yV (yqp T) (T.G 6) (T.k 16) (T.b 16) (ya z_v yd)))) (yf ycr) yn) (yf (yj z_v))))
theorem ydL:‹(2+1,77,r77,1,ybP)›:=zfn (T.F 77 r77) (sc 77) fun _ _ _ _ _ _ hr=>have nd:=(sc 77 (r:=r77)).nd;(yc (yw (yu z_v (T.M 60) (ycI T) (T.b 74))) (yc (yO (yff (ycq (yV (yqq T) (T.G 8) (T.k 18) (T.b 18) (ya z_v yd)))) (yf ycr) yn) (yf (yj z_v))))
theorem yeX:‹(2+1,78,r78,1,ybW)›:=zfn (T.F 78 r78) (sc 78) fun _ _ _ _ _ _ hr=>have nd:=(sc 78 (r:=r78)).nd;(yc (yw (yu z_v (T.M 60) (ycI T) (T.b 74))) (yc (yw (yV (ymI T) (T.G 4) (T.k 14) (T.b 14) (ya z_v yd))) (yc (yO (yx you yuH z_v yjm) (yf ycr) yn) (yf (yj z_v)))))
theorem yeY:‹(3+1,79,r79,2,ybX)›:=zfn (T.F 79 r79) (sc 79) fun _ _ _ _ _ _ hr=>have nd:=(sc 79 (r:=r79)).nd;(yc (yw (yu z_v (T.M 62) (yL T) (T.b 76))) (yc (yw (yu z_v (T.M 62) (yL T) (T.b 76))) (yc (yw (yu z_v (T.M 62) (yL T) (T.b 76))) (yf (yj (ybU (yfL (T.J 1) (ygH T) (T.C 2) (T.b 47) (ya z_v (ya z_v (ya z_v (ya z_v yd)))))))))))
theorem yfr:‹(4+1,80,r80,2,yA)›:=zfn (T.F 80 r80) (sc 80) fun _ _ _ _ _ _ hr=>have nd:=(sc 80 (r:=r80)).nd;(yc (yO (yx ybj ydb z_v yB) (yc (yw (yu z_v (T.M 62) (yL T) (T.b 76))) (yf (yj (ybU (yfL (T.J 0) (yiO T) (T.C 1) (T.b 46) (ya z_v (ya (yu z_v (T.M 64) (yeX T) (T.b 78)) yd))))))) yn) (yc (yO (yx ybj ydb z_v yB) (yc (yw (yu z_v (T.M 62) (yL T) (T.b 76))) (yf (yj (ybU (yfL (T.J 2) (yhE T) (T.C 3) (T.b 48) (ya z_v (ya (yu z_v (T.M 62) (yL T) (T.b 76)) yd))))))) yn) (yc (yO (yx ybj ydb z_v yB) (yc (yw (yu z_v (T.M 62) (yL T) (T.b 76))) (yf (yj (ybU (yfL (T.J 3) (yiP T) (T.C 4) (T.b 49) (ya z_v (ya (yu z_v (T.M 62) (yL T) (T.b 76)) yd))))))) yn) (yc (yO (yx ybj ydb z_v yB) (yc (yw (yu z_v (T.M 63) (ydL T) (T.b 77))) (yf (yj (ybU (yfL (T.J 7) (yhg T) (T.C 8) (T.b 53) (ya z_v (ya (yu z_v (T.M 62) (yL T) (T.b 76)) yd))))))) yn) (yc (yO (yx ybj ydb z_v yB) (yf (yj (ybU (yze T.mk_Wait T.io_Wait T.kp_Wait (T.C 9))))) yn) (yc (yO (ycq (yV (yqo T) (T.G 5) (T.k 15) (T.b 15) (ya z_v yd))) (yf (yj (yp z_v (T.M 72) (yeY T) (T.b 79) (ya z_v yd)))) yn) (yf ycr)))))))
theorem ytC:∀ n,yHI P w K mg base t n
 | 0=>⟨ydr,ydr,ydr,ydr,ydr,ydr⟩
 | n+1=>by
  have I:=ytC n;have ygo:=I.ydW;have ybt:=I.ygm;have ydX:=I.ygn;have yhh:=I.yhf;have yfs:=I.yfq;have ygL:=I.ygG;exact ⟨zfn (T.F 81 r81) (sc 81) fun _ _ _ _ _ _ hr=>have nd:=(sc 81 (r:=r81)).nd;(yc (yO (ysg (ymh (yx you yuH (yu z_v (T.M 59) (ycH T) (T.b 73)) yjm) (yip (yx ybj ydb (yu z_v (T.M 59) (ycH T) (T.b 73)) yB)))) (yf (yj (ybU (ybC yd)))) yn) (yc (ygc (ybC (ya (yp z_v (T.M 67) ydX (T.b 83) (ya z_v yd)) yd))) (yc (yky (yx ybj ydb (yu z_v (T.M 59) (ycH T) (T.b 73)) yB) (yc (yE (yp z_v (T.M 61) (ybs T) (T.b 75) (ya yB yd))) (yf (ymj (yp z_v (T.M 67) ydX (T.b 83) (ya z_v yd)))))) (ygZ (yf (yj z_v)))))),
   zfn (T.F 82 r82) (sc 82) fun _ _ _ _ _ _ hr=>have nd:=(sc 82 (r:=r82)).nd;(yc (yE (yp z_v (T.M 61) (ybs T) (T.b 75) (ya yB yd))) (yc (yw (yp z_v (T.M 65) ygo (T.b 81) (ya z_v yd))) (yc (yE (yp z_v (T.M 61) (ybs T) (T.b 75) (ya yB yd))) (yf (yj z_v))))),
   zfn (T.F 83 r83) (sc 83) fun _ _ _ _ _ _ hr=>have nd:=(sc 83 (r:=r83)).nd;(yc (yO (yx yqN yBC z_v (yfK T.m_MOST_AROUND)) (yf ycr) yn) (yc (yw (yu z_v (T.M 60) (ycI T) (T.b 74))) (yc (yO (yx ybj ydb z_v yB) (yf (yj (yp z_v (T.M 68) yhh (T.b 84) (ya (ybb ycg ydy z_v yg) yd)))) yn) (yc (yO (yx ybj ydb z_v yB) (yf (yj (yp z_v (T.M 69) yfs (T.b 85) (ya (ybb ycg ydy z_v yg) yd)))) yn) (yc (yO (yx ybj ydb z_v yB) (yf (yj (yp z_v (T.M 70) ygL (T.b 86) (ya (ybb ycg ydy z_v yg) yd)))) yn) (yf (yj (yp z_v (T.M 71) (yfr T) (T.b 80) (ya z_v yd))))))))),
   zfn (T.F 84 r84) (sc 84) fun _ _ _ _ _ _ hr=>have nd:=(sc 84 (r:=r84)).nd;(yc (yw (yu z_v (T.M 62) (yL T) (T.b 76))) (yc (yw (yp z_v (T.M 66) ybt (T.b 82) (ya z_v yd))) (yc (yE (yp z_v (T.M 61) (ybs T) (T.b 75) (ya yB yd))) (yc (yw (yp z_v (T.M 66) ybt (T.b 82) (ya z_v yd))) (yf (yj (ybU (yfL (T.J 4) (yjs T) (T.C 5) (T.b 50) (ya z_v (ya z_v (ya z_v yd))))))))))),
   zfn (T.F 85 r85) (sc 85) fun _ _ _ _ _ _ hr=>have nd:=(sc 85 (r:=r85)).nd;(yc (yw (yp z_v (T.M 66) ybt (T.b 82) (ya z_v yd))) (yc (yE (yp z_v (T.M 61) (ybs T) (T.b 75) (ya yB yd))) (yc (yw (yp z_v (T.M 66) ybt (T.b 82) (ya z_v yd))) (yf (yj (ybU (yfL (T.J 5) (ygI T) (T.C 6) (T.b 51) (ya z_v (ya z_v yd))))))))),
   zfn (T.F 86 r86) (sc 86) fun _ _ _ _ _ _ hr=>have nd:=(sc 86 (r:=r86)).nd;(yc (yw (yp z_v (T.M 66) ybt (T.b 82) (ya z_v yd))) (yc (yE (yp z_v (T.M 61) (ybs T) (T.b 75) (ya yB yd))) (yc (yw (yu z_v (T.M 63) (ydL T) (T.b 77))) (yc (yw (yu z_v (T.M 62) (yL T) (T.b 76))) (yc (yw (yp z_v (T.M 66) ybt (T.b 82) (ya z_v yd))) (yf (yj (ybU (yfL (T.J 6) (yiQ T) (T.C 7) (T.b 52) (ya z_v (ya z_v (ya z_v (ya z_v yd)))))))))))))⟩
theorem yAu:‹(51+1,87,r87,1,ymm)›:=zfn (T.F 87 r87) (sc 87) fun _ _ _ _ _ _ hr=>have nd:=(sc 87 (r:=r87)).nd;(yc (yw (ycp (yfL (T.J 8) (ygK T) (T.C 10) (T.b 71) (ya (yV (yom T) (T.G 18) (T.k 72) (T.b 72) (ya z_v yd)) yd)))) (yc (yw (yp z_v (T.M 65) (ytC T 45).ydW (T.b 81) (ya yg yd))) (yc (yO (yx yxM yBD (yu z_v (T.M 59) (ycH T) (T.b 73)) yjm) (yf ycr) yn) (yc (yO (yx yqN yBC (ybb ycg ydy (yV (ykY T 45).ygl (T.G 10) (T.k 60) (T.b 60) (ya z_v yd)) yg) (yfK T.m_MOST_ROWS)) (yf ycr) yn) (yf (yj z_v))))))
theorem yiU:FnOk P w K mg base CX0 (0+1) (t.a 0) (t.d 0) (FR.ps r0) (spI (ypA K t) 0 11 yfM):=zin (T.F 0 r0) (sc 0) rfl (by decide) fun _ _ _ _ _ _ hr=>(ybv (ybG (T.N 0) (ycp (ybC (ya (ycp ypc) yd)))) (ydH (ybG (T.N 1) (ycp ypc))))
theorem ymK:‹(0+1,1,r1,3,yeK)›:=zfn (T.F 1 r1) (sc 1) fun _ _ _ _ _ _ hr=>have nd:=(sc 1 (r:=r1)).nd;(yc (yw (ybf yD ybq (yy (T.N 0) z_v) (yFw yqJ yyD yg))) (yf (ynQ z_v z_v z_v)))
theorem yjT:‹(0+1,2,r2,2,yev)›:=zfn (T.F 2 r2) (sc 2) fun _ _ _ _ _ _ hr=>have nd:=(sc 2 (r:=r2)).nd;(yc (yzi (T.Z 8) (yy (T.N 0) z_v) ydn (yf (yO (yCx z_v z_v) (yf (yj (yxf z_v z_v))) yn))) (yf (yj yjm)))
theorem ymL:‹(0+1,3,r3,1,yeL)›:=zfn (T.F 3 r3) (sc 3) fun _ _ _ _ _ _ hr=>(yf (yE (ymi plainAttrs_list PySem.F.slot_list_append PySem.F.type_list_append ybM yeu (yy (T.N 0) z_v) (ya (ycp ypc) yd))))
theorem yla:‹(0+1,4,r4,1,yeg)›:=zfn (T.F 4 r4) (sc 4) fun _ _ _ _ _ _ hr=>have nd:=(sc 4 (r:=r4)).nd;(yc (yw (yvo plainAttrs_list slot_list_pop type_list_pop yoA yoO (yy (T.N 0) z_v))) (yc (yw (ybf yD ybq (yy (T.N 0) z_v) (yFw yqJ yyD yg))) (yf (yE (ymi PySem.F.plainAttrs_dict PySem.F.slot_dict_update PySem.F.type_dict_update yCE yFt z_v (ya z_v yd))))))
theorem yon:‹(0+1,5,r5,1,yfx)›:=zfn (T.F 5 r5) (sc 5) fun _ _ _ _ _ _ hr=>(yf (yE (yvo plainAttrs_list slot_list_pop type_list_pop yoA yoO (yy (T.N 0) z_v))))
theorem yqr:‹(0+1,6,r6,3,ygy)›:=zfn (T.F 6 r6) (sc 6) fun _ _ _ _ _ _ hr=>(yf (ynQ (yy (T.N 1) z_v) z_v z_v))
theorem yjU:‹(0+1,7,r7,1,yew)›:=zfn (T.F 7 r7) (sc 7) fun _ _ _ _ _ _ hr=>(yf (yj (ybU (PXS.z_sortI (yy (T.N 1) z_v) (T.Z 9)))))
theorem ymM:‹(0+1,8,r8,1,yeM)›:=zfn (T.F 8 r8) (sc 8) fun _ _ _ _ _ _ hr=>(yf (yj (ycp (PXS.z_sortI (yy (T.N 1) z_v) (T.Z 9)))))
theorem ymN:‹(0+1,9,r9,1,yeN)›:=zfn (T.F 9 r9) (sc 9) fun _ _ _ _ _ _ hr=>have nd:=(sc 9 (r:=r9)).nd;(yc (yw (ybf yD ybq (yy (T.N 0) z_v) yg)) (yf (yj (ybU (PXS.z_sortI z_v (T.Z 9))))))
theorem ygM:‹(0+1,17,r17,1,yeh)›:=zfn (T.F 17 r17) (sc 17) fun _ _ _ _ _ _ hr=>(yf (yj (ymi PySem.F.plainAttrs_str PySem.F.slot_str_find PySem.F.type_str_find yzl yuJ (ymg T.m_SLOTS) (ya z_v yd))))
theorem ybR:‹(1+1,20,r20,2,ybk)›:=zfn (T.F 20 r20) (sc 20) fun _ _ _ _ _ _ hr=>(yf (yj (ybf yD ybq (yy (T.N 2) z_v) (yV (ygM T) (T.G 7) (T.k 17) (T.b 17) (ya z_v yd)))))
theorem ydD:‹(1+1,21,r21,3,yci)›:=zfn (T.F 21 r21) (sc 21) fun _ _ _ _ _ _ hr=>(yf (ydI z_v (yy (T.N 2) z_v) (yV (ygM T) (T.G 7) (T.k 17) (T.b 17) (ya z_v yd))))
theorem ycN:‹(2+1,22,r22,2,ybV)›:=zfn (T.F 22 r22) (sc 22) fun _ _ _ _ _ _ hr=>(yf (yj (ybb ybx ycJ (yp z_v (T.M 18) (ybR T) (T.b 20) (ya z_v yd)) (yy (T.N 3) z_v))))
theorem yhF:FnOk P w K mg base CX0 (2+1) (t.a 19) (t.d 19) (FR.ps r19) (spJ (ypA K t) 2 12 yfh):=yHs (T.F 19 r19) (sc 19) rfl (by decide) fun _ _ _ _ _ _ hr=>(ybv (ybG (T.N 2) (ycp (ybo ym yM (T.Z 6) (ya z_v yd)))) (ybv (ybG (T.N 3) z_v) (ydH (ybG (T.N 4) (ycp (yzj (T.J 9) (yiU T) (T.C 11) (T.b 0)))))))
theorem ytD:‹(0+1,10,r10,3,yhR)›:=zfn (T.F 10 r10) (sc 10) fun _ _ _ _ _ _ hr=>(yc (yO (yx ybj ydb z_v yB) (yf (yj (ybb ybx ycJ (ybb ycg ydy z_v z_v) (yfK T.m_WIDE)))) yn) (yc (yO (yx ybj ydb z_v yB) (yf (yj (ybb ybx ycJ (ybb yfG yjj z_v z_v) (yfK T.m_WIDE)))) yn) (yc (yO (yx ybj ydb z_v yB) (yf (yj (ybb ybx ycJ (ybb yhl ylT z_v z_v) (yfK T.m_WIDE)))) yn) (yc (yO (yx ybj ydb z_v yB) (yf (yj (ysf (yx yhy yqu z_v z_v) yg yg))) yn) (yf (yj (ysf (yx ybj ydb z_v z_v) yg yg)))))))
theorem yhi:‹(2+1,23,r23,5,ycm)›:=zfn (T.F 23 r23) (sc 23) fun _ _ _ _ _ _ hr=>(yf (yE (yp z_v (T.M 19) (ydD T) (T.b 21) (ya z_v (ya (yV (ytD T) (T.G 0) (T.k 10) (T.b 10) (ya z_v (ya (yp z_v (T.M 18) (ybR T) (T.b 20) (ya z_v yd)) (ya (yp z_v (T.M 18) (ybR T) (T.b 20) (ya z_v yd)) yd)))) yd)))))
theorem yju:‹(3+1,24,r24,3,ydd)›:=zfn (T.F 24 r24) (sc 24) fun _ _ _ _ _ _ hr=>(yf (yE (yp (yy (T.N 4) z_v) (T.M 9) (ymK T) (T.b 1) (ya (yp z_v (T.M 20) (ycN T) (T.b 22) (ya z_v yd)) (ya (yp z_v (T.M 18) (ybR T) (T.b 20) (ya z_v yd)) yd)))))
theorem yiV:‹(3+1,25,r25,2,ydt)›:=zfn (T.F 25 r25) (sc 25) fun _ _ _ _ _ _ hr=>(yf (yj (ygY you yuH (yp (yy (T.N 4) z_v) (T.M 10) (yjT T) (T.b 2) (ya (yp z_v (T.M 20) (ycN T) (T.b 22) (ya z_v yd)) yd)) yjm)))
theorem yhG:‹(3+1,26,r26,3,ycx)›:=zfn (T.F 26 r26) (sc 26) fun _ _ _ _ _ _ hr=>(yf (yE (yp z_v (T.M 19) (ydD T) (T.b 21) (ya z_v (ya (yp (yy (T.N 4) z_v) (T.M 10) (yjT T) (T.b 2) (ya (yp z_v (T.M 20) (ycN T) (T.b 22) (ya z_v yd)) yd)) yd)))))
theorem yhj:‹(3+1,27,r27,4,ycP)›:=zfn (T.F 27 r27) (sc 27) fun _ _ _ _ _ _ hr=>have nd:=(sc 27 (r:=r27)).nd;(yc (yw (yp z_v (T.M 20) (ycN T) (T.b 22) (ya z_v yd))) (yc (yE (yp (yy (T.N 4) z_v) (T.M 14) (yqr T) (T.b 6) (ya z_v (ya (ybf yD ybq z_v z_v) yd)))) (yf (yE (yp z_v (T.M 19) (ydD T) (T.b 21) (ya z_v (ya (ybf yD ybq z_v z_v) yd)))))))
theorem ywt:‹(0+1,28,r28,2,yiu)›:=zfn (T.F 28 r28) (sc 28) fun _ _ _ _ _ _ hr=>(yc (yO (yx ybj ydb (ybf yF yX z_v yg) yB) (yf (yj (ygY ybj ydb (ybf yF yX z_v yg) yB))) yn) (yf (yj (ypZ (ygY ybj ydb (ybf yF yX z_v yg) yB) (ypY (ygY ybj ydb (ybf yF yX z_v yg) (ybf yF yX z_v yg)))))))
theorem yiW:FnOk P w K mg base CX0 (4+1) (t.a 29) (t.d 29) (FR.ps r29) (spI (ypA K t) 3 12 yes):=zin (T.F 29 r29) (sc 29) rfl (by decide) fun _ _ _ _ _ _ hr=>(ybv (yzn T.cf_Doer (T.C 13) (yhF T) (T.b 19) (ya z_v (ya z_v yd))) (ybv (ybG (T.N 5) z_v) (ybv (ybG (T.N 6) yg) (ybv (ybG (T.N 7) (ycp ypc)) (ydH (ybG (T.N 8) (ycp (ybC yd))))))))
theorem yfB:‹(0+1,30,r30,1,ydS)›:=zfn (T.F 30 r30) (sc 30) fun _ _ _ _ _ _ hr=>(yf (yj (ybf yD ybq (yy (T.N 5) z_v) (yy (T.N 6) z_v))))
theorem yft:‹(0+1,31,r31,2,ycM)›:=zfn (T.F 31 r31) (sc 31) fun _ _ _ _ _ _ hr=>(yf (yj (yfg (ypi rfl) yCr (T.Z 1) (ya (ybU (yzo ["stamps","self"] (yy (T.N 7) z_v) (fun _ _ _ _ _ _=>(ygY ytW yDR (ybf yD ybq z_v z_v) (yxf (yy (T.N 7) z_v) z_v))))) yd))))
theorem yeo:‹(1+1,32,r32,2,ybK)›:=zfn (T.F 32 r32) (sc 32) fun _ _ _ _ _ _ hr=>have nd:=(sc 32 (r:=r32)).nd;(yc (yw (yfg ybh yeT (T.Z 5) (ya (yy (T.N 8) z_v) yd))) (yc (yky (ysg (ypa (yx yqN yBC z_v yg) (ykx (yff (ycq (yV (ywt T) (T.G 9) (T.k 28) (T.b 28) (ya (ybf yF yX (ybf yD ybq (yy (T.N 8) z_v) (ybb yfG yjj z_v yg)) yg) (ya z_v yd)))))))) (yf (yw (ybb yfG yjj z_v yg)))) (yf (yj z_v))))
theorem yfu:‹(4+1,33,r33,1,ybD)›:=zfn (T.F 33 r33) (sc 33) fun _ _ _ _ _ _ hr=>have nd:=(sc 33 (r:=r33)).nd;(yc (yw (yu z_v (T.M 26) (yfB T) (T.b 30))) (yc (yO (yx ybj ydb (ybf yF yX z_v yg) yB) (yf (yj (yp z_v (T.M 23) (yiV T) (T.b 25) (ya (ybf yF yX z_v yg) yd)))) yn) (yc (yO (ysg (ymh (yx ybj ydb (ybf yF yX z_v yg) yB) (yip (yx ybj ydb (ybf yF yX z_v yg) yB)))) (yf (yj (ygY ybj ydb (yp z_v (T.M 28) (yeo T) (T.b 32) (ya z_v yd)) yg))) yn) (yf (yj (ygY ybj ydb (ybf yF yX z_v yg) yB))))))
theorem yiX:‹(4+1,34,r34,3,ydu)›:=zfn (T.F 34 r34) (sc 34) fun _ _ _ _ _ _ hr=>have nd:=(sc 34 (r:=r34)).nd;(yc (yw (yu z_v (T.M 26) (yfB T) (T.b 30))) (yc (yw (yp z_v (T.M 20) (ycN T) (T.b 22) (ya (ybf yF yX z_v yg) yd))) (yc (ynQ (yy (T.N 7) z_v) z_v (ybf yD ybq z_v z_v)) (yc (yE (yp z_v (T.M 25) (yhj T) (T.b 27) (ya (ybf yF yX z_v yg) (ya (ybf yF yX z_v yg) (ya z_v yd))))) (yc (ybN (T.N 6) z_v (ybb ycg ydy (yy (T.N 6) z_v) yg)) (yf (yj z_v)))))))
theorem yiY:‹(4+1,35,r35,2,yH)›:=zfn (T.F 35 r35) (sc 35) fun _ _ _ _ _ _ hr=>(yf (yO (yx ybj ydb (ybf yF yX z_v yg) yB) (yf (yE (yp z_v (T.M 19) (ydD T) (T.b 21) (ya (ybf yF yX z_v yg) (ya (ybf yF yX z_v yg) yd))))) (yf (yO (yx ybj ydb (ybf yF yX z_v yg) yB) (yf (yE (yp z_v (T.M 24) (yhG T) (T.b 26) (ya (ybf yF yX z_v yg) (ya (ybf yF yX z_v yg) yd))))) (yf (yO (yx ybj ydb (ybf yF yX z_v yg) yB) (yf (yE (yp z_v (T.M 21) (yju T) (T.b 24) (ya (ybf yF yX z_v yg) (ya (ybf yF yX z_v yg) yd))))) (yf (yE (yp z_v (T.M 22) (yhi T) (T.b 23) (ya (ybf yF yX z_v yg) (ya (ybf yF yX z_v yg) (ya (ybf yF yX z_v yg) (ya (ybf yF yX z_v yg) yd)))))))))))))
theorem yoo:‹(2+1,36,r36,2,ycd)›:=zfn (T.F 36 r36) (sc 36) fun _ _ _ _ _ _ hr=>(yf (yO (yx ybj ydb (ybf yF yX z_v yg) yB) (yf (ybN (T.N 6) z_v (ybf yF yX z_v yg))) (yf (yO (yx ybj ydb (yp z_v (T.M 18) (ybR T) (T.b 20) (ya (ybf yF yX z_v yg) yd)) yg) (yf (ybN (T.N 6) z_v (ybf yF yX z_v yg))) yn))))
theorem yhw:‹(2+1,37,r37,2,ycy)›:=zfn (T.F 37 r37) (sc 37) fun _ _ _ _ _ _ hr=>have nd:=(sc 37 (r:=r37)).nd;(yc (yw (yp z_v (T.M 28) (yeo T) (T.b 32) (ya z_v yd))) (yc (yw (ybf yD ybq (yy (T.N 8) z_v) (ybb yfG yjj z_v yg))) (yc (yky (yx yEp yHf (yfg ybh yeT (T.Z 5) (ya (yy (T.N 8) z_v) yd)) z_v) (yc (yE (yvo plainAttrs_list slot_list_pop type_list_pop yoA yoO (yy (T.N 8) z_v))) (yf (yE (yu (yy (T.N 4) z_v) (T.M 13) (yon T) (T.b 5)))))) (yc (yw (ybf yF yX z_v yg)) (yc (ybN (T.N 2) z_v (ycp (ybo ym yM (T.Z 6) (ya (ybf yF yX z_v yg) yd)))) (yc (ybN (T.N 6) z_v (ybf yF yX z_v (yFw yqJ yyD yg))) (yf (yj z_v))))))))
theorem ymO:‹(3+1,38,r38,2,ycT)›:=zfn (T.F 38 r38) (sc 38) fun _ _ _ _ _ _ hr=>have nd:=(sc 38 (r:=r38)).nd;(yc (yw (yp z_v (T.M 18) (ybR T) (T.b 20) (ya (ybf yF yX z_v yg) yd))) (yc (yw (yp z_v (T.M 35) (yhw T) (T.b 37) (ya z_v yd))) (yf (yE (yp z_v (T.M 19) (ydD T) (T.b 21) (ya (ybf yF yX z_v yg) (ya z_v yd)))))))
theorem ytE:‹(5+1,39,r39,1,ycs)›:=zfn (T.F 39 r39) (sc 39) fun _ _ _ _ _ _ hr=>have nd:=(sc 39 (r:=r39)).nd;(yc (yw (yu z_v (T.M 26) (yfB T) (T.b 30))) (yc (ybN (T.N 6) z_v (ybb ycg ydy (yy (T.N 6) z_v) yg)) (yf (yO (yx ybj ydb (ybf yF yX z_v yg) yB) (yf (yE (yp z_v (T.M 35) (yhw T) (T.b 37) (ya z_v yd)))) (yf (yO (yx ybj ydb (ybf yF yX z_v yg) yB) (yf (yE (yp z_v (T.M 34) (ymO T) (T.b 38) (ya z_v yd)))) (yf (yO (ysg (ymh (yx ybj ydb (ybf yF yX z_v yg) yB) (yip (yx ybj ydb (ybf yF yX z_v yg) yB)))) (yf (yE (yp z_v (T.M 33) (yoo T) (T.b 36) (ya z_v yd)))) (yf (yO (ysg (ymh (yx ybj ydb (ybf yF yX z_v yg) yB) (yip (yx ybj ydb (ybf yF yX z_v yg) yB)))) (yc (yE (ymi plainAttrs_list PySem.F.slot_list_append PySem.F.type_list_append ybM yeu (yy (T.N 8) z_v) (ya (ycS (ya z_v (ya (ybU (ybo ym yM (T.Z 6) (ya (yy (T.N 2) z_v) yd))) yd))) yd))) (yf (yE (yu (yy (T.N 4) z_v) (T.M 11) (ymL T) (T.b 3))))) (yf (yO (yx ybj ydb (ybf yF yX z_v yg) yB) (yc (yE (yvo plainAttrs_list slot_list_pop type_list_pop yoA yoO (yy (T.N 8) z_v))) (yf (yE (yu (yy (T.N 4) z_v) (T.M 12) (yla T) (T.b 4))))) (yf (yE (yp z_v (T.M 32) (yiY T) (T.b 35) (ya z_v yd))))))))))))))))
theorem yeS:‹(0+1,40,r40,1,ycz)›:=zfn (T.F 40 r40) (sc 40) fun _ _ _ _ _ _ hr=>(yc (yO (yx ybj ydb (yy (T.N 10) z_v) (yfg ybh yeT (T.Z 5) (ya (yy (T.N 9) z_v) yd))) (yf (yj yB)) yn) (yf (yj (ysf (ycq (yy (T.N 11) z_v)) yB yB))))
theorem ydY:‹(6+1,41,r41,1,ycn)›:=zfn (T.F 41 r41) (sc 41) fun _ _ _ _ _ _ hr=>have nd:=(sc 41 (r:=r41)).nd;(yc (yw (ysf (yx yhy yqu (yy (T.N 10) z_v) (yfg ybh yeT (T.Z 5) (ya (yy (T.N 9) z_v) yd))) (ybf yD ybq (yy (T.N 9) z_v) (yy (T.N 10) z_v)) (ybU (ybC yd)))) (yf (yj (ycp (yfL (T.J 10) (yiW T) (T.C 12) (T.b 29) (ya z_v (ya (yy (T.N 12) z_v) (ya (yy (T.N 3) z_v) yd))))))))
theorem yep:‹(7+1,42,r42,1,yce)›:=zfn (T.F 42 r42) (sc 42) fun _ _ _ _ _ _ hr=>(yc (ybN (T.N 11) z_v yAC) (yf (ybN (T.N 13) z_v (yu z_v (T.M 37) (ydY T) (T.b 41)))))
theorem ygp:‹(0+1,43,r43,1,yct)›:=zfn (T.F 43 r43) (sc 43) fun _ _ _ _ _ _ hr=>(yf (ybN (T.N 11) z_v yAC))
theorem ylb:‹(7+1,44,r44,2,yei)›:=zfn (T.F 44 r44) (sc 44) fun _ _ _ _ _ _ hr=>(yc (ybN (T.N 10) z_v (ybb ycg ydy (yy (T.N 10) z_v) yg)) (yc (ybN (T.N 12) z_v (ybU (ybo ym yM (T.Z 6) (ya z_v yd)))) (yf (ybN (T.N 13) z_v (yu z_v (T.M 37) (ydY T) (T.b 41))))))
theorem yhH:‹(7+1,45,r45,3,ybO)›:=zfn (T.F 45 r45) (sc 45) fun _ _ _ _ _ _ hr=>(yc (ybN (T.N 9) z_v (ybU (ybo ym yM (T.Z 6) (ya z_v yd)))) (yc (ybN (T.N 3) z_v z_v) (yc (ybN (T.N 10) z_v yg) (yc (ybN (T.N 11) z_v yAC) (yc (ybN (T.N 12) z_v (ybU (ynP ywG yBH (ybU (ybC (ya yg yd))) (yfg yee yoH (T.Z 5) (ya (ymg T.m_SLOTS) yd))))) (yf (ybN (T.N 13) z_v (yu z_v (T.M 37) (ydY T) (T.b 41)))))))))
theorem yjv:‹(2+1,88,r88,1,ydM)›:=zfn (T.F 88 r88) (sc 88) fun _ _ _ _ _ _ hr=>(yc (yO (yff (yhP yjg yjg ytG ytG yg (yfg ybh yeT (T.Z 5) (ya z_v yd)) (yfK T.m_MOST_BOXES))) (yf ycr) yn) (yf (yO (yff (ycq (yfg (yoB rfl) yBJ (T.Z 0) (ya (ybU (ygd [] z_v (fun _ _ _ _ _ _=>(yV (ymJ T) (T.G 2) (T.k 12) (T.b 12) (ya z_v yd))))) yd)))) (yf ycr) yn)))
theorem yhI:‹(93+1,89,r89,1,ycB)›:=zfn (T.F 89 r89) (sc 89) fun _ _ _ _ _ _ hr=>(yf (yj (ybU (ygd [] z_v (fun _ _ _ _ _ _=>(yV (yqn T) (T.G 17) (T.k 70) (T.b 70) (ya (yV (yAu T) (T.G 19) (T.k 87) (T.b 87) (ya z_v yd)) yd)))))))
theorem yhJ:‹(94+1,90,r90,1,ycC)›:=zfn (T.F 90 r90) (sc 90) fun _ _ _ _ _ _ hr=>(yc (yO (yff (yhP yjg yjg ytG ytG yg (yfg ybh yeT (T.Z 5) (ya z_v yd)) (yfK T.m_MOST_HANDS))) (yf ycr) yn) (yc (yO (ycq (yfg (ypi rfl) yCr (T.Z 1) (ya (ybU (ygd [] z_v (fun _ _ _ _ _ _=>(ygY yqN yBC (yfg ybh yeT (T.Z 5) (ya z_v yd)) (yfK T.m_MOST_DEEDS))))) yd))) (yf ycr) yn) (yf (yj (ybU (ygd [] z_v (fun _ _ _ _ _ _=>(yV (yhI T) (T.G 21) (T.k 89) (T.b 89) (ya z_v yd)))))))))
theorem ydK:‹(95+1,91,r91,3,yZ)›:=zfn (T.F 91 r91) (sc 91) fun _ _ _ _ _ _ hr=>(yc (yE (yV (yjv T) (T.G 20) (T.k 88) (T.b 88) (ya z_v yd))) (yc (ybN (T.N 14) z_v (ycp (ybo ym yM (T.Z 6) (ya z_v yd)))) (yc (ybN (T.N 15) z_v (ycp (ynP ywG yBH (ybU (ybC (ya yg yd))) (yfg ybh yeT (T.Z 5) (ya z_v yd))))) (yc (ybN (T.N 16) z_v (ycp (ygw ["boxes"] (ydG (yV (yhJ T) (T.G 22) (T.k 90) (T.b 90) (ya z_v yd))) (fun _ _ _ _ _ _=>(ykz (T.J 12) (yhH T) (T.C 14) (T.b 45) (ya z_v (ya (yfg ybh yeT (T.Z 5) (ya z_v yd)) yd))))))) (yf (ybN (T.N 17) z_v (ycp (ybC yd))))))))
theorem ylc:‹(0+1,92,r92,1,ycD)›:=zfn (T.F 92 r92) (sc 92) fun _ _ _ _ _ _ hr=>(yf (yj (ybU (ybo ym yM (T.Z 6) (ya (yy (T.N 14) z_v) yd)))))
theorem yjw:‹(0+1,93,r93,1,ycj)›:=zfn (T.F 93 r93) (sc 93) fun _ _ _ _ _ _ hr=>(yf (yj (ybU (ybo ym yM (T.Z 6) (ya (yy (T.N 15) z_v) yd)))))
theorem ybS:‹(1+1,94,r94,2,ybe)›:=zfn (T.F 94 r94) (sc 94) fun _ _ _ _ _ _ hr=>(yc (yO (ysg (ymh (yff (ycq (yV (yiT T) (T.G 1) (T.k 11) (T.b 11) (ya z_v yd)))) (yip (yff (yhP yjg yhy ytG yqu yg z_v (yfg ybh yeT (T.Z 5) (ya (yy (T.N 16) z_v) yd))))))) (yf ycr) yn) (yf (yj (ybf yD ybq (yy (T.N 16) z_v) z_v))))
theorem yle:‹(2+1,95,r95,2,ycW)›:=zfn (T.F 95 r95) (sc 95) fun _ _ _ _ _ _ hr=>(yf (yj (yu (yp z_v (T.M 43) (ybS T) (T.b 94) (ya z_v yd)) (T.M 36) (yeS T) (T.b 40))))
theorem ylf:‹(2+1,96,r96,2,ycX)›:=zfn (T.F 96 r96) (sc 96) fun _ _ _ _ _ _ hr=>(yf (yj (yy (T.N 10) (yp z_v (T.M 43) (ybS T) (T.b 94) (ya z_v yd)))))
theorem ylg:‹(2+1,97,r97,2,ycE)›:=zfn (T.F 97 r97) (sc 97) fun _ _ _ _ _ _ hr=>(yf (yj (ybU (ybo ym yM (T.Z 6) (ya (yy (T.N 2) (yy (T.N 13) (yp z_v (T.M 43) (ybS T) (T.b 94) (ya z_v yd)))) yd)))))
theorem yop:‹(2+1,98,r98,2,ydN)›:=zfn (T.F 98 r98) (sc 98) fun _ _ _ _ _ _ hr=>(yf (yj (yu (yy (T.N 4) (yy (T.N 13) (yp z_v (T.M 43) (ybS T) (T.b 94) (ya z_v yd)))) (T.M 15) (yjU T) (T.b 7))))
theorem yiZ:‹(0+1,99,r99,1,yca)›:=zfn (T.F 99 r99) (sc 99) fun _ _ _ _ _ _ hr=>(yf (yj (ybU (ygd [] (yy (T.N 17) z_v) (fun _ _ _ _ _ _=>(ycS (ya (ybf yF yX z_v yg) (ya (ybf yF yX z_v yg) (ya (ybf yF yX z_v yg) (ya (ybU (ybo ym yM (T.Z 6) (ya (ybf yF yX z_v yg) yd))) (ya (ybU (ybo ym yM (T.Z 6) (ya (ybf yF yX z_v yg) yd))) (ya (ybU (ybo ym yM (T.Z 6) (ya (ybf yF yX z_v yg) yd))) yd))))))))))))
theorem yja:‹(0+1,100,r100,1,ydw)›:=zfn (T.F 100 r100) (sc 100) fun _ _ _ _ _ _ hr=>(yf (yj (ycp (ybo ym yM (T.Z 6) (ya (yy (T.N 14) z_v) yd)))))
theorem yhK:‹(0+1,101,r101,1,yde)›:=zfn (T.F 101 r101) (sc 101) fun _ _ _ _ _ _ hr=>(yf (yj (ycp (ybo ym yM (T.Z 6) (ya (yy (T.N 15) z_v) yd)))))
theorem yjb:‹(2+1,102,r102,2,ydx)›:=zfn (T.F 102 r102) (sc 102) fun _ _ _ _ _ _ hr=>(yf (yj (ycp (ybo ym yM (T.Z 6) (ya (yy (T.N 2) (yy (T.N 13) (yp z_v (T.M 43) (ybS T) (T.b 94) (ya z_v yd)))) yd)))))
theorem ylh:‹(2+1,103,r103,2,yek)›:=zfn (T.F 103 r103) (sc 103) fun _ _ _ _ _ _ hr=>(yf (yj (yu (yy (T.N 4) (yy (T.N 13) (yp z_v (T.M 43) (ybS T) (T.b 94) (ya z_v yd)))) (T.M 17) (ymM T) (T.b 8))))
theorem yhk:‹(0+1,104,r104,1,ycQ)›:=zfn (T.F 104 r104) (sc 104) fun _ _ _ _ _ _ hr=>(yf (yj (ycp (ygd [] (yy (T.N 17) z_v) (fun _ _ _ _ _ _=>(ycS (ya (ybf yF yX z_v yg) (ya (ybf yF yX z_v yg) (ya (ybf yF yX z_v yg) (ya (ycp (ybo ym yM (T.Z 6) (ya (ybf yF yX z_v yg) yd))) (ya (ycp (ybo ym yM (T.Z 6) (ya (ybf yF yX z_v yg) yd))) (ya (ycp (ybo ym yM (T.Z 6) (ya (ybf yF yX z_v yg) yd))) yd))))))))))))
theorem ygN:‹(8+1,105,r105,1,ybL)›:=zfn (T.F 105 r105) (sc 105) fun _ _ _ _ _ _ hr=>have nd:=(sc 105 (r:=r105)).nd;(yf (ysn (yy (T.N 16) z_v) ydn (yf (yO (ysg (ypa (yx ybj ydb (yu z_v (T.M 36) (yeS T) (T.b 40)) yB) (ykx (ycq (yp (yy (T.N 13) z_v) (T.M 27) (yft T) (T.b 31) (ya (yy (T.N 15) z_v) yd)))))) (yf (yE (yu z_v (T.M 38) (yep T) (T.b 42)))) yn))))
theorem yeW:‹(8+1,106,r106,5,ycF)›:=zfn (T.F 106 r106) (sc 106) fun _ _ _ _ _ _ hr=>have nd:=(sc 106 (r:=r106)).nd;(yc (yw (ybf yD ybq (yy (T.N 16) z_v) z_v)) (yc (yE (ymi plainAttrs_list PySem.F.slot_list_append PySem.F.type_list_append ybM yeu (yy (T.N 17) z_v) (ya (ycS (ya z_v (ya (yy (T.N 10) z_v) (ya z_v (ya (yu (yy (T.N 4) (yy (T.N 13) z_v)) (T.M 15) (yjU T) (T.b 7)) (ya z_v (ya (ybU (ybo ym yM (T.Z 6) (ya z_v yd))) yd))))))) yd))) (yf (yE (yp z_v (T.M 40) (ylb T) (T.b 44) (ya z_v yd))))))
theorem yhL:‹(9+1,107,r107,2,ydf)›:=zfn (T.F 107 r107) (sc 107) fun _ _ _ _ _ _ hr=>have nd:=(sc 107 (r:=r107)).nd;(yc (yw (yy (T.N 13) (ybf yD ybq (yy (T.N 16) z_v) z_v))) (yc (yw (yu (yy (T.N 4) z_v) (T.M 16) (ymN T) (T.b 9))) (yc (ygx (ydG z_v) ydn (yc (yw (ybf yF yX z_v yg)) (yc (ydI (ybf yF yX z_v yg) (yy (T.N 14) z_v) z_v) (yf (ydI (ybb ycg ydy (ybf yD ybq (yy (T.N 15) z_v) z_v) yg) (yy (T.N 15) z_v) z_v))))) (yc (yE (yp z_v (T.M 50) (yeW T) (T.b 106) (ya z_v (ya (ycS (ya yB yd)) (ya z_v (ya (yy (T.N 2) z_v) yd)))))) (yf (yE (yu z_v (T.M 49) (ygN T) (T.b 105))))))))
theorem yeC:‹(10+1,108,r108,3,yU)›:=zfn (T.F 108 r108) (sc 108) fun _ _ _ _ _ _ hr=>have nd:=(sc 108 (r:=r108)).nd;(yc (yw (ybf yD ybq (yy (T.N 16) z_v) z_v)) (yc (yw (yu (yy (T.N 13) z_v) (T.M 26) (yfB T) (T.b 30))) (yc (yO (yx ybj ydb (ybf yF yX z_v yg) yB) (yc (yw (yp (yy (T.N 13) z_v) (T.M 30) (yiX T) (T.b 34) (ya (yy (T.N 14) z_v) (ya (yy (T.N 15) z_v) yd)))) (yf (yj (ycS (ya yB (ya z_v (ya z_v (ya (ybf yD ybq (yy (T.N 14) z_v) z_v) yd)))))))) yn) (yc (yO (yx ybj ydb (ybf yF yX z_v yg) yB) (yc (yE (yu z_v (T.M 39) (ygp T) (T.b 43))) (yf (yj (ycS (ya yB (ya z_v yd)))))) yn) (yc (yO (yx ybj ydb (ybf yF yX z_v yg) yB) (yc (yE (yp z_v (T.M 50) (yeW T) (T.b 106) (ya z_v (ya (ycS (ya yB (ya (ybf yF yX z_v yg) (ya (yp (yy (T.N 13) z_v) (T.M 18) (ybR T) (T.b 20) (ya (ybf yF yX z_v yg) yd)) yd)))) (ya (ybU (ybC yd)) (ya (yy (T.N 12) z_v) yd)))))) (yf (yj (ycS (ya yB (ya z_v yd)))))) yn) (yc (yE (yp z_v (T.M 51) (yhL T) (T.b 107) (ya z_v yd))) (yf (yj (ycS (ya yB (ya z_v yd)))))))))))
theorem yhx:‹(11+1,109,r109,2,yK)›:=zfn (T.F 109 r109) (sc 109) fun _ _ _ _ _ _ hr=>have nd:=(sc 109 (r:=r109)).nd;(yc (yw (yp z_v (T.M 43) (ybS T) (T.b 94) (ya z_v yd))) (yc (yO (yx ytW yDR (yu z_v (T.M 36) (yeS T) (T.b 40)) yB) (yf (yj (ycS (ya yB yd)))) yn) (yc (yw (yy (T.N 6) (yy (T.N 13) z_v))) (yc (yO (yff (ycq (yu (yy (T.N 13) z_v) (T.M 29) (yfu T) (T.b 33)))) (yc (yE (yu (yy (T.N 13) z_v) (T.M 31) (ytE T) (T.b 39))) (yf (yj (ycS (ya yB (ya z_v yd)))))) yn) (yc (yO (ycq (yp (yy (T.N 13) z_v) (T.M 27) (yft T) (T.b 31) (ya (yy (T.N 15) z_v) yd))) (yc (yE (yu z_v (T.M 38) (yep T) (T.b 42))) (yf (yj (ycS (ya yB (ya z_v yd)))))) yn) (yf (yj (yp z_v (T.M 52) (yeC T) (T.b 108) (ya z_v (ya z_v yd))))))))))
theorem ydZ:‹(0+1,110,r110,2,ybl)›:=zfn (T.F 110 r110) (sc 110) fun _ _ _ _ _ _ hr=>(yc (yO (yx yhy yqu z_v (yfg ybh yeT (T.Z 5) (ya z_v yd))) (yf (yj (ybf yD ybq z_v z_v))) yn) (yf (yj yg)))
theorem yeD:‹(0+1,111,r111,1,ybA)›:=zfn (T.F 111 r111) (sc 111) fun _ _ _ _ _ _ hr=>have nd:=(sc 111 (r:=r111)).nd;(yc (yw (ybb ycv yfd z_v yg)) (yc (yO (yx ybj ydb (ybb ybx ycJ z_v yg) yg) (yf (yj (ybb ybx ycJ z_v yg))) yn) (yc (yO (yx ybj ydb (ybb ybx ycJ z_v yg) yg) (yf (yj (ybb yfG yjj (ybb yfG yjj (ybb ywz yBB yg yg) yg) (ybb ybx ycJ z_v yg)))) yn) (yf (yj (ybb ybx ycJ z_v (ybb ywz yBB yg yg)))))))
theorem ygO:‹(0+1,112,r112,2,ych)›:=zfn (T.F 112 r112) (sc 112) fun _ _ _ _ _ _ hr=>have nd:=(sc 112 (r:=r112)).nd;(yc (yw (ybU (ybC (ya (ybf yoy yuI yB (ybb ybx ycJ (ybb ycv yfd z_v yg) yg)) (ya (ybf yoy yuI yB (ybb ybx ycJ (ybb ycv yfd z_v yg) yg)) (ya (ybf yoy yuI yB (ybb ybx ycJ (ybb ycv yfd z_v yg) yg)) yd)))))) (yc (yw (ybb ybx ycJ z_v yg)) (yc (yO (yx ybj ydb z_v yg) (yf (yj (ybb yr ybi (ybb yr ybi (ybb yr ybi yB (ybf yD ybq z_v yg)) yB) (ysi yed yoI (T.Z 10) (ya z_v yd))))) yn) (yc (yO (yx ybj ydb z_v yg) (yc (yw (ybf yD ybq (ybU (ybC (ya yB (ya yB (ya yB (ya yB (ya yB yd))))))) (ybb ybx ycJ (ybb ycv yfd z_v yg) yg))) (yf (yj (ybb yr ybi (ybb yr ybi (ybb yr ybi (ybb yr ybi (ybb yr ybi (ybb yr ybi z_v yB) (ybf yD ybq z_v yg)) yB) (ybf yD ybq z_v yg)) yB) (ybf yD ybq z_v yg))))) yn) (yc (yO (yx ybj ydb z_v yg) (yf (yj (ybb yr ybi (ybb yr ybi (ybb yr ybi yB (ybf yD ybq z_v yg)) yB) (ybf yD ybq z_v yg)))) yn) (yc (yO (yx ybj ydb z_v yg) (yf (yj (ybb yr ybi (ybb yr ybi (ybb yr ybi yB (ybf yD ybq z_v yg)) yB) (ybf yD ybq z_v yg)))) yn) (yc (yO (yx yhy yqu z_v yg) (yf (yj (ybb yr ybi (ybb yr ybi yB (ysi yed yoI (T.Z 10) (ya (ybb ybx ycJ (ybb ycv yfd z_v yg) yg) yd))) yB))) yn) (yc (yO (yx ybj ydb z_v yg) (yf (yj (ybb yr ybi (ybb yr ybi yB (ysi yed yoI (T.Z 10) (ya (ybb ybx ycJ (ybb ycv yfd z_v yg) yg) yd))) yB))) yn) (yf (yj yB))))))))))
theorem yli:‹(1+1,113,r113,1,ycY)›:=zfn (T.F 113 r113) (sc 113) fun _ _ _ _ _ _ hr=>have nd:=(sc 113 (r:=r113)).nd;(yc (yw (ybb ybx ycJ (ybb yhl ylT z_v yg) yg)) (yc (yw (ybb ybx ycJ (ybb yhl ylT (ybb ycg ydy (ybb ycv yfd z_v yg) yg) yg) yg)) (yc (yw (yV (yeD T) (T.G 24) (T.k 111) (T.b 111) (ya (ybb ycv yfd z_v yg) yd))) (yc (yw (yV (ygO T) (T.G 25) (T.k 112) (T.b 112) (ya z_v (ya z_v yd)))) (yc (yw (yV (ygO T) (T.G 25) (T.k 112) (T.b 112) (ya z_v (ya z_v yd)))) (yc (yw (ybb ybx ycJ z_v yg)) (yc (yO (yx yhy yqu z_v yg) (yf (yj (ybb yr ybi (ybb yr ybi z_v yB) z_v))) yn) (yc (yO (yx ybj ydb z_v yg) (yf (yj (ybb yr ybi (ybb yr ybi (ybb yr ybi (ybb yr ybi yB z_v) yB) z_v) yB))) yn) (yc (yO (yx yhy yqu z_v yg) (yf (yj (ybb yr ybi (ybb yr ybi (ybb yr ybi (ybb yr ybi yB z_v) yB) z_v) yB))) yn) (yc (yO (yx yhy yqu z_v yg) (yc (yw (ybf yD ybq (ybU (ybC (ya yB (ya yB yd)))) (ybb ybx ycJ z_v yg))) (yc (yw (ybb yr ybi (ybb yr ybi (ybb yr ybi (ybb yr ybi yB z_v) yB) z_v) yB)) (yf (yj (ybb yr ybi (ybb yr ybi (ybb yr ybi (ybb yr ybi (ybb yr ybi (ybb yr ybi yB z_v) yB) z_v) yB) z_v) yB))))) yn) (yc (yO (yx ybj ydb z_v yg) (yf (yj (ybb yr ybi (ybb yr ybi yB (ysi yed yoI (T.Z 10) (ya (ybb ybx ycJ z_v yg) yd))) yB))) yn) (yf (yj (ybf yD ybq (ybU (ybC (ya yB (ya yB (ya yB (ya z_v yd)))))) (ybb ybx ycJ z_v yg)))))))))))))))
theorem ylj:‹(2+1,114,r114,1,ycZ)›:=zfn (T.F 114 r114) (sc 114) fun _ _ _ _ _ _ hr=>have nd:=(sc 114 (r:=r114)).nd;(yc (ygc (ybC yd)) (yc (ygc (ybC yd)) (yc (ygx (ydG z_v) ydn (yc (ymj (yV (yli T) (T.G 26) (T.k 113) (T.b 113) (ya z_v yd))) (yf (yO (ysg (ypa (yx yqN yBC (ysj (T.Z 5)) (ybb ybx ycJ (ybb ycv yfd z_v yg) yg)) (ykx (yx yhy yqu (ysj (T.Z 5)) yg)))) (ygZ (yc (ymj (ymi PySem.F.plainAttrs_str PySem.F.slot_str_join PySem.F.type_str_join yyc yBK yB (ya z_v yd))) (yf (ygc (ybC yd))))) yn)))) (ygZ (yf (yj z_v))))))
theorem yjc:‹(3+1,115,r115,3,ydO)›:=zfn (T.F 115 r115) (sc 115) fun _ _ _ _ _ _ hr=>have nd:=(sc 115 (r:=r115)).nd;(yc (yw (ycp (ybC (ya (ybU (ybC yd)) (ya (ybU (ybC yd)) (ya (ybU (ybC yd)) (ya (ybU (ybC yd)) (ya (ybU (ybC yd)) (ya (ybU (ybC yd)) (ya (ybU (ybC yd)) yd)))))))))) (yc (ygx (yeI (T.Z 7) (ya yg yd)) ydn (yc (yw (ybb ybx ycJ (ybb ycg ydy (ybb yhl ylT z_v yg) z_v) yg)) (yc (yO (yx ybj ydb z_v yg) (yf (ydI (yu z_v (T.M 41) (ylc T) (T.b 92)) z_v yg)) yn) (yc (yO (yx ybj ydb z_v yg) (yf (ydI (yu z_v (T.M 42) (yjw T) (T.b 93)) z_v yg)) yn) (yc (yO (yx ybj ydb z_v yg) (yf (ydI (yu z_v (T.M 48) (yiZ T) (T.b 99)) z_v yg)) yn) (yc (yO (yx ybj ydb z_v yg) (yf (ydI (ybU (ygw ["_law_hall"] (yeI (T.Z 7) (ya z_v yd)) (fun _ _ _ _ _ _=>(yp z_v (T.M 44) (yle T) (T.b 95) (ya z_v yd))))) z_v yg)) yn) (yc (yO (yx ybj ydb z_v yg) (yf (ydI (ybU (ygw ["_law_hall"] (yeI (T.Z 7) (ya z_v yd)) (fun _ _ _ _ _ _=>(yp z_v (T.M 46) (ylg T) (T.b 97) (ya z_v yd))))) z_v yg)) yn) (yc (yO (yx ybj ydb z_v yg) (yf (ydI (ybU (ygw ["_law_hall"] (yeI (T.Z 7) (ya z_v yd)) (fun _ _ _ _ _ _=>(yp z_v (T.M 47) (yop T) (T.b 98) (ya z_v yd))))) z_v yg)) yn) (yf (yO (yx ybj ydb z_v yg) (yf (ydI (ybU (ygw ["_law_hall"] (yeI (T.Z 7) (ya z_v yd)) (fun _ _ _ _ _ _=>(yp z_v (T.M 45) (ylf T) (T.b 96) (ya z_v yd))))) z_v yg)) yn)))))))))) (yf (yj z_v))))
theorem ymP:‹(0+1,116,r116,1,ycU)›:=zfn (T.F 116 r116) (sc 116) fun _ _ _ _ _ _ hr=>have nd:=(sc 116 (r:=r116)).nd;(yc (ygc (ybC yd)) (yc (ygx (ydG (ybf yD ybq z_v yg)) ydn (yf (ymj (ycS (ya (ybf yF yX z_v yg) (ya (ybf yF yX z_v yg) (ya (ybf yF yX z_v yg) (ya (ybU (ybo ym yM (T.Z 6) (ya (ybf yF yX z_v yg) yd))) (ya (ybU (ybo ym yM (T.Z 6) (ya (ybf yF yX z_v yg) yd))) (ya (ybU (ybo ym yM (T.Z 6) (ya (ybf yF yX z_v yg) yd))) yd)))))))))) (yc (yhQ [] (ydG (ybf yD ybq z_v yg)) (fun _ _ _ _ _ _=>(ybU (ybo ym yM (T.Z 6) (ya z_v yd))))) (yc (yhQ [] (ydG (ybf yD ybq z_v yg)) (fun _ _ _ _ _ _=>(ybU (ybo ym yM (T.Z 6) (ya z_v yd))))) (ygZ (yf (yj (ybU (ybC (ya (ybU (ybo ym yM (T.Z 6) (ya (ybf yD ybq z_v yg) yd))) (ya (ybU (ybo ym yM (T.Z 6) (ya (ybf yD ybq z_v yg) yd))) (ya z_v (ya (ybU (ybo ym yM (T.Z 6) (ya (ybf yD ybq z_v yg) yd))) (ya z_v (ya z_v (ya (ybU (ybo ym yM (T.Z 6) (ya (ybf yD ybq z_v yg) yd))) yd))))))))))))))))
theorem ylk:‹(3+1,117,r117,2,ycG)›:=zfn (T.F 117 r117) (sc 117) fun _ _ _ _ _ _ hr=>have nd:=(sc 117 (r:=r117)).nd;(yc (yE (ymi plainAttrs_list PySem.F.slot_list_append PySem.F.type_list_append ybM yeu (yu z_v (T.M 54) (yja T) (T.b 100)) (ya yg yd))) (yc (yw (yu z_v (T.M 55) (yhK T) (T.b 101))) (yc (ydI yg z_v yg) (yc (yw (yu z_v (T.M 58) (yhk T) (T.b 104))) (yc (ysn z_v ydn (yc (yE (ymi plainAttrs_list PySem.F.slot_list_append PySem.F.type_list_append ybM yeu (ybf yF yX z_v yg) (ya (ycS (ya yg (ya yg yd))) yd))) (yc (yE (ymi plainAttrs_list PySem.F.slot_list_append PySem.F.type_list_append ybM yeu (ybf yF yX z_v yg) (ya (ycS (ya yg (ya yg yd))) yd))) (yf (yE (ymi plainAttrs_list PySem.F.slot_list_append PySem.F.type_list_append ybM yeu (ybf yF yX z_v yg) (ya yg yd))))))) (yc (yE (ymi plainAttrs_list PySem.F.slot_list_append PySem.F.type_list_append ybM yeu z_v (ya yg yd))) (yf (ygx (yeI (T.Z 7) (ya z_v yd)) ydn (yc (yE (ymi plainAttrs_list PySem.F.slot_list_append PySem.F.type_list_append ybM yeu (yp z_v (T.M 56) (yjb T) (T.b 102) (ya z_v yd)) (ya yg yd))) (yf (yE (ymi plainAttrs_list PySem.F.slot_list_append PySem.F.type_list_append ybM yeu (yp z_v (T.M 57) (ylh T) (T.b 103) (ya z_v yd)) (ya (ycS (ya yg (ya yg yd))) yd)))))))))))))
theorem ygP:‹(97+1,118,r118,4,ybZ)›:=zfn (T.F 118 r118) (sc 118) fun _ _ _ _ _ _ hr=>have nd:=(sc 118 (r:=r118)).nd;(yc (yw (ykz (T.J 13) (ydK T) (T.C 15) (T.b 91) (ya (ycp (ybo ym yM (T.Z 6) (ya z_v yd))) (ya (ycp (ygw [] (ydG z_v) (fun _ _ _ _ _ _=>(ycp (ybo ym yM (T.Z 6) (ya z_v yd)))))) yd)))) (yf (yj (ygY (yCz (ype hr)) yFp (ybU (ygd ["_law_hall"] z_v (fun _ _ _ _ _ _=>(yp z_v (T.M 53) (yhx T) (T.b 109) (ya z_v yd))))) z_v))))
theorem yfQ:‹(12+1,119,r119,5,ydg)›:=zfn (T.F 119 r119) (sc 119) fun _ _ _ _ _ _ hr=>(yc (yE (ymi plainAttrs_list PySem.F.slot_list_append PySem.F.type_list_append ybM yeu (ybf yD ybq z_v z_v) (ya z_v yd))) (yf (yE (ymi plainAttrs_list PySem.F.slot_list_append PySem.F.type_list_append ybM yeu (ybf yD ybq z_v z_v) (ya (yp (ybf yD ybq z_v z_v) (T.M 53) (yhx T) (T.b 109) (ya z_v yd)) yd)))))
theorem yDL:‹(98+1,120,r120,1,yvx)›:=zfn (T.F 120 r120) (sc 120) fun _ _ _ _ _ _ hr=>have nd:=(sc 120 (r:=r120)).nd;(yc (yw (ybb ycg ydy yg (ybb ybx ycJ (yV (ydZ T) (T.G 23) (T.k 110) (T.b 110) (ya z_v (ya yg yd))) yg))) (yc (yhQ ["_law_script"] (yeI (T.Z 7) (ya z_v yd)) (fun _ _ _ _ _ _=>(yV (yeD T) (T.G 24) (T.k 111) (T.b 111) (ya (ybb ycg ydy (yV (ydZ T) (T.G 23) (T.k 110) (T.b 110) (ya z_v (ya yg yd))) (ybb yhl ylT (ybb yhl ylT yg z_v) z_v)) yd)))) (yc (yw (ybb ycg ydy yg (ybb ybx ycJ (ybb ycv yfd (yV (ydZ T) (T.G 23) (T.k 110) (T.b 110) (ya z_v (ya yg yd))) yg) yg))) (yc (yw (ybU (yCu yqY yBF z_v (yiq yg) (yiq yg)))) (yc (yhQ ["_law_cells","_law_count"] (yeI (T.Z 7) (ya z_v yd)) (fun _ _ _ _ _ _=>(yV (ylj T) (T.G 27) (T.k 114) (T.b 114) (ya (ybU (yFD z_v (yiq z_v) (yiq z_v))) yd)))) (yc (yw (ycp (ybC (ya (ycp (ybo ym yM (T.Z 6) (ya z_v yd))) (ya (ycp (ygw [] (ydG z_v) (fun _ _ _ _ _ _=>(ycp (ybo ym yM (T.Z 6) (ya z_v yd)))))) yd))))) (yc (yw (ybU (ybC (ya (ykz (T.J 13) (ydK T) (T.C 15) (T.b 91) (ya (ybf yD ybq z_v yg) (ya (ybf yD ybq z_v yg) yd))) (ya (ykz (T.J 13) (ydK T) (T.C 15) (T.b 91) (ya (ybf yD ybq z_v yg) (ya (ybf yD ybq z_v yg) yd))) yd))))) (yc (yO (yx (ysk (ype hr)) yyV z_v (ybU (ybC (ya z_v (ya z_v yd))))) (yf (yj yAC)) yn) (yc (ydI yg (ybf yD ybq z_v yg) yg) (yc (yE (ymi plainAttrs_list PySem.F.slot_list_append PySem.F.type_list_append ybM yeu (ybf yD ybq (ybf yD ybq z_v yg) yg) (ya yB yd))) (yc (yw (ycp (ybC (ya (ycp (ybC yd)) (ya (ycp (ybC yd)) yd))))) (yc (yw (ycp (ybC (ya (ycp (ybC yd)) (ya (ycp (ybC yd)) yd))))) (yc (ygc (ybC yd)) (yc (ygx (ydG (ybU (ynP ylv yrA (ybU (yCu yqY yBF z_v yFy (yiq yg))) (ybU (ybC (ya yg (ya yg (ya yg yd)))))))) ydn (yc (yw (ybb ybx ycJ (ybb yhl ylT z_v yg) yg)) (yc (yw (ybb ybx ycJ z_v yg)) (yc (yw (yV (yjc T) (T.G 28) (T.k 115) (T.b 115) (ya (ybf yD ybq z_v (ybb yfG yjj yg z_v)) (ya z_v (ya (ybb ybx ycJ (ybb ycv yfd z_v yg) yg) yd))))) (yc (ymj (ycS (ya z_v (ya (yV (ymP T) (T.G 29) (T.k 116) (T.b 116) (ya z_v yd)) yd)))) (yc (ygx (yeI (T.Z 7) (ya (ybb ycg ydy yg (ybb ybx ycJ (ybb ycv yfd z_v yg) yg)) yd)) ydn (yf (yE (yV (yfQ T) (T.G 32) (T.k 119) (T.b 119) (ya z_v (ya z_v (ya z_v (ya z_v (ya (ybb ybx ycJ (ybb ycv yfd z_v (ybb ycg ydy yg (ybb yhl ylT yg z_v))) z_v) yd))))))))) (yc (yE (yV (ylk T) (T.G 30) (T.k 117) (T.b 117) (ya (ybf yD ybq z_v z_v) (ya z_v yd)))) (yc (yO (yx (ysk (ype hr)) yyV (yV (yjc T) (T.G 28) (T.k 115) (T.b 115) (ya (ybf yD ybq z_v (ybb yfG yjj yg z_v)) (ya z_v (ya (ybb ybx ycJ (ybb ycv yfd z_v yg) yg) yd)))) z_v) (yf (yj yAC)) yn) (yf (yO (yx ybj ydb (ybb ybx ycJ (ybb ycv yfd z_v yg) yg) yg) (yf (yE (yV (yfQ T) (T.G 32) (T.k 119) (T.b 119) (ya z_v (ya z_v (ya z_v (ya (ybb yfG yjj yg z_v) (ya (ybb ybx ycJ (ybb ycv yfd z_v yg) z_v) yd)))))))) yn)))))))))) (ygZ (yc (ygx (ydG z_v) (yCw (ypb ydn (ypb ydn yzf))) (yf (yO (yx (ysk (ype hr)) yyV z_v z_v) (yf (yj yAC)) yn))) (yf (yj (ypZ (yV (ygP T) (T.G 31) (T.k 118) (T.b 118) (ya z_v (ya z_v (ya (ybf yD ybq z_v yg) (ya (ybf yD ybq z_v yg) yd))))) (ypY (yV (ygP T) (T.G 31) (T.k 118) (T.b 118) (ya z_v (ya z_v (ya (ybf yD ybq z_v yg) (ya (ybf yD ybq z_v yg) yd)))))))))))))))))))))))))
def ywu (K:Frag):Sp:=fun vs H Q _=>∃ (a:Addr) (ns:List Int),vs=[.ref a]/\SqL K H a (ns.map V.int)/\ns.length<=63/\∀ H',Q (.bl true) H'
theorem yDM:∀ vs H Q E,ywu K vs H Q E->spE ⟨K,A⟩ 1 yvx vs H Q E:=by rintro _ H Q E ⟨a,ns,rfl,hS,hl,q⟩;obtain ⟨h',e⟩:=yDJ (h:=[]) ns hl;exact ⟨⟨H,H,[],[]⟩,[.scr ns],.bl true,h',rfl,⟨Same.refl _,rfl,List.nodup_nil,fun n d a e=>by simp at e⟩,⟨.ref a,[],rfl,⟨a,rfl,hS⟩,rfl⟩,rfl,e,fun v W' _ _ rv=>by rw [show v=_ from rv];exact q _⟩
end
structure FB (K:Frag) (r:FR) (p:Addr×FuncData):Prop where
 F:Fun K r.1 r.2.1 r.2.2.1 p.1 p.2
 b:Binds K p.2 r.ps []
theorem FB.of {n:List Str}(F:Fun K x q s f d) (b:Binds K d (n.take k) []):FB K (fRw x q s k n) (f,d):=⟨F,b⟩
noncomputable def All2 {Y J:Type}(R:Y->J->Prop):List Y->List J->Prop
 | r::rs,p::ps=>R r p/\All2 R rs ps
 | [],[]=>True
 | _,_=>False
theorem All2.get {Y J:Type}{R:Y->J->Prop}{d:Y}{e:J}(h:R d e):∀ {rs:List Y}{ps:List J},All2 R rs ps->∀ n:Nat,R (rs.getD n d) (ps.getD n e)
 | [],[],_,_=>h
 | _::_,_::_,a,0=>a.1
 | _::_,_::_,a,n+1=>All2.get h a.2 n
noncomputable abbrev Ns1 (K:Frag) (x:Str) (f:Addr):Prop:=nsIn K mainGlobals x=some (some (.ref f))
structure TyR (K:Frag) (C:Addr):Prop where
 ha:findIn K (.ref C) "__class__" = some (some (.builtin "object.__class__"))
 hm:mroIn K C (.type "object")=some true
 ty:typeIn K (.ref C)=some (.type "type")
structure NS2 (K:Frag) (c d:Addr):Prop where
 sb:subIn K (.ref c) (.ref d)=some false
 ne:(c == d)=false
def NSx (K:Frag) (pre:List Addr):List Addr->Prop
 | []=>True
 | c::cs=>AllP (NS2 K c) pre/\AllP (NS2 K c) cs/\NSx K (c::pre) cs
theorem NSx.get:∀ {cs pre:List Nat},NSx K (pre.map A) (cs.map A)->∀ i∈cs,∀ j,j∈pre\/j∈cs->i≠j->NS2 K (A i) (A j)
 | c::cs,pre,a,i,hi,j,hj,ne=>by
  rcases mem_cons.mp hi with rfl|hi
  .rcases hj with hj|hj
   .exact a.1.mem _ (List.mem_map_of_mem hj)
   .rcases mem_cons.mp hj with rfl|hj
    .exact absurd rfl ne
    .exact a.2.1.mem _ (List.mem_map_of_mem hj)
  .refine NSx.get (pre:=c::pre) a.2.2 i hi j ?_ ne;rcases hj with hj|hj
   .exact .inl (mem_cons_of_mem _ hj)
   .rcases mem_cons.mp hj with rfl|hj
    .exact .inl mem_cons_self
    .exact .inr hj
theorem yAv (CL:∀ k,Cls K (A k)) (hn:PySem.W.specialIn K (.builtin "object.__class__") "__get__" = some (some (.builtin "getset_descriptor.__get__"))) (htk:PySem.W.takesIn K (.builtin "object.__class__")=some true) (cs:List Nat) (ty:AllP (TyR K) (cs.map A)) (sb:NSx K [] (cs.map A)) :
  ∀ r∈tbO cs,∀ (H:Hp) (a dx:Addr) (fs:List (Str×V)),H a=some (.ins (A r.1) dx fs)->IsI K H (.ref a) (.ref (A r.2.1)) r.2.2:=by
 intro r hr H a dx fs e;unfold tbO at hr;obtain ⟨i,hi,hr⟩:=List.mem_flatMap.mp hr;obtain ⟨j,hj,rfl⟩:=List.mem_map.mp hr;have t:=ty.mem _ (List.mem_map_of_mem hi);have t':=ty.mem _ (List.mem_map_of_mem hj);refine ⟨_,_,.ins e (CL i) t.ha hn htk t.hm,rfl,?_⟩
 by_cases q:i=j
 .subst q;show _=some (i == i);rw [beq_self_eq_true];exact yul
 .have n:=NSx.get (pre:=[]) sb i hi j (.inr hj) q;show _=some (i == j);rw [beq_eq_false_iff_ne.mpr q];exact yun n.ne t'.hm t'.ty n.sb
theorem zip_get:∀ {cs:List Str}{as:List Addr},AllP (fun p:Str×Addr=>Ns1 K p.1 p.2) ((c0::cs).zip (C0::as))->cs.length=as.length->∀ n:Nat,Ns1 K ((c0::cs).getD n c0) ((C0::as).getD n C0):=fun {cs as} h hl n=>by
 have h0:=h.1;have:∀ (cs:List Str) (as:List Addr),AllP (fun p:Str×Addr=>Ns1 K p.1 p.2) (cs.zip as)->cs.length=as.length->∀ n:Nat,Ns1 K (cs.getD n c0) (as.getD n C0):=by
  intro cs
  induction cs with
  | nil=>intro as _ e n;cases as with|nil=>exact h0|cons _ _=>cases e
  | cons c cs ih=>intro as h e n;cases as with|nil=>cases e|cons a as=>cases n with|zero=>exact h.1|succ n=>exact ih as h.2 (by simpa using e) n
 exact this _ _ h (by simpa using hl) n
theorem all_mk {l:PySem.W.OpenLaw}{K:Frag}(X:K.In h) (G:h.Ns mainGlobals mg) (hfa:mg "law" = some (.ref fa))
  
  (hC:Ns1 K "Part" C0/\Ns1 K "Let" C1/\Ns1 K "Reckon" C2/\Ns1 K "Take" C3/\Ns1 K "Put" C4/\Ns1 K "If" C5/\Ns1 K "Either" C6/\Ns1 K "Try" C7/\Ns1 K "Throw" C8/\Ns1 K "Wait" C9/\Ns1 K "Reader" C10/\Ns1 K "Log" C11/\Ns1 K "Run" C12/\Ns1 K "Doer" C13/\Ns1 K "Hand" C14/\Ns1 K "Hall" C15/\True)
  (cl:AllP (Cls K) [C0,C1,C2,C3,C4,C5,C6,C7,C8,C9,C10,C11,C12,C13,C14,C15])
  (hK:Mk K C1 f46/\Mk K C2 f47/\Mk K C3 f48/\Mk K C4 f49/\Mk K C5 f50/\Mk K C6 f51/\Mk K C7 f52/\Mk K C8 f53/\Mk K C10 f71/\Mk K C11 f0/\Mk K C12 f29/\Mk K C13 f19/\Mk K C14 f45/\Mk K C15 f91/\True)
  (mk0:makesIn K C0=true)
  (io0:findIn K (.ref C0) "__init__" = some (some (.builtin "object.__init__")))
  (kp0:keepIn K (.ref C0)=true)
  (mk9:makesIn K C9=true)
  (io9:findIn K (.ref C9) "__init__" = some (some (.builtin "object.__init__")))
  (kp9:keepIn K (.ref C9)=true)
  (hM:Meth K C1 "long" f54/\Meth K C2 "long" f55/\Meth K C3 "long" f56/\Meth K C4 "long" f57/\Meth K C5 "long" f61/\Meth K C6 "long" f62/\Meth K C7 "long" f63/\Meth K C8 "long" f58/\Meth K C9 "long" f59/\Meth K C11 "write" f1/\Meth K C11 "own" f2/\Meth K C11 "begin" f3/\Meth K C11 "settle" f4/\Meth K C11 "drop" f5/\Meth K C11 "see" f6/\Meth K C11 "saw" f7/\Meth K C11 "wrote" f9/\Meth K C11 "saw" f8/\Meth K C12 "held_in" f20/\Meth K C12 "hold" f21/\Meth K C12 "box_at" f22/\Meth K C12 "do_put" f24/\Meth K C12 "do_reckon" f23/\Meth K C12 "sees_at" f25/\Meth K C12 "take_own" f26/\Meth K C12 "take_seen" f27/\Meth K C12 "row" f30/\Meth K C12 "is_stale" f31/\Meth K C12 "taker_layer" f32/\Meth K C12 "is_looked_over" f33/\Meth K C12 "see_next" f34/\Meth K C12 "go" f39/\Meth K C12 "go_plain" f35/\Meth K C12 "lead" f36/\Meth K C12 "throw" f38/\Meth K C12 "leave" f37/\Meth K C14 "state" f40/\Meth K C14 "new_run" f41/\Meth K C14 "begin_anew" f42/\Meth K C14 "fall_asleep" f43/\Meth K C14 "go_on" f44/\Meth K C15 "boxes" f92/\Meth K C15 "stamps" f93/\Meth K C15 "hand_at" f94/\Meth K C15 "state" f95/\Meth K C15 "which" f96/\Meth K C15 "slots" f97/\Meth K C15 "saw" f98/\Meth K C15 "journal" f99/\Meth K C15 "wake_stale" f105/\Meth K C15 "end_deed" f106/\Meth K C15 "lay_down" f107/\Meth K C15 "looked_over_told" f108/\Meth K C15 "turn" f109/\Meth K C15 "boxes" f100/\Meth K C15 "stamps" f101/\Meth K C15 "slots" f102/\Meth K C15 "saw" f103/\Meth K C15 "journal" f104/\Meth K C10 "ahead" f73/\Meth K C10 "taken" f74/\Meth K C10 "pass_over" f75/\Meth K C10 "slot_taken" f76/\Meth K C10 "name_taken" f77/\Meth K C10 "number_taken" f78/\Meth K C10 "list_taken" f81/\Meth K C10 "side_taken" f82/\Meth K C10 "part_taken" f83/\Meth K C10 "if_taken" f84/\Meth K C10 "either_taken" f85/\Meth K C10 "try_taken" f86/\Meth K C10 "plain_taken" f80/\Meth K C10 "reckon_taken" f79/\True)
  (cf13:yvv K C13 "__init__" f19)
  (hG:Ns1 K "reckon" f10/\Ns1 K "is_whole" f11/\Ns1 K "is_number" f12/\Ns1 K "is_made_of" f13/\Ns1 K "number_of" f14/\Ns1 K "is_word" f15/\Ns1 K "is_slot" f16/\Ns1 K "slot_index" f17/\Ns1 K "is_name" f18/\Ns1 K "takes" f28/\Ns1 K "list_long" f60/\Ns1 K "plain_rows" f64/\Ns1 K "first_row" f65/\Ns1 K "rows_between" f66/\Ns1 K "list_rows" f67/\Ns1 K "part_rows" f68/\Ns1 K "sided_rows" f69/\Ns1 K "rows_of" f70/\Ns1 K "words_of" f72/\Ns1 K "read" f87/\Ns1 K "check_boxes" f88/\Ns1 K "rows_of_deeds" f89/\Ns1 K "rows_of_hands" f90/\Ns1 K "_law_cell_at" f110/\Ns1 K "_law_number_by" f111/\Ns1 K "_law_plain" f112/\Ns1 K "_law_piece" f113/\Ns1 K "_law_deeds" f114/\Ns1 K "_law_all" f115/\Ns1 K "_law_copy" f116/\Ns1 K "_law_spoil" f117/\Ns1 K "_law_again" f118/\Ns1 K "_law_turned" f119/\Ns1 K "law" f120/\True)
  (hF:All2 (FB K) fT [(f0,d0),(f1,d1),(f2,d2),(f3,d3),(f4,d4),(f5,d5),(f6,d6),(f7,d7),(f8,d8),(f9,d9),(f10,d10),(f11,d11),(f12,d12),(f13,d13),(f14,d14),(f15,d15),(f16,d16),(f17,d17),(f18,d18),(f19,d19),(f20,d20),(f21,d21),(f22,d22),(f23,d23),(f24,d24),(f25,d25),(f26,d26),(f27,d27),(f28,d28),(f29,d29),(f30,d30),(f31,d31),(f32,d32),(f33,d33),(f34,d34),(f35,d35),(f36,d36),(f37,d37),(f38,d38),(f39,d39),(f40,d40),(f41,d41),(f42,d42),(f43,d43),(f44,d44),(f45,d45),(f46,d46),(f47,d47),(f48,d48),(f49,d49),(f50,d50),(f51,d51),(f52,d52),(f53,d53),(f54,d54),(f55,d55),(f56,d56),(f57,d57),(f58,d58),(f59,d59),(f60,d60),(f61,d61),(f62,d62),(f63,d63),(f64,d64),(f65,d65),(f66,d66),(f67,d67),(f68,d68),(f69,d69),(f70,d70),(f71,d71),(f72,d72),(f73,d73),(f74,d74),(f75,d75),(f76,d76),(f77,d77),(f78,d78),(f79,d79),(f80,d80),(f81,d81),(f82,d82),(f83,d83),(f84,d84),(f85,d85),(f86,d86),(f87,d87),(f88,d88),(f89,d89),(f90,d90),(f91,d91),(f92,d92),(f93,d93),(f94,d94),(f95,d95),(f96,d96),(f97,d97),(f98,d98),(f99,d99),(f100,d100),(f101,d101),(f102,d102),(f103,d103),(f104,d104),(f105,d105),(f106,d106),(f107,d107),(f108,d108),(f109,d109),(f110,d110),(f111,d111),(f112,d112),(f113,d113),(f114,d114),(f115,d115),(f116,d116),(f117,d117),(f118,d118),(f119,d119),(f120,d120)])
  (hN:(NoAttr K C11 "stack"/\True)/\(NoAttr K C11 "last_seen"/\True)/\(NoAttr K C12 "held"/\True)/\(NoAttr K C12 "width"/\NoAttr K C14 "width"/\True)/\(NoAttr K C12 "log"/\True)/\(NoAttr K C12 "rows"/\True)/\(NoAttr K C10 "at"/\NoAttr K C12 "at"/\True)/\(NoAttr K C12 "seen_stamps"/\True)/\(NoAttr K C12 "sides"/\True)/\(NoAttr K C14 "deeds"/\True)/\(NoAttr K C14 "nth"/\True)/\(NoAttr K C14 "sleeps"/\True)/\(NoAttr K C14 "before"/\True)/\(NoAttr K C14 "run"/\True)/\(NoAttr K C15 "numbers"/\True)/\(NoAttr K C15 "marks"/\True)/\(NoAttr K C15 "crew"/\True)/\(NoAttr K C15 "entries"/\True)/\(NoAttr K C10 "words"/\True)/\(NoAttr K C1 "slot"/\NoAttr K C2 "slot"/\NoAttr K C3 "slot"/\NoAttr K C4 "slot"/\NoAttr K C5 "slot"/\NoAttr K C7 "slot"/\NoAttr K C8 "slot"/\True)/\(NoAttr K C1 "number"/\True)/\(NoAttr K C3 "place"/\NoAttr K C4 "place"/\True)/\(NoAttr K C5 "parts"/\NoAttr K C6 "parts"/\NoAttr K C7 "parts"/\True)/\(NoAttr K C5 "others"/\NoAttr K C6 "others"/\NoAttr K C7 "others"/\True)/\(NoAttr K C7 "name"/\NoAttr K C8 "name"/\True)/\(NoAttr K C2 "word"/\True)/\(NoAttr K C2 "one"/\True)/\(NoAttr K C2 "other"/\True)/\True)
  (ty:AllP (TyR K) [C1,C2,C3,C4,C5,C6,C7,C8,C9])
  (sb:NSx K [] [C1,C2,C3,C4,C5,C6,C7,C8,C9])
  (hn:PySem.W.specialIn K (.builtin "object.__class__") "__get__" = some (some (.builtin "getset_descriptor.__get__")))
  (htk:PySem.W.takesIn K (.builtin "object.__class__")=some true)
  (hZ:AllP (fun b=>nsIn K mainGlobals b=some none) zT)
  (q1:nsIn K mainGlobals "FIGURES" = some (some (.str "0123456789" u1)))
  (q2:nsIn K mainGlobals "LETTERS" = some (some (.str "abcdefghijklmnopqrstuvwxyz" u2)))
  (q3:nsIn K mainGlobals "MOST_AROUND" = some (some (.int 8 u3)))
  (q4:nsIn K mainGlobals "MOST_BOXES" = some (some (.int 16 u4)))
  (q5:nsIn K mainGlobals "MOST_DEEDS" = some (some (.int 6 u5)))
  (q6:nsIn K mainGlobals "MOST_HANDS" = some (some (.int 8 u6)))
  (q7:nsIn K mainGlobals "MOST_ROWS" = some (some (.int 80 u7)))
  (q8:nsIn K mainGlobals "SLOTS" = some (some (.str "abcdefgh" u8)))
  (q9:nsIn K mainGlobals "WIDE" = some (some (.int 18446744073709551616 u9)))
  (q10:nsIn K mainGlobals "WORDS" = some (some (.ref u10)))
  (qk10:K.lookup u10=some ⟨.type "tuple",qd10,.seq #[.str "plus" qt10_0,.str "minus" qt10_1,.str "times" qt10_2,.str "less" qt10_3,.str "same" qt10_4] qn10,qs10⟩) :
  ∃ fd:FuncData,(∀ (s:Shared) (v:Value),BindsTo s fd ⟨[v],[]⟩ [("_law_script",v)])/\∀ base:Heap,K.In base->base.Ns mainGlobals mg->FnOk l.prog w K mg base CX0 99 fa fd ["_law_script"] (ywu K):=by
 let t:Ads:=⟨fun k=>[C0,C1,C2,C3,C4,C5,C6,C7,C8,C9,C10,C11,C12,C13,C14,C15].getD k C0,fun n=>[(f0,d0),(f1,d1),(f2,d2),(f3,d3),(f4,d4),(f5,d5),(f6,d6),(f7,d7),(f8,d8),(f9,d9),(f10,d10),(f11,d11),(f12,d12),(f13,d13),(f14,d14),(f15,d15),(f16,d16),(f17,d17),(f18,d18),(f19,d19),(f20,d20),(f21,d21),(f22,d22),(f23,d23),(f24,d24),(f25,d25),(f26,d26),(f27,d27),(f28,d28),(f29,d29),(f30,d30),(f31,d31),(f32,d32),(f33,d33),(f34,d34),(f35,d35),(f36,d36),(f37,d37),(f38,d38),(f39,d39),(f40,d40),(f41,d41),(f42,d42),(f43,d43),(f44,d44),(f45,d45),(f46,d46),(f47,d47),(f48,d48),(f49,d49),(f50,d50),(f51,d51),(f52,d52),(f53,d53),(f54,d54),(f55,d55),(f56,d56),(f57,d57),(f58,d58),(f59,d59),(f60,d60),(f61,d61),(f62,d62),(f63,d63),(f64,d64),(f65,d65),(f66,d66),(f67,d67),(f68,d68),(f69,d69),(f70,d70),(f71,d71),(f72,d72),(f73,d73),(f74,d74),(f75,d75),(f76,d76),(f77,d77),(f78,d78),(f79,d79),(f80,d80),(f81,d81),(f82,d82),(f83,d83),(f84,d84),(f85,d85),(f86,d86),(f87,d87),(f88,d88),(f89,d89),(f90,d90),(f91,d91),(f92,d92),(f93,d93),(f94,d94),(f95,d95),(f96,d96),(f97,d97),(f98,d98),(f99,d99),(f100,d100),(f101,d101),(f102,d102),(f103,d103),(f104,d104),(f105,d105),(f106,d106),(f107,d107),(f108,d108),(f109,d109),(f110,d110),(f111,d111),(f112,d112),(f113,d113),(f114,d114),(f115,d115),(f116,d116),(f117,d117),(f118,d118),(f119,d119),(f120,d120)].getD n (f0,d0),u1,u2,u3,u4,u5,u6,u7,u8,u9,u10⟩
 have CL:∀ k,Cls K (t.A k):=fun k=>AllP.get cl.1 cl k
 have FF:∀ n,FB K (fR n) (t.fl n):=fun n=>All2.get hF.1 hF n
 have hC:AllP (fun p:Str×Addr=>Ns1 K p.1 p.2) (cT.zip [C0,C1,C2,C3,C4,C5,C6,C7,C8,C9,C10,C11,C12,C13,C14,C15]):=hC;have hG:AllP (fun r:Str×Nat=>Ns1 K r.1 (t.a r.2)) gT:=hG;have hK:AllP (fun r:Nat×Nat=>Mk K (t.A r.1) (t.a r.2)) kT:=hK;have hM:AllP (fun r:Nat×Str×Nat=>Meth K (t.A r.1) r.2.1 (t.a r.2.2)) mT:=hM;have hN:AllP (fun r:Str×List Nat=>AllP (fun k=>NoAttr K (t.A k) r.1) r.2) nT:=hN;have T:Txt K mg t:=⟨fun n=>(FF n).F,fun n=>(FF n).b,fun n=>mg_of X G (AllP.get (p:=fun r:Str×Nat=>Ns1 K r.1 (t.a r.2)) hG.1 hG n),fun n=>mg_of X G (zip_get hC rfl n),fun n=>AllP.get (p:=fun r:Nat×Nat=>Mk K (t.A r.1) (t.a r.2)) hK.1 hK n,fun n=>AllP.get (p:=fun r:Nat×Str×Nat=>Meth K (t.A r.1) r.2.1 (t.a r.2.2)) hM.1 hM n,mk0,io0,kp0,mk9,io9,kp9,cf13,CL,fun n k hk=>⟨CL k,(AllP.get (p:=fun r:Str×List Nat=>AllP (fun k=>NoAttr K (t.A k) r.1) r.2) hN.1 hN n).mem k hk⟩,yAv CL hn htk [1,2,3,4,5,6,7,8,9] ty sb,fun n=>PySem.W.mg_none_of X G (AllP.get (p:=fun b=>nsIn K mainGlobals b=some none) hZ.1 hZ n),mg_of X G q1,mg_of X G q2,mg_of X G q3,mg_of X G q4,mg_of X G q5,mg_of X G q6,mg_of X G q7,mg_of X G q8,mg_of X G q9,mg_of X G q10,⟨_,_,_,qk10,rfl,rfl,(by show 5<=sizeLine;decide),.cons ⟨_,rfl⟩ (.cons ⟨_,rfl⟩ (.cons ⟨_,rfl⟩ (.cons ⟨_,rfl⟩ (.cons ⟨_,rfl⟩ (.nil)))))⟩⟩
 have e:=hfa.symm.trans (T.G 33);have e:fa=f120:=by injection e with e;injection e
 subst e;refine ⟨d120,?_,fun base _ _=>(yDL T).imp (yDM T)⟩;obtain ⟨_,_,_,_,_,_,_,_,_,e,_⟩:=(FF 120).F.ex;have e:d120=_:=e;subst e;exact fun s v=>.of_eq rfl
theorem walk {l:PySem.W.OpenLaw}{q:Program}{loose:List Str}{XP:(Str->Option Value)->Heap->Prop}{YP:World->Heap->Prop}{d:DefRec}{K:Params->Frag}(hn:l.most=some 63) (hdf:d.params.defaults=[])
  (hY:∀ (w:World) (h:Heap),YP w h->(K w.params).In h)
  (F:∀ (w:World) (mg:Str->Option Value) (fa:Addr) (h:Heap),(K w.params).In h->h.Ns mainGlobals mg->mg d.name=some (.ref fa) ->
   ∃ fd:FuncData,(∀ (s:Shared) (u:Value),BindsTo s fd ⟨[u],[]⟩ [("_law_script",u)])/\∀ base:Heap,(K w.params).In base->base.Ns mainGlobals mg->FnOk l.prog w (K w.params) mg base CX0 99 fa fd ["_law_script"] (ywu (K w.params))) :
  PySem.W.WalkO q loose XP YP l.row.toRowW d [] (fun f vs=>PySem.call f vs) :=
 L2.walk_of (n:=63) (k:=99) (x:="_law_script") (CX:=fun _=>CX0) (sp:=fun w=>ywu (K w.params)) hn (by decide) hdf ⟨rfl,by decide,by decide⟩ hY F (fun _ _ a ns hl _ hS=>⟨a,ns,rfl,hS,hl,fun _=>rfl⟩) fun _ _ _ _ _ z=>z
end My
local macro_rules | `(tactic| walk_at "ka")=>`(tactic| first|exact True.intro|k_is|decide|((first|refine And.intro ?_ ?_|refine' L2.Cls.mk ?_ ?_ ?_ ?_|refine' My.TyR.mk ?_ ?_ ?_|refine' My.NS2.mk ?_ ?_)<;>walk_at "ka"))
local macro_rules | `(tactic| walk_at "kr")=>`(tactic| first|exact True.intro|(refine And.intro ?_ ?_<;>walk_at "kr")|walk_at "kx")
local macro_rules | `(tactic| walk_at "kx")=>`(tactic| first|(refine' L2.Meth.mk ?a ?b ?c;(case a=>k_is);(case b=>k_is);(case c=>k_is))|(refine' L2.Mk.mk ?a ?b ?c ?d;(case a=>k_is);(case b=>k_is);(case c=>k_is);(case d=>k_is))|(unfold L2.NoAttr;k_is)|(unfold My.Ns1;k_is)|k_is|(dsimp only;k_is))
local macro_rules | `(tactic| walk_at "kf")=>`(tactic| first|exact True.intro|(refine' And.intro (My.FB.of (L2.fun_mk ?a ?b ?c) ?d) ?e;(case a=>k_is);(case b=>k_is);(case c=>k_is);(case d=>first|exact L2.Binds.all (My.ml1 fun _=>rfl)|exact L2.Binds.all (My.ml2 fun _ _=>rfl)|exact L2.Binds.all (My.ml3 fun _ _ _=>rfl)|exact L2.Binds.all (My.ml4 fun _ _ _ _=>rfl)|exact L2.Binds.all (My.ml5 fun _ _ _ _ _=>rfl));(case e=>walk_at "kf")))
local macro_rules | `(tactic| walk_at "k4")=>`(tactic| (refine' ⟨?a,?b,?c,?d⟩;(case a=>k_is);(case b=>k_is);(case c=>k_is);(case d=>k_is)))
open PySem PySem.W PyProof.Rows
set_option maxRecDepth 100000 in
set_option maxHeartbeats 0 in
theorem PySem.Challenge.cw_retryhall_k29_two_halls_holds : PySem.Challenge.rw_retryhall_k29_two_halls.Holds := by
 refine hD_ ?_
 k_fill
 refine My.walk (l:=PySem.Challenge.rw_retryhall_k29_two_halls) rfl rfl (fun w h Y=>PySem.W.kIn_of Y) ?F
 case F =>
  intro w mg fa h KX G hmg
  refine' My.all_mk KX G hmg ?hC ?cl ?hK ?mk0 ?io0 ?kp0 ?mk9 ?io9 ?kp9 ?hM ?cf13 ?hG ?hF ?hN ?ty ?sb ?hn ?htk ?hZ ?q1 ?q2 ?q3 ?q4 ?q5 ?q6 ?q7 ?q8 ?q9 ?q10 ?qk10
  (case hC=>walk_at "kr")
  (case cl=>walk_at "ka")
  (case hK=>walk_at "kr")
  (case mk0|io0|kp0|mk9|io9|kp9=>k_is)
  (case hM=>walk_at "kr")
  (case cf13=>walk_at "k4")
  (case hG=>walk_at "kr")
  (case hF=>walk_at "kf")
  (case hN=>walk_at "kr")
  (case ty|sb=>walk_at "ka")
  (case hn|htk=>k_is)
  (case hZ=>walk_at "kr")
  (case q1|q2|q3|q4|q5|q6|q7|q8|q9|q10|qk10=>k_is)
