import PyProof.Rows.All
import Wide.All
import OpenK.KLine
import KE.KIntText
import KE.KIsAll
import KE.KItemsList
import KE.KRevIter
import KE.KSortTup
import KE.LcSums
import KE.KPairComp
import Wide.FinOn
import Lean
import PyProof.EqAt
import PyProof.EqKinds
import PyProof.TupleCall
import KE.KUnpack
import PyProof.SliceList
import PySem.Challenge.RW_retryhall_k61_whole_journal_replayed
set_option Elab.async false
set_option linter.all false
set_option maxRecDepth 100000
set_option maxHeartbeats 4000000
set_option compiler.extract_closed false
namespace PySem.W.Fast
local macro_rules|`(command|universe $xs*)=>do return Lean.mkNullNode (<-(xs.flatMap fun x=>#[`hD_++x.getId,`PySem.Challenge++x.getId]).append ((Array.range 1447).map fun i=>`hD_++.mkSimple ("o_"++toString i)) |>.mapM fun n=>`(command|theorem $(Lean.mkIdent (.mkSimple ("tw"++toString n.hash))) : True:=True.intro))
universe heap_39 heap_46 heap_1447 tree_47 tree_70 tree_85 tree_100 tree_115 tree_130 tree_216 tree_280 tree_359 tree_368 tree_458 tree_516 tree_551 tree_587 tree_623 tree_659 tree_695 tree_731 tree_767 tree_803 tree_839 tree_889 tree_933 tree_1054 tree_1139 tree_1159 tree_1276 tree_1359 tree_1446 view_39 sts_49 sts_71 sts_86 sts_101 sts_116 sts_131 sts_217 sts_281 sts_360 sts_369 sts_459 sts_517 sts_552 sts_588 sts_624 sts_660 sts_696 sts_732 sts_768 sts_804 sts_840 sts_890 sts_934 sts_1143 sts_1160 sts_1363 env_41 pw_retryhall_k61_whole_journal_replayed rw_retryhall_k61_whole_journal_replayed
end PySem.W.Fast
set_option maxHeartbeats 0 in
open_top hD_ for PySem.Challenge.rw_retryhall_k61_whole_journal_replayed
open PySem.W (fnOf findIn keepIn subIn codeIn nsIn isFn mg_of plainGet hasDictIn makesIn instObj typeIn emptyDict mroIn kia_one)
local macro_rules | `(tactic| rfl')=>`(tactic| decide +kernel)
open List (mem_cons_self mem_cons_of_mem mem_append_left getElem?_set_self getElem?_set_ne mem_append_right length_cons map_cons length_map append_nil of_mem_zip replicate length length_take getElem?_append_right getElem?_replicate getElem?_append_left getElem?_map mem_of_getElem? length_append map_nil length_drop size_toArray length_set any_cons getElem_of_mem map_append lookup_cons prefix_refl getElem?_eq_none length_zip find?_cons length_nil zip_cons_cons getD map_map toArray getElem_mem mem_cons not_mem_nil getD_eq_getElem?_getD map_set append_assoc)
open Nat (lt_of_lt_of_le lt_irrefl ne_of_lt le_of_lt le_of_eq zero_le sub_self)
open Option (isSome_map bind_some)
open Bool (and_eq_true)
open PySem.F (plainAttrs_list slot_list_pop type_list_pop)
noncomputable section
namespace L2
open PySem PySem.Spec PyProof.Rows
abbrev Key:=Sum Int Str
noncomputable def ymL:Key->Value->Bool
 | .inl k,v=>Value.isInt k v
 | .inr x,v=>Value.isStrOf x v
noncomputable def yFP (w:World):Key->Int
 | .inl k=>hashInt k
 | .inr x=>hashStr w x
theorem ybu:∀ {k:Key}{v:Value},ymL k v=true->(∃ i t,k=Sum.inl i/\v=Value.int i t)\/∃ x t,k=Sum.inr x/\v=Value.str x t
 | .inl i,v,h=>by obtain ⟨t,e⟩:=Value.isInt_shape h;exact .inl ⟨i,t,rfl,e⟩
 | .inr x,v,h=>by obtain ⟨t,e⟩:=Value.isStrOf_shape h;exact .inr ⟨x,t,rfl,e⟩
theorem yqm i t:ymL (.inl i) (.int i t)=true:=by simp [ymL,Value.isInt]
theorem yqn x t:ymL (.inr x) (.str x t)=true:=by simp [ymL,Value.isStrOf]
theorem yAe (a b:Int):decide ((Sum.inl a:Key)=Sum.inl b)=(a == b):=by
 by_cases e:a=b
 .subst e;simp
 .have h:¬ (Sum.inl a:Key)=Sum.inl b:=fun q=>e (Sum.inl.inj q)
  rw [decide_eq_false h];exact (beq_eq_false_iff_ne.mpr e).symm
theorem yAf a b:decide ((Sum.inr a:Key)=Sum.inr b)=decide (a=b):=by simp_all
theorem yAg a b:decide ((Sum.inl a:Key)=Sum.inr b)=false:=decide_eq_false fun q=>nomatch q
theorem yAh a b:decide ((Sum.inr a:Key)=Sum.inl b)=false:=decide_eq_false fun q=>nomatch q
noncomputable def ycP (prog:Program) (w:World):PySem.KeyKind prog w Key where
 is:=ymL
 hash:=yFP w
 inj:=fun v a b ha hb=>by
  rcases ybu ha with ⟨i,t,rfl,rfl⟩|⟨x,t,rfl,rfl⟩
  .rcases ybu hb with ⟨j,u,rfl,e⟩|⟨y,u,rfl,e⟩
   .injection e with e1 _;rw [e1]
   .exact nomatch e
  .rcases ybu hb with ⟨j,u,rfl,e⟩|⟨y,u,rfl,e⟩
   .exact nomatch e
   .injection e with e1 _;rw [e1]
 byValue:=fun k v h=>by rcases ybu h with ⟨i,t,rfl,rfl⟩|⟨x,t,rfl,rfl⟩<;>rfl
 pyHash:=fun hv h=>by
  rcases ybu hv with ⟨i,t,rfl,rfl⟩|⟨x,t,rfl,rfl⟩
  .exact wpAny_pyHash_int h
  .exact wpAny_pyHash_str h
 eqBool:=fun hu hv h=>by
  rcases ybu hu with ⟨i,t,rfl,rfl⟩|⟨x,t,rfl,rfl⟩
  .rcases ybu hv with ⟨j,u,rfl,rfl⟩|⟨y,u,rfl,rfl⟩
   .rw [yAe] at h;exact wpAny_eqBool_int h
   .rw [yAg] at h;exact SeqAt.EqAt.int_str i t y u _ _ _ _ h
  .rcases ybu hv with ⟨j,u,rfl,rfl⟩|⟨y,u,rfl,rfl⟩
   .rw [yAh] at h;exact SeqAt.EqAt.str_int x t j u _ _ _ _ h
   .rw [yAf] at h;exact wpAny_eqBool_str h
 «strs»:=fun k x t v h=>by
  rcases ybu h with ⟨i,u,rfl,e⟩|⟨y,u,rfl,e⟩
  .exact nomatch e
  .injection e with e1 _
   subst e1;cases v<;>rfl
theorem ymM prog w i t:(ycP prog w).is (.inl i) (.int i t)=true:=yqm i t
theorem ymN prog w x t:(ycP prog w).is (.inr x) (.str x t)=true:=yqn x t
inductive V where
 | non|bl (b:Bool)|int (i:Int)|str (x:Str)|byt (b:Array UInt8)|flt (b:UInt64)|ref (a:Addr)|ty (n:String)
 deriving DecidableEq
noncomputable def RelV:V->Value->Prop
 | .non,u=>u=Value.none
 | .bl b,u=>u=Value.bool b
 | .int i,u=>∃ t,u=Value.int i t
 | .str x,u=>∃ t,u=Value.str x t
 | .byt b,u=>∃ t,u=Value.bytes b t
 | .flt b,u=>∃ t,u=Value.float b t
 | .ref a,u=>u=Value.ref a
 | .ty n,u=>u=Value.type n
abbrev Vals:List V->List Value->Prop:=Paired RelV
theorem Vals.length {xs:List V}{us:List Value}(r:Vals xs us):xs.length=us.length:=Paired.length r
theorem Vals.get:∀ {xs:List V}{us:List Value}{i:Nat}{x:V},Vals xs us->xs[i]?=some x->∃ u,us[i]?=some u/\RelV x u
 | _,_,_,_,.nil,e=>by simp at e
 | _,_,0,_,.cons r _,e=>by simp at e;subst e;exact ⟨_,rfl,r⟩
 | _,_,i+1,x,.cons _ t,e=>by obtain ⟨u,h1,h2⟩:=Vals.get (i:=i) (x:=x) t (by simpa using e);exact ⟨u,by simpa using h1,h2⟩
theorem Vals.set {x:V}{u:Value}(r:RelV x u):∀ {xs:List V}{us:List Value}(i:Nat),Vals xs us->Vals (xs.set i x) (us.set i u)
 | _,_,_,.nil=>.nil
 | _,_,0,.cons _ t=>.cons r t
 | _,_,i+1,.cons q t=>.cons q (Vals.set r i t)
theorem Vals.append:∀ {xs ys:List V}{us ws:List Value},Vals xs us->Vals ys ws->Vals (xs++ys) (us++ws)
 | _,_,_,_,.nil,s=>s
 | _,_,_,_,.cons r t,s=>.cons r (Vals.append t s)
theorem Vals.take:∀ {xs:List V}{us:List Value} n,Vals xs us->Vals (xs.take n) (us.take n)
 | _,_,0,_=>.nil
 | _,_,_+1,.nil=>.nil
 | _,_,n+1,.cons r t=>.cons r (Vals.take n t)
theorem Vals.drop:∀ {xs:List V}{us:List Value}(n:Nat),Vals xs us->Vals (xs.drop n) (us.drop n)
 | _,_,0,r=>r
 | _,_,_+1,.nil=>.nil
 | _,_,n+1,.cons _ t=>Vals.drop n t
noncomputable def RelO:Option V->Option Value->Prop
 | some v,some u=>RelV v u
 | none,none=>True
 | _,_=>False
def KV {κ:Type}:List (κ×V)->List (κ×Value)->Prop:=Paired fun (p:κ×V) (q:κ×Value)=>p.1=q.1/\RelV p.2 q.2
noncomputable def kV:Key->V
 | .inl i=>.int i
 | .inr x=>.str x
inductive HO where
 | lst (xs:List V)
 | tup (xs:List V)
 | dK (kvs:List (Key×V))|dT (kvs:List (List Key×V))
 | set (S:Int->Bool) (n:Nat)
 | ins (C dx:Addr) (fs:List (Str×V))
 | own (x:Addr)
 | xd (fs:List (Str×V))
 | met (f x:Addr)
 | rng (lo hi:Int)
 | frz (o:Obj) (u:HO)
 | tbl (ps:Array Value)
 | ext (O:Heap->Prop)
abbrev Hp:=Addr->Option HO
noncomputable def upd (H:Hp) (a:Addr) (o:HO):Hp:=fun b=>if b=a then some o else H b
theorem yK {H:Hp}{a:Addr}{o:HO}:upd H a o a=some o:=by unfold upd;rw [if_pos rfl]
theorem yO {H:Hp}{a b:Addr}{o:HO}(h:b≠a):upd H a o b=H b:=by unfold upd;rw [if_neg h]
theorem yDl {H:Hp}{a b:Addr}{o u:HO}(h:H a=some o) (h':H b=some u) (d:o≠u):a≠b:=by intro e;subst e;rw [h] at h';exact d (Option.some.inj h')
theorem ybB {H:Hp}{a b:Addr}{o:HO}(h:H a=some o) (h':H b=none):a≠b:=by grind
section
variable (P:Program) (w:World)
noncomputable def ObjOk (H:Hp) (h:Heap) (a:Addr):HO->Prop
 | .lst xs=>xs.length<=sizeLine/\∃ (its:List Value) (n:Nat),Vals xs its/\h.get? a=some { cls:=.type "list",data:=.seq its.toArray n }
 | .tup xs=>xs.length<=sizeLine/\∃ its:List Value,Vals xs its/\IsTup h a its.toArray
 | .dK kvs=>kvs.length<=sizeLine/\(a == sysModules)=false/\∃ vs,KV kvs vs/\h.DictOf (ycP P w) a vs
 | .dT kvs=>kvs.length<=sizeLine/\(a == sysModules)=false/\∃ xs:List (List Key×Addr×Value),
   Paired (fun (p:List Key×V) (q:List Key×Addr×Value)=>p.1=q.1/\H q.2.1=some (.tup (p.1.map kV))/\RelV p.2 q.2.2) kvs xs /\
   ∃ o es ep,h.get? a=some o/\o.ExactDict/\o.data=.dict es ep/\es.toList=xs.map (entryOfKey (tupleKind (ycP P w)))/\(xs.map (·.1)).Nodup
 | .set S n=>h.SetOf (intKind P w) a S n
 | .ins C dx fs=>H dx=some (.own a)/\fs.length<=1000/\dx≠a/\h.get? a=some (instObj C dx) /\
   ∃ mA,h.Ns1 dx mA/\(∀ f,RelO (fs.lookup f) (mA f))/\PySem.Within mA (fs.map (·.1))
 | .own _=>∃ o,h.get? a=some o
 | .xd fs=>∃ mA,h.Ns1 a mA/\∀ f,RelO (fs.lookup f) (mA f)
 | .rng lo hi=>∃ t u v,h.get? a=some { cls:=.type "range",data:=.fields #[.int lo t,.int hi u,.int 1 v] }
 | .frz o u=>h.get? a=some o/\ObjOk H h a u
 | .tbl ps=>h.get? a=some { cls:=.none,data:=.fields ps }
 | .met f x=>h.get? a=some (PySem.W.methodObj (.ref f) (.ref x))
 | .ext O=>O h/\(∃ o,h.get? a=some o)/\∀ h1 h2:Heap,O h1->(∀ o,h1.get? a=some o->h2.get? a=some o)->O h2
def HOk (H:Hp) (h:Heap):Prop:=∀ a o,H a=some o->ObjOk P w H h a o
end
section
variable {P:Program}{w:World}{H H':Hp}{h h':Heap}{a:Addr}{o:HO}
theorem ObjOk.lt (x:ObjOk P w H h a o):a<h.objs.size:=by
 cases o with
 | lst xs=>obtain ⟨_,_,_,_,e⟩:=x;exact Heap.lt_size e
 | tup xs=>obtain ⟨_,_,_,p⟩:=x;exact p.lt
 | dK kvs=>obtain ⟨_,_,_,_,o,_,_,e,_⟩:=x;exact Heap.lt_size e
 | dT kvs=>obtain ⟨_,_,_,_,o,_,_,e,_⟩:=x;exact Heap.lt_size e
 | set S n=>obtain ⟨o,_,_,_,e,_⟩:=x;exact Heap.lt_size e
 | ins C dx fs=>obtain ⟨_,_,_,e,_⟩:=x;exact Heap.lt_size e
 | own y=>obtain ⟨_,e⟩:=x;exact Heap.lt_size e
 | xd fs=>obtain ⟨_,⟨_,_,_,e,_⟩,_⟩:=x;exact Heap.lt_size e
 | rng lo hi=>obtain ⟨_,_,_,e⟩:=x;exact Heap.lt_size e
 | frz ob u=>obtain ⟨e,_⟩:=x;exact Heap.lt_size e
 | tbl ps=>exact Heap.lt_size (x)
 | met f y=>exact Heap.lt_size (x)
 | ext O=>obtain ⟨_,⟨_,e⟩,_⟩:=x;exact Heap.lt_size e
theorem Paired.mapP {Z d:Type}{F G:Z->d->Prop}:∀ {l₁:List Z}{l₂:List d},Paired F l₁ l₂->(∀ a b,F a b->G a b)->Paired G l₁ l₂
 | _,_,.nil,_=>.nil
 | _,_,.cons r t,f=>.cons (f _ _ r) (Paired.mapP t f)
theorem ObjOk.stay (x:ObjOk P w H h a o) (k:∀ b u,b=a\/H b=some (.own a)->h.get? b=some u->h'.get? b=some u)
  (l:∀ b,H b=some (.own a)->H' b=some (.own a)) (m:∀ b xs,H b=some (.tup xs)->H' b=some (.tup xs)):ObjOk P w H' h' a o:=by
 induction o with
 | lst xs=>obtain ⟨z,its,n,r,e⟩:=x;exact ⟨z,its,n,r,k _ _ (.inl rfl) e⟩
 | tup xs=>obtain ⟨z,its,r,ob,e,c⟩:=x;exact ⟨z,its,r,ob,k _ _ (.inl rfl) e,c⟩
 | dK kvs=>obtain ⟨z,y,vs,r,ob,es,ep,e,c⟩:=x;exact ⟨z,y,vs,r,ob,es,ep,k _ _ (.inl rfl) e,c⟩
 | dT kvs =>
  obtain ⟨z,y,xs,r,ob,es,ep,e,c⟩:=x;exact ⟨z,y,xs,Paired.mapP r fun p q z=>⟨z.1,m _ _ z.2.1,z.2.2⟩,ob,es,ep,k _ _ (.inl rfl) e,c⟩
 | set S n=>obtain ⟨ob,es,ep,t,e,c⟩:=x;exact ⟨ob,es,ep,t,k _ _ (.inl rfl) e,c⟩
 | ins C dx fs =>
  obtain ⟨d,z,j,e,i,⟨od,es,ep,s,c⟩,r⟩:=x;exact ⟨l _ d,z,j,k _ _ (.inl rfl) e,i,⟨od,es,ep,k _ _ (.inr d) s,c⟩,r⟩
 | own y=>obtain ⟨ob,e⟩:=x;exact ⟨ob,k _ _ (.inl rfl) e⟩
 | xd fs=>obtain ⟨i,⟨od,es,ep,e,c⟩,r⟩:=x;exact ⟨i,⟨od,es,ep,k _ _ (.inl rfl) e,c⟩,r⟩
 | rng lo hi=>obtain ⟨t,u,v,e⟩:=x;exact ⟨t,u,v,k _ _ (.inl rfl) e⟩
 | frz ob u ih=>obtain ⟨e,q⟩:=x;exact ⟨k _ _ (.inl rfl) e,ih q⟩
 | tbl ps =>
  have e:=x;exact k a _ (.inl rfl) e
 | met f y =>
  have e:=x;exact k a _ (.inl rfl) e
 | ext O=>obtain ⟨p,⟨o,e⟩,st⟩:=x;exact ⟨st _ _ p fun o q=>k _ _ (.inl rfl) q,⟨o,k _ _ (.inl rfl) e⟩,st⟩
theorem HOk.lt (x:HOk P w H h) (e:H a=some o):a<h.objs.size:=(x a o e).lt
theorem HOk.fresh (x:HOk P w H h) (e:h.objs.size<=a):H a=none:=by
 cases q:H a with
 | none=>rfl
 | some u=>exact absurd (lt_of_lt_of_le (x.lt q) e) (lt_irrefl _)
theorem HOk.kept (x:HOk P w H h) (k:∀ b u,h.get? b=some u->h'.get? b=some u):HOk P w H h':=fun a o e =>
 (x a o e).stay (fun b u _ q=>k b u q) (fun _ q=>q) fun _ _ q=>q
theorem HOk.laid (x:HOk P w H h) (k:∀ b u,h.get? b=some u->h'.get? b=some u) (hp:h.objs.size<=a) (new:ObjOk P w (upd H a o) h' a o):HOk P w (upd H a o) h':=fun b u e=>by
 have hn:=x.fresh hp
 by_cases hb:b=a
 .subst hb;rw [yK] at e;cases e;exact new
 .rw [yO hb] at e;exact (x b u e).stay (fun c v _ q=>k c v q) (fun c q=>by rw [yO (ybB q hn)];exact q) fun c xs q=>by rw [yO (ybB q hn)];exact q
end
noncomputable def Rd (H:Hp) (a:Addr) (u:HO):Prop:=H a=some u\/∃ o,H a=some (.frz o u)
theorem Rd.ok {P:Program}{w:World}{H:Hp}{h:Heap}{a:Addr}{u:HO}(r:Rd H a u) (x:HOk P w H h):ObjOk P w H h a u:=by
 rcases r with r|⟨o,r⟩
 .exact x a u r
 .obtain ⟨_,q⟩:=x a _ r;exact q
noncomputable def Mut:Option HO->Prop
 | some (.lst _)=>True
 | some (.dK _)=>True
 | some (.dT _)=>True
 | some (.set _ _)=>True
 | some (.ins _ _ _)=>True
 | some (.ext _)=>True
 | _=>False
section
variable {P:Program}{w:World}{H:Hp}{h h':Heap}{x e:Addr}{o':HO}
theorem HOk.write (p:HOk P w H h) (g:Mut (H x)) (t:e=x\/H e=some (.own x)) (k:∀ b u,b≠e->h.get? b=some u->h'.get? b=some u) (l:∃ u,h'.get? e=some u)
  (i:ObjOk P w (upd H x o') h' x o'):HOk P w (upd H x o') h':=fun b u q=>by
 have f:∀ c y,H c=some (.own y)->c≠x:=fun c y r z=>by subst z;rw [r] at g;exact g
 have d:∀ c xs,H c=some (.tup xs)->c≠x:=fun c xs r z=>by subst z;rw [r] at g;exact g
 by_cases m:b=x
 .subst m;rw [yK] at q;cases q;exact i
 .rw [yO m] at q
  by_cases j:b=e
  .have n:H b=some (.own x):=by grind
   rw [q] at n;cases n;obtain ⟨v,o⟩:=l;exact ⟨v,by rw [j];exact o⟩
  .refine (p b u q).stay (fun c v s r=>k c v ?_ r) (fun c r=>by rw [yO (f c b r)];exact r) fun c xs r=>by rw [yO (d c xs r)];exact r
   grind
end
structure Un (fs ex:List Addr) (H H':Hp) (h h':Heap):Prop where
 keep:∀ b o,h.get? b=some o->H b=none->b∉fs->b∉ex->h'.get? b=some o
 slot:∀ b o,h.get? b=some o->H b=none->b∈fs->b∉ex->∃ sl,h'.get? b=some { o with slots:=sl }
 free:∀ b o,h.get? b=some o->H b=none->b∉ex->H' b=none
 there:∀ b o,h.get? b=some o->b∉ex->∃ o',h'.get? b=some o'
 tups:∀ b xs,H b=some (.tup xs)->H' b=some (.tup xs)
 frzs:∀ b o u,H b=some (.frz o u)->H' b=some (.frz o u)
 tbls:∀ b ps,H b=some (.tbl ps)->∃ more,H' b=some (.tbl (ps++more))
section
variable {fs fs' ex ex':List Addr}{H H1 H2:Hp}{h h1 h2 h':Heap}{a x e:Addr}{o:HO}
theorem Un.any (u:Un fs ex H H1 h h1) {b:Addr}{ob:Obj}(q:h.get? b=some ob) (n:H b=none) (hx:b∉ex):∃ sl,h1.get? b=some { ob with slots:=sl }:=by
 by_cases hb:b∈fs
 .exact u.slot b ob q n hb hx
 .exact ⟨ob.slots,u.keep b ob q n hb hx⟩
theorem Un.kept (k:∀ b u,h.get? b=some u->h'.get? b=some u):Un fs ex H H h h' :=
 ⟨fun b c q _ _ _=>k b c q,fun b c q _ _ _=>⟨c.slots,k b c q⟩,fun _ _ _ n _=>n,fun b c q _=>⟨c,k b c q⟩,fun _ _ q=>q,fun _ _ _ q=>q,fun _ ps q=>⟨#[],by rw [q];simp⟩⟩
theorem Un.refl:Un fs ex H H h h:=Un.kept fun _ _ q=>q
theorem Un.laid (k:∀ b u,h.get? b=some u->h'.get? b=some u) (hp:h.objs.size<=a) (hn:H a=none):Un fs ex H (upd H a o) h h' where
 keep:=fun b u q _ _ _=>k b u q
 slot:=fun b u q _ _ _=>⟨u.slots,k b u q⟩
 free:=fun b u q n _=>by rw [yO (ne_of_lt (lt_of_lt_of_le (Heap.lt_size q) hp))];exact n
 there:=fun b u q _=>⟨u,k b u q⟩
 tups:=fun b xs q=>by rw [yO (ybB q hn)];exact q
 frzs:=fun b u xs q=>by rw [yO (ybB q hn)];exact q
 tbls:=fun b ps q=>⟨#[],by rw [yO (ybB q hn),q];simp⟩
theorem Un.write (f:Mut (H x)) (l:e=x\/H e=some (.own x)) (k:∀ b u,b≠e->h.get? b=some u->h'.get? b=some u) (i:∃ u,h'.get? e=some u):Un fs ex H (upd H x o) h h':=by
 have j:∀ b,H b=none->b≠x:=fun b n z=>by subst z;rw [n] at f;exact f
 have g:∀ b,H b=none->b≠e:=fun b n z=>by grind
 have d:∀ b u,H b=some u->¬ Mut (some u)->b≠x:=fun b u q nm z=>by simp_all
 refine ⟨fun b u q n _ _=>k b u (g b n) q,fun b u q n _ _=>⟨u.slots,k b u (g b n) q⟩,fun b u q n _=>by rw [yO (j b n)];exact n,fun b u q _=>?_,
  fun b xs q=>by rw [yO (d b _ q fun z=>z)];exact q,fun b u xs q=>by rw [yO (d b _ q fun z=>z)];exact q,fun b ps q=>⟨#[],by rw [yO (d b _ q fun z=>z),q];simp⟩⟩
 grind
end
noncomputable def trk (h:Heap) (H:Hp):List Addr:=(List.range h.objs.size).filter fun a=>(H a).isSome
def ytH (h:Heap) (H:Hp):Heap:=PySem.W.hideAll h (trk h H)
theorem yqo h H:(ytH h H).objs.size=h.objs.size:=PySem.W.hideAll_size _ _
theorem ytI {h:Heap}{H:Hp}{b:Addr}{o:Obj}(e:h.get? b=some o) (n:H b=none):(ytH h H).get? b=some o :=
 PySem.W.hideAll_get _ e fun hm=>by have q:(H b).isSome=true:=(List.mem_filter.mp hm).2;rw [n] at q;simp at q
theorem yxs {h:Heap}{H:Hp}{b:Addr}{o:Obj}(e:(ytH h H).get? b=some o):h.get? b=some o/\H b=none:=by
 have e':h.get? b=some o:=PySem.W.of_hideAll (trk h H) e;refine ⟨e',?_⟩;cases q:H b with
 | none=>rfl
 | some x =>
  have hm:b∈trk h H:=List.mem_filter.mpr ⟨List.mem_range.mpr (Heap.lt_size e'),by simp [q]⟩;have z:(ytH h H).get? b=none:=PySem.W.hideAll_none (trk h H) hm;rw [z] at e;cases e
noncomputable def yxt (g h:Heap) (L:Addr):List (Addr×Obj):=(List.range h.objs.size).filterMap fun a=>if a=L\/(g.get? a).isSome=true then none else (h.get? a).map fun o=>(a,o)
noncomputable def rest (g h:Heap) (L d:Addr):List (Addr×Obj):=(yxt g h L).filter fun p=>decide (p.1≠d)
structure Mod (K:PySem.W.Frag) (mg:Str->Option Value) (base:Heap):Prop where
 kin:K.In base
 glob:base.Ns mainGlobals mg
 blt:∃ mb,base.Ns builtinsNs mb/\∀ x:Str,x≠"__name__"->mb x=bootBuiltins x
 nolimit:base.NoLimit
structure Cx where
 prog:Program
 w:World
 K:PySem.W.Frag
 mg:Str->Option Value
 base:Heap
 A:Around
 N:List Str
 s₀:Shared
 H₀:Hp
 env:Env
 outer:List Env
 stack:List Env
 ex:List Addr
 fn:Str->Bool
 calm:Bool
 pn:List (Addr×Obj)
 xe:Value->Shared->Prop
noncomputable def frs (l:List Env):List Addr:=l.filterMap (·.frame)
abbrev Cx.fs (X:Cx):List Addr:=frs X.outer
noncomputable def Vis (sc:Scope) (x:Str):Prop:=sc.names.lookup x=some .local \/ sc.names.lookup x=some .cell\/sc.names.lookup x=some .free
noncomputable def Loc (sc:Scope) (x:Str):Prop:=sc.names.lookup x=some .local \/ sc.names.lookup x=some .cell
noncomputable def Look (env:Env) (h:Heap) (m:Str->Option Value) (x:Str) (u:Value):Prop :=
 (env.kindOf x=some .local/\m x=some u)\/((env.kindOf x=some .cell\/env.kindOf x=some .free)/\∃ c,env.cells.lookup x=some c/\h.IsCell c (some u))
structure Cx.Ok (X:Cx):Prop where
 mod:Mod X.K X.mg X.base
 kind:X.env.scope.kind=.function
 glob:X.env.globals=mainGlobals
 blt:X.env.builtins=builtinsNs
 above:X.s₀.heap.objs.size<=X.env.locals
 inj:∀ x y c,X.env.cells.lookup x=some c->X.env.cells.lookup y=some c->x=y
 has:∀ x,(X.env.kindOf x=some .cell\/X.env.kindOf x=some .free)->∃ c,X.env.cells.lookup x=some c
 cab:∀ x c,X.fn x=true->X.env.cells.lookup x=some c->X.s₀.heap.objs.size<=c
 hd:X.calm=true->X.A.handled=none
 frames:X.A.frames=some X.stack
 stk:X.stack=X.outer\/(X.stack=X.env::X.outer/\X.env.frame=some X.env.locals)
 exf:∀ b∈X.ex,b≠X.env.locals/\∀ x c,X.env.cells.lookup x=some c->c≠b
 bs:∀ b o,X.base.get? b=some o->X.s₀.heap.get? b=some o/\X.H₀ b=none
 bsz:X.base.objs.size<=X.s₀.heap.objs.size
 noex:∀ b o,X.base.get? b=some o->b∉X.ex
 exfs:∀ b∈X.ex,b∉X.fs
 funs:X.s₀.heap.FunFrames X.base X.outer
 frf:∀ b∈X.fs,X.H₀ b=none
structure Inv (X:Cx) (pins:List (Addr×Obj)) (Z:List (Option V)) (H:Hp) (s:Shared):Prop where
 ok:X.Ok
 os:s.os=X.s₀.os
 bare:AllBare s.gens
 base:Un X.fs X.ex X.H₀ H X.s₀.heap s.heap
 loc:∃ m,s.heap.Ns X.env.locals m/\∀ (i:Nat) (x:Str) (v:V),X.N[i]?=some x->Z[i]?=some (some v)->Vis X.env.scope x->∃ u,RelV v u/\Look X.env s.heap m x u
 cell:∀ x c,X.env.cells.lookup x=some c->∃ v,s.heap.IsCell c v
 free:H X.env.locals=none
 freeC:∀ x c,X.env.cells.lookup x=some c->H c=none
 pin:∀ p∈X.pn++pins,s.heap.get? p.1=some p.2/\H p.1=none/\p.1≠X.env.locals/\p.1∉X.fs/\∀ v,p.2.data≠.cell v
 hok:HOk X.prog X.w H s.heap
 len:Z.length=X.N.length
section
variable {X:Cx}{pins:List (Addr×Obj)}{K:List (Option V)}{H H':Hp}{s:Shared}{h':Heap}
theorem Cx.Ok.nofr (c:X.Ok) {b:Addr}{o:Obj}(e:X.base.get? b=some o):b∉X.fs:=fun a=>by have:=(c.funs.mem a).1;simp_all
theorem Inv.bs (I:Inv X pins K H s):∀ b o,X.base.get? b=some o->s.heap.get? b=some o/\H b=none:=fun b o e =>
 ⟨I.base.keep b o (I.ok.bs b o e).1 (I.ok.bs b o e).2 (I.ok.nofr e) (I.ok.noex b o e),I.base.free b o (I.ok.bs b o e).1 (I.ok.bs b o e).2 (I.ok.noex b o e)⟩
theorem Inv.bk (I:Inv X pins K H s):∀ b o,X.base.get? b=some o->s.heap.get? b=some o:=fun b o e=>(I.bs b o e).1
theorem Inv.mod (I:Inv X pins K H s):Mod X.K X.mg X.base:=I.ok.mod
theorem Inv.kIn (I:Inv X pins K H s):X.K.In s.heap:=I.ok.mod.kin.keeps I.bk
theorem Inv.lt (I:Inv X pins K H s):X.env.locals<s.heap.objs.size:=let ⟨_,a,_⟩:=I.loc;a.lt
theorem Inv.sz (I:Inv X pins K H s):X.s₀.heap.objs.size<=s.heap.objs.size:=Nat.le_trans I.ok.above (le_of_lt I.lt)
theorem Inv.nofs (I:Inv X pins K H s) {a:Addr}(h:s.heap.objs.size<=a):a∉X.fs:=fun b=>by obtain ⟨_,o,c,_⟩:=I.ok.funs.mem b;exact absurd (lt_of_lt_of_le (Heap.lt_size c) (Nat.le_trans I.sz h)) (lt_irrefl _)
theorem Inv.cne (I:Inv X pins K H s):∀ x c,X.env.cells.lookup x=some c->c≠X.env.locals:=fun x c e z=>by obtain ⟨v,o,d,g⟩:=I.cell x c e;obtain ⟨m,⟨f,es,ep,a,b,_⟩,_⟩:=I.loc;grind
theorem Inv.funs (I:Inv X pins K H s):s.heap.FunFrames X.base X.outer:=by
 have all:∀ (l:List Env),(∀ b∈frs l,b∈X.fs)->X.s₀.heap.FunFrames X.base l->s.heap.FunFrames X.base l:=by
  intro l
  induction l with
  | nil=>intro _ _;trivial
  | cons env r ih =>
   intro hs hl;obtain ⟨hk,⟨L,o,hf,hn,ho,hd⟩,hr⟩:=hl;have hL:L∈X.fs:=hs L (by unfold frs;rw [List.filterMap_cons,hf];exact mem_cons_self);obtain ⟨sl,e⟩:=I.base.slot L o ho (I.ok.frf L hL) hL fun z=>I.ok.exfs L z hL
   exact ⟨hk,⟨L,_,hf,hn,e,hd⟩,ih (fun b hb=>hs b (by unfold frs;rw [List.filterMap_cons,hf];exact mem_cons_of_mem _ hb)) hr⟩
 exact all X.outer (fun _ hb=>hb) I.ok.funs
theorem Inv.stack (I:Inv X pins K H s):s.heap.FunFrames X.base X.stack:=by
 rcases I.ok.stk with e|⟨e,b⟩
 .rw [e];exact I.funs
 .rw [e];obtain ⟨m,a,_⟩:=I.loc;exact .cons (by rw [I.ok.kind];decide) b a (Heap.get?_none_of_le (Nat.le_trans I.ok.bsz I.ok.above)) I.funs
theorem Inv.stkSub (I:Inv X pins K H s):∀ b∈frs X.stack,b∈X.env.locals::X.fs:=fun b hb=>by
 rcases I.ok.stk with e|⟨e,hf⟩
 .rw [e] at hb;exact mem_cons_of_mem _ hb
 .rw [e] at hb;unfold frs at hb;rw [List.filterMap_cons,hf] at hb;exact hb
theorem Inv.stkFree (I:Inv X pins K H s):∀ b∈frs X.stack,H b=none:=fun b a=>by
 rcases mem_cons.mp (I.stkSub b a) with e|a
 .rw [e];exact I.free
 .obtain ⟨_,o,c,_⟩:=I.ok.funs.mem a;exact I.base.free b o c (I.ok.frf b a) fun z=>I.ok.exfs b z a
theorem Inv.step {g':Array GenState}{t':Nat}{d':Drawn}{ch:List Addr}(I:Inv X pins K H s)
  (hch:∀ b∈ch,(b∈X.ex\/X.s₀.heap.objs.size<=b)/\b≠X.env.locals/\(∀ x c,X.env.cells.lookup x=some c->c≠b)/\∀ p∈X.pn++pins,p.1≠b)
  (keep:∀ b o,b≠X.env.locals->b∉X.fs->b∉ch->s.heap.get? b=some o->H b=none->h'.get? b=some o)
  (slot:∀ b o,b≠X.env.locals->b∈X.fs->b∉ch->s.heap.get? b=some o->H b=none->∃ sl,h'.get? b=some { o with slots:=sl }) (free:∀ b o,b∉ch->s.heap.get? b=some o->H b=none->H' b=none)
  (there:∀ b o,b∉ch->s.heap.get? b=some o->∃ o',h'.get? b=some o')
  (tups:∀ b xs,H b=some (.tup xs)->H' b=some (.tup xs)) (frzs:∀ b o u,H b=some (.frz o u)->H' b=some (.frz o u)) (tbls:∀ b ps,H b=some (.tbl ps)->∃ more,H' b=some (.tbl (ps++more)))
  (ns:∀ m,s.heap.Ns X.env.locals m->h'.Ns X.env.locals m) (hok:HOk X.prog X.w H' h') (hg:AllBare g') :
  Inv X pins K H' { s with heap:=h',gens:=g',drawn:=d',toks:=t' }:=by
 have neL:∀ b o,X.s₀.heap.get? b=some o->b≠X.env.locals:=fun b o e=>ne_of_lt (lt_of_lt_of_le (Heap.lt_size e) I.ok.above)
 have neC:∀ b o,X.s₀.heap.get? b=some o->b∉X.ex->b∉ch:=fun b o e hx hb=>by
  rcases (hch b hb).1 with z|z
  .exact hx z
  .exact absurd (lt_of_lt_of_le (Heap.lt_size e) z) (lt_irrefl _)
 have cellK:∀ x c,X.env.cells.lookup x=some c->∀ v,s.heap.IsCell c v->h'.IsCell c v:=fun x c e v ⟨o,ho,hd⟩=>by
  have nch:c∉ch:=fun z=>(hch c z).2.2.1 x c e rfl
  by_cases hc:c∈X.fs
  .obtain ⟨sl,q⟩:=slot c o (I.cne x c e) hc nch ho (I.freeC x c e);exact ⟨_,q,hd⟩
  .exact ⟨o,keep c o (I.cne x c e) hc nch ho (I.freeC x c e),hd⟩
 refine ⟨I.ok,I.os,hg,⟨fun b o e n hb hx=>?_,fun b o e n hb hx=>?_,fun b o e n hx=>?_,fun b o e hx=>?_,fun b xs e=>tups b xs (I.base.tups b xs e),fun b o xs e=>frzs b o xs (I.base.frzs b o xs e),fun b ps e=>?_⟩,?_,fun x c e=>?_,?_,fun x c e=>?_,fun p hp=>?_,hok,I.len⟩
 .exact keep b o (neL b o e) hb (neC b o e hx) (I.base.keep b o e n hb hx) (I.base.free b o e n hx)
 .obtain ⟨sl,e1⟩:=I.base.slot b o e n hb hx;obtain ⟨sl',e2⟩:=slot b _ (neL b o e) hb (neC b o e hx) e1 (I.base.free b o e n hx);exact ⟨sl',e2⟩
 .obtain ⟨o',e1⟩:=I.base.there b o e hx;exact free b o' (neC b o e hx) e1 (I.base.free b o e n hx)
 .obtain ⟨o',e1⟩:=I.base.there b o e hx;exact there b o' (neC b o e hx) e1
 .obtain ⟨m1,e1⟩:=I.base.tbls b ps e;obtain ⟨m2,e2⟩:=tbls b _ e1;exact ⟨m1++m2,by rw [e2,Array.append_assoc]⟩
 .obtain ⟨m,hn,hl⟩:=I.loc;refine ⟨m,ns m hn,fun i x v e1 e2 e3=>?_⟩;obtain ⟨u,r,l⟩:=hl i x v e1 e2 e3;refine ⟨u,r,?_⟩;rcases l with l|⟨k,c,e,z⟩
  .exact .inl l
  .exact .inr ⟨k,c,e,cellK x c e _ z⟩
 .obtain ⟨v,z⟩:=I.cell x c e;exact ⟨v,cellK x c e v z⟩
 .obtain ⟨m,⟨o,_,_,ho,_⟩,_⟩:=I.loc;exact free _ o (fun z=>(hch _ z).2.1 rfl) ho I.free
 .obtain ⟨v,o,ho,hd⟩:=I.cell x c e;exact free c o (fun z=>(hch c z).2.2.1 x c e rfl) ho (I.freeC x c e)
 .obtain ⟨e,n,ne,nf,d⟩:=I.pin p hp;have nch:p.1∉ch:=fun z=>(hch p.1 z).2.2.2 p hp rfl
  exact ⟨keep p.1 p.2 ne nf nch e n,free p.1 p.2 nch e n,ne,nf,d⟩
theorem Inv.un {t':Nat}(I:Inv X pins K H s) (u:Un X.fs [] H H' s.heap h') (f:HOk X.prog X.w H' h'):Inv X pins K H' { s with heap:=h',toks:=t' }:=by obtain ⟨m,⟨o,es,ep,h,r⟩,_⟩:=id I.loc;obtain ⟨sl,k⟩:=u.any h I.free (by simp);exact I.step (ch:=[]) (fun _ z=>nomatch z) (fun b o _ g _ e n=>u.keep b o e n g (by simp)) (fun b o _ g _ e n=>u.slot b o e n g (by simp)) (fun b o _ e n=>u.free b o e n (by simp)) (fun b o _ e=>u.there b o e (by simp)) u.tups u.frzs u.tbls (fun m' j=>by obtain ⟨l,c,d,a,i⟩:=j;rw [h] at a;cases a;exact ⟨_,c,d,k,i⟩) f I.bare
theorem Inv.call {g':Array GenState}{t':Nat}{d':Drawn}{ch:List Addr}(I:Inv X pins K H s) (u:Un (frs X.stack) ch H H' s.heap h') (i:HOk X.prog X.w H' h') (v:AllBare g')
  (f:∀ b∈ch,(b∈X.ex\/X.s₀.heap.objs.size<=b)/\b≠X.env.locals/\(∀ x c,X.env.cells.lookup x=some c->c≠b)/\∀ p∈X.pn++pins,p.1≠b) :
  Inv X pins K H' { s with heap:=h',gens:=g',drawn:=d',toks:=t' }:=by
 obtain ⟨m,⟨o,es,ep,k,r⟩,_⟩:=id I.loc;obtain ⟨sl,j⟩:=u.any k I.free fun z=>(f _ z).2.1 rfl
 exact I.step f (fun b o j l a e n=>u.keep b o e n (fun z=>(mem_cons.mp (I.stkSub b z)).elim j l) a) (fun b o _ _ a e n=>u.any e n a) (fun b o a e n=>u.free b o e n a) (fun b o a e=>u.there b o e a) u.tups u.frzs u.tbls (fun m' q=>by obtain ⟨w,g,h,d,t⟩:=q;rw [k] at d;cases d;exact ⟨_,g,h,j,t⟩) i v
theorem Inv.turned {t':Nat}{it:Addr}(I:Inv X pins K H s) (k:∀ b o,b≠it->s.heap.get? b=some o->h'.get? b=some o) (hn:H it=none) (hL:it≠X.env.locals)
  (h1:it∈X.ex\/X.s₀.heap.objs.size<=it) (h2:∀ x c,X.env.cells.lookup x=some c->c≠it) (h3:∀ p∈X.pn++pins,p.1≠it):Inv X pins K H { s with heap:=h',toks:=t' }:=by
 have nit:∀ b u,H b=some u->b≠it:=fun b u e z=>by rw [z,hn] at e;cases e
 refine I.step (g':=s.gens) (d':=s.drawn) (ch:=[it]) (fun b hb=>?_) (fun b o _ _ hc e _=>k b o (fun z=>hc (by simp [z])) e) (fun b o _ _ hc e _=>⟨o.slots,k b o (fun z=>hc (by simp [z])) e⟩) (fun _ _ _ _ n=>n)
  (fun b o hc e=>⟨o,k b o (fun z=>hc (by simp [z])) e⟩) (fun _ _ e=>e) (fun _ _ _ e=>e) (fun b ps e=>⟨#[],by rw [e];simp⟩) (fun m hm=>?_) (fun b u e=>?_) I.bare
 .have e:b=it:=by simpa using hb
  subst e;exact ⟨h1,hL,h2,h3⟩
 .obtain ⟨o,es,ep,ho,r⟩:=hm;exact ⟨o,es,ep,k _ o (Ne.symm hL) ho,r⟩
 .refine (I.hok b u e).stay (fun c v hc q=>k c v ?_ q) (fun _ q=>q) fun _ _ q=>q
  rcases hc with z|z
  .rw [z];exact nit b u e
  .exact nit c _ z
theorem Inv.tok (I:Inv X pins K H s) t:Inv X pins K H { s with toks:=t }:=I.un Un.refl I.hok
theorem Inv.kept {t':Nat}(I:Inv X pins K H s) (k:∀ b u,s.heap.get? b=some u->h'.get? b=some u):Inv X pins K H { s with heap:=h',toks:=t' }:=I.un (Un.kept k) (I.hok.kept k)
theorem Inv.laid {a:Addr}{o:HO}{t':Nat}(I:Inv X pins K H s) (k:∀ b u,s.heap.get? b=some u->h'.get? b=some u) (hp:s.heap.objs.size<=a) (new:ObjOk X.prog X.w (upd H a o) h' a o) :
  Inv X pins K (upd H a o) { s with heap:=h',toks:=t' }:=I.un (Un.laid k hp (I.hok.fresh hp)) (I.hok.laid k hp new)
theorem Inv.write {x e:Addr}{o:HO}{t':Nat}(I:Inv X pins K H s) (d:Mut (H x)) (f:e=x\/H e=some (.own x)) (k:∀ b u,b≠e->s.heap.get? b=some u->h'.get? b=some u) (a:∃ u,h'.get? e=some u)
  (c:ObjOk X.prog X.w (upd H x o) h' x o):Inv X pins K (upd H x o) { s with heap:=h',toks:=t' }:=I.un (Un.write d f k a) (I.hok.write d f k a c)
theorem Inv.pins_of {a:List _}(I:Inv X pins K H s) (h:∀ p∈a,s.heap.get? p.1=some p.2/\H p.1=none/\p.1≠X.env.locals/\p.1∉X.fs/\∀ v,p.2.data≠.cell v):Inv X a K H s :=
 ⟨I.ok,I.os,I.bare,I.base,I.loc,I.cell,I.free,I.freeC,fun p hp=>(List.mem_append.mp hp).elim (fun z=>I.pin p (mem_append_left _ z)) (h p),I.hok,I.len⟩
theorem yod {N:List Str}(d:N.Nodup) {i j:Nat}{x:Str}(a:N[i]?=some x) (b:N[j]?=some x):i=j:=by obtain ⟨h1,e⟩:=List.getElem?_eq_some_iff.mp a;obtain ⟨h2,c⟩:=List.getElem?_eq_some_iff.mp b;exact (List.getElem_inj d).mp (e.trans c.symm)
theorem yqp {M:Model}{A:Around}{E:Value->Shared->Prop}{i:Nat}{x:Str}{v:V}{u:Value}{Q:Unit->Shared->Prop}(I:Inv X pins K H s) (hN:X.N.Nodup) (S:X.N[i]?=some x) (t:Loc X.env.scope x) (r:RelV v u)
  (h:∀ s',Inv X pins (K.set i (some v)) H s'->(∃ a,Heap.SameBut a s.heap s'.heap/\(a=X.env.locals\/X.env.cells.lookup x=some a))->Q () s') (hf:X.fn x=true\/X.env.scope.names.lookup x=some .local:=by first|exact .inl rfl|exact .inr rfl|assumption):wpAny M A (storeName X.env x u) Q E s:=by
 obtain ⟨m,hn,hl⟩:=id I.loc;have P:(X.env.scope.kind == .class || (X.env.scope.kind == .module && X.env.locals != X.env.globals))=false:=by rw [I.ok.kind];rfl
 have D:i<K.length:=by rw [I.len];exact (List.getElem?_eq_some_iff.mp S).1
 have L:=I.cne;have g:∀ {a:Addr}{h':Heap},(∃ o,s.heap.get? a=some o/\H a=none)->Heap.SameBut a s.heap h'->HOk X.prog X.w H h':=fun {a h'} ha hs b ob e=>by
  obtain ⟨_,_,w⟩:=ha;refine (I.hok b ob e).stay (fun c W l q=>(hs.2 c ?_).trans q) (fun _ q=>q) fun _ _ q=>q
  rintro rfl;rcases l with rfl|l
  .rw [w] at e;cases e
  .rw [w] at l;cases l
 rcases t with C|C
 .refine wpAny_storeName_local C hn (fun h' hn' hs=>?_) P;obtain ⟨oL,_,_,Z,_⟩:=id hn;refine h _ ⟨I.ok,I.os,I.bare,⟨fun b o e n G t=>?_,fun b o e n G t=>?_,I.base.free,fun b o e t=>?_,I.base.tups,I.base.frzs,I.base.tbls⟩,⟨_,hn',fun j y v' f B e3=>?_⟩,fun y c e=>?_,I.free,I.freeC,fun p hp=>?_,g ⟨oL,Z,I.free⟩ hs,by simpa using I.len⟩ ⟨_,hs,.inl rfl⟩
  .exact (hs.2 b (ne_of_lt (lt_of_lt_of_le (Heap.lt_size e) I.ok.above))).trans (I.base.keep b o e n G t)
  .obtain ⟨sl,f⟩:=I.base.slot b o e n G t;exact ⟨sl,(hs.2 b (ne_of_lt (lt_of_lt_of_le (Heap.lt_size e) I.ok.above))).trans f⟩
  .obtain ⟨o',f⟩:=I.base.there b o e t;exact ⟨o',(hs.2 b (ne_of_lt (lt_of_lt_of_le (Heap.lt_size e) I.ok.above))).trans f⟩
  .by_cases F:j=i
   .subst F;rw [S] at f;cases f;rw [getElem?_set_self D] at B;cases B;exact ⟨u,r,.inl ⟨C,by simp⟩⟩
   .rw [getElem?_set_ne (Ne.symm F)] at B;obtain ⟨Y,r',q⟩:=hl j y v' f B e3;refine ⟨Y,r',?_⟩;rcases q with ⟨k,e⟩|⟨k,c,e,z⟩
    .refine .inl ⟨k,?_⟩;have:y≠x:=fun e=>F (yod hN f (e ▸ S))
     simp [this,e]
    .exact .inr ⟨k,c,e,z.sameBut hs (L y c e)⟩
  .obtain ⟨W,z⟩:=I.cell y c e;exact ⟨W,z.sameBut hs (L y c e)⟩
  .obtain ⟨e,n,U,nf,d⟩:=I.pin p hp;exact ⟨(hs.2 p.1 U).trans e,n,U,nf,d⟩
 .have J:X.fn x=true:=by
   rcases hf with z|z
   .exact z
   .rw [z] at C;cases C
  obtain ⟨c,l⟩:=I.ok.has x (.inl C);obtain ⟨W,z⟩:=I.cell x c l;refine wpAny_storeName_cell I.ok.kind C l z (fun h' N hs=>?_);obtain ⟨oc,R,O⟩:=id z;refine h { s with heap:=h' } ⟨I.ok,I.os,I.bare,⟨fun b o e n G t=>?_,fun b o e n G t=>?_,I.base.free,fun b o e t=>?_,I.base.tups,I.base.frzs,I.base.tbls⟩,⟨m,hn.sameBut hs (Ne.symm (L x c l)),fun j y v' f B e3=>?_⟩,fun y c' e=>?_,I.free,I.freeC,fun p hp=>?_,g ⟨oc,R,I.freeC x c l⟩ hs,by simpa using I.len⟩ ⟨c,hs,.inr l⟩
  .exact (hs.2 b (ne_of_lt (lt_of_lt_of_le (Heap.lt_size e) (I.ok.cab x c J l)))).trans (I.base.keep b o e n G t)
  .obtain ⟨sl,f⟩:=I.base.slot b o e n G t;exact ⟨sl,(hs.2 b (ne_of_lt (lt_of_lt_of_le (Heap.lt_size e) (I.ok.cab x c J l)))).trans f⟩
  .obtain ⟨o',f⟩:=I.base.there b o e t;exact ⟨o',(hs.2 b (ne_of_lt (lt_of_lt_of_le (Heap.lt_size e) (I.ok.cab x c J l)))).trans f⟩
  .by_cases F:j=i
   .subst F;rw [S] at f;cases f;rw [getElem?_set_self D] at B;cases B;exact ⟨u,r,.inr ⟨.inl C,c,l,N⟩⟩
   .rw [getElem?_set_ne (Ne.symm F)] at B;obtain ⟨Y,r',q⟩:=hl j y v' f B e3;refine ⟨Y,r',?_⟩;rcases q with q|⟨k,c',e,z'⟩
    .exact .inl q
    .refine .inr ⟨k,c',e,z'.sameBut hs ?_⟩;rintro rfl;exact F (yod hN f (I.ok.inj _ _ _ e l ▸ S))
  .by_cases T:c'=c
   .subst T;exact ⟨_,N⟩
   .obtain ⟨w2,z2⟩:=I.cell y c' e;exact ⟨w2,z2.sameBut hs T⟩
  .obtain ⟨e,n,U,nf,d⟩:=I.pin p hp;refine ⟨(hs.2 p.1 ?_).trans e,n,U,nf,d⟩;intro q;rw [q,R] at e;have q':oc=p.2:=Option.some.inj e;exact d W (by rw [<- q'];exact O)
theorem yoe {M:Model}{A:Around}{E:Value->Shared->Prop}{i:Nat}{x:Str}{v:V}{u:Value}{Q:Unit->Shared->Prop}(I:Inv X pins K H s) (b:X.N.Nodup) (a:X.N[i]?=some x) (d:Loc X.env.scope x) (r:RelV v u)
  (h:∀ s',Inv X pins (K.set i (some v)) H s'->Q () s') (e:X.fn x=true\/X.env.scope.names.lookup x=some .local:=by first|exact .inl rfl|exact .inr rfl|assumption):wpAny M A (storeName X.env x u) Q E s :=
 yqp I b a d r (fun s' c _=>h s' c) e
theorem Inv.call' {s':Shared}{ch:List Addr}(I:Inv X pins K H s) (g:s'.os=s.os) (u:Un (frs X.stack) ch H H' s.heap s'.heap) (a:HOk X.prog X.w H' s'.heap) (f:AllBare s'.gens)
  (d:∀ b∈ch,(b∈X.ex\/X.s₀.heap.objs.size<=b)/\b≠X.env.locals/\(∀ x c,X.env.cells.lookup x=some c->c≠b)/\∀ p∈X.pn++pins,p.1≠b):Inv X pins K H' s':=by
 obtain ⟨h',g',d',t',h⟩:=s';have e:=g;subst e;exact I.call u a f d
end
noncomputable abbrev XK:=Value->Option Addr->Hp->Prop
abbrev St:=List (Option V)
abbrev VK:=V->Hp->Prop
abbrev TE:=St->Hp->VK->Prop
noncomputable abbrev TT:=St->Hp->(Bool->Hp->Prop)->Prop
noncomputable abbrev TA:=St->Hp->(List V->Hp->Prop)->Prop
structure Ends where
 nx:St->Hp->Prop
 rt:VK
 bk:St->Hp->Prop:=fun _ _=>False
 ct:St->Hp->Prop:=fun _ _=>False
abbrev TS:=Ends->St->Hp->Prop
def EP (X:Cx) (pins:List (Addr×Obj)) (Z:St) (Q:VK) (u:Value) (s':Shared):Prop:=∃ v H',Inv X pins Z H' s'/\RelV v u/\Q v H'
noncomputable def TP (X:Cx) (pins:List (Addr×Obj)) (Z:St) (Q:Bool->Hp->Prop) (b:Bool) (s':Shared):Prop:=∃ H',Inv X pins Z H' s'/\Q b H'
def AP (X:Cx) (pins:List (Addr×Obj)) (Z:St) (Q:List V->Hp->Prop) (us:List Value) (s':Shared):Prop:=∃ vs H',Inv X pins Z H' s'/\Vals vs us/\Q vs H'
def SP (X:Cx) (pins:List (Addr×Obj)) (D:Ends) (f:Flow) (s':Shared):Prop :=
 match f with
 | .next=>∃ Z' H',Inv X pins Z' H' s'/\D.nx Z' H'
 | .brk=>∃ Z' H',Inv X pins Z' H' s'/\D.bk Z' H'
 | .cont=>∃ Z' H',Inv X pins Z' H' s'/\D.ct Z' H'
 | .ret u=>∃ v Z' H',Inv X pins Z' H' s'/\RelV v u/\D.rt v H'
def PE (X:Cx) (e:Expr) (t:TE):Prop :=
 ∀ (pins:List (Addr×Obj)) (s:Shared) (Z:St) (H:Hp) (Q:VK),Inv X pins Z H s->t Z H Q->wpAny (model X.prog X.w) X.A (eval e X.env) (EP X pins Z Q) X.xe s
def PT (X:Cx) (e:Expr) (t:TT):Prop :=
 ∀ (pins:List (Addr×Obj)) (s:Shared) (Z:St) (H:Hp) (Q:Bool->Hp->Prop),Inv X pins Z H s->t Z H Q->wpAny (model X.prog X.w) X.A (isTrue e X.env (eval e X.env)) (TP X pins Z Q) X.xe s
def PW (X:Cx) (e:Expr) (t:TT):Prop :=
 ∀ (whole:Sem Value) (pins:List (Addr×Obj)) (s:Shared) (Z:St) (H:Hp) (Q:Bool->Hp->Prop),Inv X pins Z H s->t Z H Q->wpAny (model X.prog X.w) X.A (isTrue e X.env whole) (TP X pins Z Q) X.xe s
theorem PW.pt {X:Cx}{e:Expr}{t:TT}(h:PW X e t):PT X e t:=h _
def PA (X:Cx) (es:List Expr) (t:TA):Prop :=
 ∀ (pos:Pos) (pins:List (Addr×Obj)) (s:Shared) (Z:St) (H:Hp) (Q:List V->Hp->Prop),Inv X pins Z H s->t Z H Q->wpAny (model X.prog X.w) X.A (spliced (backTo pos (starEach es X.env))) (AP X pins Z Q) X.xe s
def PS (X:Cx) (st:Stmt) (t:TS):Prop :=
 ∀ (pins:List (Addr×Obj)) (s:Shared) (Z:St) (H:Hp) (D:Ends),Inv X pins Z H s->t D Z H->wpAny (model X.prog X.w) X.A (exec st X.env) (SP X pins D) X.xe s
def PSs (X:Cx) (st:List Stmt) (t:TS):Prop :=
 ∀ (pins:List (Addr×Obj)) (s:Shared) (Z:St) (H:Hp) (D:Ends),Inv X pins Z H s->t D Z H->wpAny (model X.prog X.w) X.A (execs st X.env) (SP X pins D) X.xe s
theorem thn {Z:Type}{t:Sem Z}{Q b:Z->Shared->Prop}{M:Model}{A:Around}{E:Value->Shared->Prop}{s:Shared}(h:wpAny M A t Q E s) (c:∀ a s,Q a s->b a s):wpAny M A t b E s:=wpAny_mono h c fun _ _ x=>x
section
variable {X:Cx}
noncomputable def yqh (i:Nat):TE:=fun Z H Q=>∃ v,Z[i]?=some (some v)/\Q v H
noncomputable def tC (v:V):TE:=fun _ H Q=>Q v H
theorem yjj {i:Nat}{x:Str}{pos:Pos}(t:X.N[i]?=some x) (q:Vis X.env.scope x) (k:(x == "__debug__")=false:=by decide) (j:(x == "__classdict__")=false:=by decide):PE X (.Name x pos) (yqh i):=by
 intro g s Z H Q I h;obtain ⟨v,e,h⟩:=h;obtain ⟨m,p,hl⟩:=I.loc;obtain ⟨u,r,l⟩:=hl i x v t e q;have f:EP X g Z Q u s:=⟨v,H,I,r,h⟩
 rcases l with ⟨d,o⟩|⟨d,c,n,b⟩
 .exact wpAny_Name (wpAny_loadName_local I.ok.kind d p o f) k
 .rcases d with d|d
  .exact wpAny_Name (wpAny_loadName_cell I.ok.kind d n b f) k
  .exact wpAny_Name (wpAny_loadName_free I.ok.kind d n b f j) k
theorem yAi {i j pos}:PE X (.Constant (.int i) j pos) (tC (.int i)):=fun _ _ _ H _ I h=>wpAny_Constant_int ⟨.int i,H,I.tok _,⟨_,rfl⟩,h⟩
theorem yDm {b j pos}:PE X (.Constant (.bool b) j pos) (tC (.bl b)):=fun _ _ _ H _ I h=>Constant_bool ⟨.bl b,H,I,rfl,h⟩
theorem yAj {j pos}:PE X (.Constant .none j pos) (tC .non):=fun _ _ _ H _ I h=>Constant_none ⟨.non,H,I,rfl,h⟩
theorem yAk {x j pos}:PE X (.Constant (.str x) j pos) (tC (.str x)):=fun _ _ _ H _ I h=>Calls.Constant_str ⟨.str x,H,I.tok _,⟨_,rfl⟩,h⟩
noncomputable def Gl (X:Cx) (x:Str):Prop:=X.env.kindOf x=some .globalImplicit
theorem yhK {E:Value->Shared->Prop}{b:List _}{s:Shared}{Z:St}{H:Hp}{x:Str}{u:Value}{pos:Pos}{Q:Value->Shared->Prop}(I:Inv X b Z H s) (d:Gl X x) (c:X.mg x=some u) (h:Q u s)
  (e:(x == "__debug__")=false:=by decide):wpAny (model X.prog X.w) X.A (eval (.Name x pos) X.env) Q E s :=
 Calls.Name_function_global I.ok.kind d (Calls.loadGlobal_global (by rw [I.ok.glob];exact I.mod.glob.keeps I.bk) c h) e
theorem ylf {E:Value->Shared->Prop}{b:List _}{s:Shared}{Z:St}{H:Hp}{x:Str}{u:Value}{pos:Pos}{Q:Value->Shared->Prop}(I:Inv X b Z H s) (e:Gl X x) (f:X.mg x=none) (d:bootBuiltins x=some u) (h:Q u s)
  (c:x≠"__name__":=by decide) (g:(x == "__debug__")=false:=by decide):wpAny (model X.prog X.w) X.A (eval (.Name x pos) X.env) Q E s:=by
 obtain ⟨i,h1,h2⟩:=I.mod.blt;exact Calls.Name_function_global I.ok.kind e (Calls.loadGlobal_builtin (by rw [I.ok.glob];exact I.mod.glob.keeps I.bk) f (by rw [I.ok.blt];exact h1.keeps I.bk) ((h2 x c).trans d) h) g
theorem ymO {x:Str}{v:V}{u:Value}{pos:Pos}(b:Gl X x) (d:X.mg x=some u) (r:RelV v u) (c:(x == "__debug__")=false:=by decide):PE X (.Name x pos) (tC v) :=
 fun _ _ _ H _ I h=>yhK I b d ⟨v,H,I,r,h⟩ c
theorem yxu {x:Str}{v:V}{u:Value}{pos:Pos}(b:Gl X x) (e:X.mg x=none) (c:bootBuiltins x=some u) (r:RelV v u) (d:x≠"__name__":=by decide) (f:(x == "__debug__")=false:=by decide):PE X (.Name x pos) (tC v) :=
 fun _ _ _ H _ I h=>ylf I b e c ⟨v,H,I,r,h⟩ d f
variable {a b:Expr}{ta tb:TE}{pos:Pos}
def PC (X:Cx) (op:CmpOp) (a b:Expr) (t:TE):Prop :=
 ∀ (pins:List (Addr×Obj)) (s:Shared) (Z:St) (H:Hp) (Q:VK),Inv X pins Z H s->t Z H Q ->
  wpAny (model X.prog X.w) X.A (eval a X.env) (fun v s₁=>wpAny (model X.prog X.w) X.A (eval b X.env) (fun u s₂=>wpAny (model X.prog X.w) X.A (compareOp op v u) (EP X pins Z Q) X.xe s₂) X.xe s₁) X.xe s
theorem ytJ (b:Expr) {op:CmpOp}(h:op≠.In) (h2:op≠.NotIn):behindInMarks op b=false:=by
 have e1:(op == CmpOp.In)=false:=by cases op<;>first|rfl|exact absurd rfl h
 have e2:(op == CmpOp.NotIn)=false:=by cases op<;>first|rfl|exact absurd rfl h2
 cases b<;>simp [behindInMarks,e1,e2]
def tB (t:TE):TT:=fun Z H Q=>t Z H fun x H1=>∃ c,x=.bl c/\Q c H1
theorem yAl {op:CmpOp}{t:TE}(h:PC X op a b t) (h1:behindInMarks op b=false:=by first|exact ytJ _ (by decide) (by decide)|rfl):PT X (.Compare a [op] [b] pos) (tB t):=by intro e s Z H Q I j;refine wpAny_isTrue_Compare1 (thn (h e s Z H _ I j) fun v s1 h1=>thn h1 fun u s2 h2=>thn h2 fun c s3 ⟨x,i,k,f,g⟩=>?_) h1;obtain ⟨d,rfl,q⟩:=g;cases f;exact wpAny_truthy_bool ⟨i,k,q⟩
theorem yAm {e:Expr}{t:TE}(h:PE X e t) (n:∀ f,isTrue e X.env f=(do let v <- f;standAt e.pos;holding [v] (truthy v)):=by intro _;rfl):PT X e (tB t):=by intro g s Z H Q I l;refine isTrue_plain (thn (h g s Z H _ I l) fun v s1 ⟨x,k,m,i,j⟩=>?_) (n _);obtain ⟨d,rfl,q⟩:=j;cases i;exact wpAny_truthy_bool ⟨k,m,q⟩
variable {tA tB':TT}{rest:List Expr}
noncomputable def yFf (t u:TT):TT:=fun Z H Q=>t Z H fun c H1=>if c=true then u Z H1 Q else Q false H1
noncomputable def tOr (t u:TT):TT:=fun Z H Q=>t Z H fun c H1=>if c=true then Q true H1 else u Z H1 Q
def yDn (t:TT):TT:=fun Z H Q=>t Z H fun c H1=>Q (!c) H1
theorem yxv (g:PT X a tA):PW X (.BoolOp .And [a] pos) tA:=by
 intro wh f s Z H Q I h;refine isTrue_and (thn (g f s Z H Q I h) fun c s1 e=>?_);cases c with
 | true=>exact isTrue_and_nil e
 | false=>exact e
theorem yAn (g:PT X a tA):PW X (.BoolOp .Or [a] pos) tA:=by
 intro wh f s Z H Q I h;refine isTrue_or (thn (g f s Z H Q I h) fun c s1 e=>?_);cases c with
 | false=>exact isTrue_or_nil e
 | true=>exact e
theorem yAo (j:PT X a tA) (k:PW X (.BoolOp .And (b::rest) pos) tB'):PW X (.BoolOp .And (a::b::rest) pos) (yFf tA tB'):=by
 intro wh e s Z H Q I h;refine isTrue_and (thn (j e s Z H _ I h) fun c s1 ⟨f,g,i⟩=>?_);cases c with
 | true=>exact k wh e s1 Z f Q g i
 | false=>exact ⟨f,g,i⟩
theorem yDo (j:PT X a tA) (k:PW X (.BoolOp .Or (b::rest) pos) tB'):PW X (.BoolOp .Or (a::b::rest) pos) (tOr tA tB'):=by
 intro wh e s Z H Q I h;refine isTrue_or (thn (j e s Z H _ I h) fun c s1 ⟨f,g,i⟩=>?_);cases c with
 | true=>exact ⟨f,g,i⟩
 | false=>exact k wh e s1 Z f Q g i
theorem yAp (e:PT X a tA):PT X (.UnaryOp .Not a pos) (yDn tA):=by intro d s Z H Q I h;exact isTrue_not (e d s Z H _ I h)
noncomputable def yAq (ta tb:TE):TE:=fun Z H Q=>ta Z H fun x H1=>∃ c,x=.bl c/\if c=true then tb Z H1 Q else Q (.bl false) H1
noncomputable def yAr (ta:TE):TE:=fun Z H Q=>ta Z H fun x H1=>∃ c,x=.bl c/\Q (.bl (!c)) H1
theorem yAs {op} {t:TE}(h:PE X a t):PE X (.BoolOp op [a] pos) t:=fun d s Z H Q I e=>BoolOp_one (h d s Z H Q I e)
theorem yAt (l:PE X a ta) (k:PE X (.BoolOp .And (b::rest) pos) tb):PE X (.BoolOp .And (a::b::rest) pos) (yAq ta tb):=by
 intro e s Z H Q I h;refine BoolOp_and (thn (l e s Z H _ I h) fun v s1 ⟨x,g,i,j,f⟩=>?_);obtain ⟨c,rfl,f⟩:=f;cases j;refine wpAny_truthy_bool ?_;cases c with
 | true=>exact k e s1 Z g Q i f
 | false=>exact ⟨.bl false,g,i,rfl,f⟩
theorem yAu (i:PE X a ta):PE X (.UnaryOp .Not a pos) (yAr ta):=by intro e s Z H Q I h;refine UnaryOp_ (thn (i e s Z H _ I h) fun v s1 ⟨x,k,j,g,f⟩=>?_);obtain ⟨c,rfl,f⟩:=f;cases g;exact not_of (wpAny_truthy_bool ⟨.bl _,k,j,rfl,f⟩)
noncomputable def tIf (t:TT) (ta tb:TE):TE:=fun Z H Q=>t Z H fun c H1=>if c=true then ta Z H1 Q else tb Z H1 Q
theorem ytK {c:Expr}(m:PT X c tA) (k:PE X a ta) (l:PE X b tb):PE X (.IfExp c a b pos) (tIf tA ta tb):=by
 intro f s Z H Q I h;refine wpAny_IfExp (thn (m f s Z H _ I h) fun d s1 ⟨g,i,j⟩=>?_);cases d with
 | true=>exact k f s1 Z g Q i j
 | false=>exact l f s1 Z g Q i j
end
def SqL (K:PySem.W.Frag) (H:Hp) (a:Addr) (xs:List V):Prop :=
 Rd H a (.lst xs) \/
  ∃ (o:Obj) (its:Array Value) (n:Nat),K.lookup a=some o/\o.cls=.type "list"/\o.dict=none/\o.data=.seq its n/\its.size<=sizeLine/\Vals xs its.toList
def SqT (K:PySem.W.Frag) (H:Hp) (a:Addr) (xs:List V):Prop :=
 Rd H a (.tup xs) \/
  ∃ (o:Obj) (its:Array Value) (n:Nat),K.lookup a=some o/\o.cls=.type "tuple"/\o.data=.seq its n/\its.size<=sizeLine/\Vals xs its.toList
noncomputable def yFQ:Value->Option V
 | .none=>some .non
 | .bool b=>some (.bl b)
 | .int i _=>some (.int i)
 | .str x _=>some (.str x)
 | .bytes b _=>some (.byt b)
 | .float b _=>some (.flt b)
 | .ref a=>some (.ref a)
 | .type n=>some (.ty n)
 | _=>none
theorem RelV.abs {x:V}{u:Value}(r:RelV x u):yFQ u=some x:=by
 cases x with
 | non=>cases r;rfl
 | bl _=>cases r;rfl
 | int _=>obtain ⟨t,rfl⟩:=r;rfl
 | str _=>obtain ⟨t,rfl⟩:=r;rfl
 | byt _=>obtain ⟨t,rfl⟩:=r;rfl
 | flt _=>obtain ⟨t,rfl⟩:=r;rfl
 | ref _=>cases r;rfl
 | ty _=>cases r;rfl
theorem RelV.inj {x y:V}{u:Value}(r:RelV x u) (q:RelV y u):x=y:=Option.some.inj (r.abs.symm.trans q.abs)
theorem Vals.inj:∀ {xs ys:List V}{us:List Value},Vals xs us->Vals ys us->xs=ys
 | _,_,_,.nil,.nil=>rfl
 | _,_,_,.cons r t,.cons r' t'=>by rw [r.inj r',Vals.inj t t']
section
variable {X:Cx}{pins:List (Addr×Obj)}{Z:St}{H:Hp}{s:Shared}{a:Addr}{xs ys:List V}
theorem SqL.of {K:PySem.W.Frag}(h:H a=some (.lst xs)):SqL K H a xs:=.inl (.inl h)
theorem SqT.of {K:PySem.W.Frag}(h:H a=some (.tup xs)):SqT K H a xs:=.inl (.inl h)
theorem Inv.list (I:Inv X pins Z H s) (h:SqL X.K H a xs):∃ its:List Value,Vals xs its/\PlainL s.heap a its.toArray/\xs.length<=sizeLine:=by
 rcases h with h|⟨o,its,n,c,d,b,hs,hz,r⟩
 .obtain ⟨z,its,n,r,e⟩:=h.ok I.hok;exact ⟨its,r,⟨_,n,e,rfl,rfl,rfl⟩,z⟩
 .refine ⟨its.toList,r,⟨o,n,I.kIn a o c,d,b,by simpa using hs⟩,?_⟩;have e:=r.length;simp_all
theorem Inv.tuple (I:Inv X pins Z H s) (h:SqT X.K H a xs):∃ its:List Value,Vals xs its/\IsTup s.heap a its.toArray/\xs.length<=sizeLine:=by
 rcases h with h|⟨o,its,n,hk,hc,hs,hz,r⟩
 .obtain ⟨z,its,r,p⟩:=h.ok I.hok;exact ⟨its,r,p,z⟩
 .refine ⟨its.toList,r,⟨o,I.kIn a o hk,hc,n,by simpa using hs⟩,?_⟩;have e:=r.length;simp only [Array.length_toList] at e;omega
theorem Inv.list_inj (I:Inv X pins Z H s) (h:SqL X.K H a xs) (h':SqL X.K H a ys):xs=ys:=by
 obtain ⟨its,r,⟨o,n,e,_,_,d⟩,_⟩:=I.list h;obtain ⟨its',b,⟨g,f,c,_,_,d'⟩,_⟩:=I.list h';rw [e] at c;have:its=its':=by simp_all
 subst this;exact r.inj b
end
noncomputable abbrev Cx.wish (X:Cx) (E:Value->Shared->Prop):Cx:={ X with xe:=E }
noncomputable abbrev Cx.nox (X:Cx):Cx:=X.wish fun _ _=>False
theorem Cx.Ok.wish {X:Cx}(a:X.Ok) E:(X.wish E).Ok :=
 ⟨a.mod,a.kind,a.glob,a.blt,a.above,a.inj,a.has,a.cab,a.hd,a.frames,a.stk,a.exf,a.bs,a.bsz,a.noex,a.exfs,a.funs,a.frf⟩
theorem Cx.Ok.unwish {X:Cx}{E:Value->Shared->Prop}(a:(X.wish E).Ok):X.Ok :=
 ⟨a.mod,a.kind,a.glob,a.blt,a.above,a.inj,a.has,a.cab,a.hd,a.frames,a.stk,a.exf,a.bs,a.bsz,a.noex,a.exfs,a.funs,a.frf⟩
section
variable {X:Cx}{pins:List (Addr×Obj)}{Z:St}{H:Hp}{s:Shared}{E:Value->Shared->Prop}
theorem Inv.wish (I:Inv X pins Z H s) E:Inv (X.wish E) pins Z H s:=⟨I.ok.wish E,I.os,I.bare,I.base,I.loc,I.cell,I.free,I.freeC,I.pin,I.hok,I.len⟩
theorem Inv.unwish (I:Inv (X.wish E) pins Z H s):Inv X pins Z H s:=⟨I.ok.unwish,I.os,I.bare,I.base,I.loc,I.cell,I.free,I.freeC,I.pin,I.hok,I.len⟩
theorem SP.unwish {D:Ends}{f:Flow}{s':Shared}(h:SP (X.wish E) pins D f s'):SP X pins D f s':=by
 cases f with
 | next=>obtain ⟨a,b,I,q⟩:=h;exact ⟨a,b,I.unwish,q⟩
 | brk=>obtain ⟨a,b,I,q⟩:=h;exact ⟨a,b,I.unwish,q⟩
 | cont=>obtain ⟨a,b,I,q⟩:=h;exact ⟨a,b,I.unwish,q⟩
 | ret u=>obtain ⟨v,a,b,I,r,q⟩:=h;exact ⟨v,a,b,I.unwish,r,q⟩
theorem PSs.nox {st:List Stmt}{t:TS}(h:PSs X.nox st t):PSs X st t:=fun pins s Z H D I a =>
 wpAny_mono (h pins s Z H D (I.wish _) a) (fun _ _ q=>q.unwish) fun _ _ z=>False.elim z
end
section
variable {X:Cx}{st:Stmt}{rest:List Stmt}{t u:TS}{e:Expr}{te:TE}{pos:Pos}
noncomputable def yAv:TS:=fun D Z H=>D.nx Z H
noncomputable def yDp (t u:TS):TS:=fun D Z H=>t { D with nx:=u D } Z H
theorem yxw:PSs X [] yAv:=fun _ _ Z H _ I h=>wpAny_execs_nil ⟨Z,H,I,h⟩
theorem yof (h1:PS X st t) (h2:PSs X rest u):PSs X (st::rest) (yDp t u):=by
 intro b s Z H D I h;refine wpAny_execs_cons (thn (h1 b s Z H _ I h) fun f s1 q=>?_);cases f with
 | next =>
  obtain ⟨c,d,g,q⟩:=q;exact h2 b s1 c d D g q
 | ret v=>exact q
 | brk=>exact q
 | cont=>exact q
theorem yqq (h1:PS X st t):PSs X [st] t:=by
 intro b s Z H D I h;refine wpAny_execs_cons (thn (h1 b s Z H D I h) fun f s1 q=>?_);cases f with
 | next=>exact wpAny_execs_nil q
 | ret v=>exact q
 | brk=>exact q
 | cont=>exact q
theorem Inv.quiet {a:List _}{Z:St}{H:Hp}{s:Shared}(I:Inv X a Z H s):interactive X.env=false:=by simp [interactive,I.ok.kind]
noncomputable def yqr (te:TE):TS:=fun D Z H=>te Z H fun _ H1=>D.nx Z H1
theorem yjM (c:PE X e te) (hs:swapsWith e none pos.line X.env=pure false:=by rfl):PS X (.Expr e pos) (yqr te):=by intro b s Z H D I h;exact wpAny_Expr_any (thn (c b s Z H _ I h) fun v s1 ⟨x,d,f,i,g⟩=>⟨Z,d,f,g⟩) I.quiet hs
noncomputable def yFg (te:TE):TS:=fun D Z H=>te Z H D.rt
theorem yAw (f:PE X e te):PS X (.Return (some e) pos) (yFg te):=by intro b s Z H D I h;exact wpAny_Return_some (thn (f b s Z H _ I h) fun v s1 ⟨x,d,g,c,i⟩=>⟨x,Z,d,g,c,i⟩)
noncomputable def yFh (c:TT) (t u:TS):TS:=fun D Z H=>c Z H fun b H1=>if b=true then t D Z H1 else u D Z H1
theorem yDq {c:Expr}{a b:List Stmt}{tc:TT}(n:PT X c tc) (l:PSs X a t) (m:PSs X b u):PS X (.If c a b pos) (yFh tc t u):=by
 intro g s Z H D I h;refine wpAny_If (thn (n g s Z H _ I h) fun d s1 ⟨i,j,k⟩=>?_);cases d with
 | true=>exact l g s1 Z i D j k
 | false=>exact m g s1 Z i D j k
def ywo:TS:=fun _ _ _=>False
theorem ytL:PS X st ywo:=fun _ _ _ _ _ _ h=>h.elim
end
noncomputable abbrev TG:=V->St->Hp->(St->Hp->Prop)->Prop
noncomputable abbrev TGs:=List V->St->Hp->(St->Hp->Prop)->Prop
def PG (X:Cx) (target:Expr) (t:TG):Prop :=
 ∀ (pins:List (Addr×Obj)) (s:Shared) (Z:St) (H:Hp) (v:V) (u:Value) (Q:St->Hp->Prop),Inv X pins Z H s->RelV v u->t v Z H Q ->
  wpAny (model X.prog X.w) X.A (assign target X.env u) (fun _ s'=>∃ Z' H',Inv X pins Z' H' s'/\Q Z' H') X.xe s
def PGs (X:Cx) (ts:List Expr) (t:TGs):Prop :=
 ∀ (pins:List (Addr×Obj)) (s:Shared) (Z:St) (H:Hp) (vs:List V) (us:List Value) (Q:St->Hp->Prop),Inv X pins Z H s->Vals vs us->t vs Z H Q ->
  wpAny (model X.prog X.w) X.A (assignInOrder ((assignEach ts X.env).map (·.2)) us) (fun _ s'=>∃ Z' H',Inv X pins Z' H' s'/\Q Z' H') X.xe s
noncomputable abbrev yDr:=V->V->V->Hp->(Hp->Prop)->Prop
def yFi (X:Cx) (t:yDr):Prop :=
 ∀ (pins:List (Addr×Obj)) (s:Shared) (Z:St) (H:Hp) (o i v:V) (ov iv u:Value) (Q:Hp->Prop),Inv X pins Z H s->RelV o ov->RelV i iv->RelV v u->t o i v H Q ->
  wpAny (model X.prog X.w) X.A (setItem ov iv u) (fun _ s'=>∃ H',Inv X pins Z H' s'/\Q H') X.xe s
section
variable {X:Cx}{pos:Pos}
def yqs (i:Nat):TG:=fun v Z H Q=>Q (Z.set i (some v)) H
theorem ymP {i:Nat}{x:Str}(c:X.N.Nodup) (g:X.N[i]?=some x) (d:Loc X.env.scope x) (e:X.fn x=true\/X.env.scope.names.lookup x=some .local:=by first|exact .inl rfl|exact .inr rfl|assumption):PG X (.Name x pos) (yqs i):=by intro b s Z H v u Q I r h;exact wpAny_assign_Name (yoe I c g d r (fun s' f=>⟨_,H,f,h⟩) e)
def yFj:TGs:=fun vs Z H Q=>vs=[]/\Q Z H
noncomputable def yAx (t:TG) (u:TGs):TGs:=fun vs Z H Q=>∃ v r,vs=v::r/\t v Z H fun Z' H'=>u r Z' H' Q
theorem yxx:PGs X [] yFj:=by intro a s Z H vs us Q I r h;obtain ⟨e,h⟩:=h;exact assignInOrder_nil ⟨Z,H,I,h⟩
theorem ytM {e:Expr}{es:List Expr}{t:TG}{u:TGs}(h1:PG X e t) (h2:PGs X es u)
  (hs:(assignEach (e::es) X.env).map (·.2)=assign e X.env::(assignEach es X.env).map (·.2):=by rfl):PGs X (e::es) (yAx t u):=by
 intro b s Z H vs us Q I r h;obtain ⟨v,j,d,h⟩:=h;subst d;cases r with
 | cons r rr =>
  rw [hs];exact assignInOrder_cons (thn (h1 b s Z H _ _ _ I r h) fun _ s1 ⟨c,f,i,g⟩=>h2 b s1 c f _ _ Q i rr g)
noncomputable def yFk (K:PySem.W.Frag) (n:Nat) (t:TGs):TG:=fun v Z H Q=>∃ a xs,v=.ref a/\SqT K H a xs/\xs.length=n/\t xs Z H Q
theorem yAy {es:List Expr}{k:Nat}{t:TGs}{n:Nat}(hc:X.calm=true) (h:PGs X es t)
  (hn:(assignEach es X.env).length=n:=by rfl) (hst:(assignEach es X.env).findIdx? (·.1)=none:=by rfl):PG X (.Tuple es k pos) (yFk X.K n t):=by
 intro pins s Z H v u Q I r hw;obtain ⟨a,xs,e1,hq,hl,hw⟩:=hw;subst e1;cases r;obtain ⟨its,rv,ht,hz⟩:=I.tuple hq;refine assign_Tuple_tuple (I.ok.hd hc) ht (by simp [hn,<- hl,rv.length]) hst fun h' hx=>?_
 have I1:Inv X pins Z H { s with heap:=h' }:=I.kept (t':=s.toks) fun b o e=>hx b o (ne_of_lt (Heap.lt_size e)) e
 exact h pins _ Z H xs _ Q I1 (by simpa using rv) hw
noncomputable def yFl (to ti:TE) (t:yDr):TG:=fun v Z H Q=>to Z H fun o H1=>ti Z H1 fun i H2=>t o i v H2 fun H3=>Q Z H3
theorem yAz {o i:Expr}{f e:TE}{t:yDr}(A:PE X o f) (C:PE X i e) (hs:yFi X t)
  (n:∀ v,assign (.Subscript o i pos) X.env v=(do
   let c <- holding [v] (eval o X.env)
   let d <- holding [v,c] (eval i X.env)
   standAt pos
   holding [v,c,d] (setItem c d v)
   release [v,c,d] []):=by intro _;rfl):PG X (.Subscript o i pos) (yFl f e t):=by
 intro b s Z H v u Q I r h;rw [n];refine wpAny_bind (wpAny_holding (thn (A b s Z H _ I h) fun c s1 ⟨x,w,j,l,q⟩=>?_));refine wpAny_bind (wpAny_holding (thn (C b s1 Z w _ j q) fun d s2 ⟨y,B,p,r2,k⟩=>?_));exact wpAny_bind (wpAny_standAt (wpAny_bind (wpAny_holding (thn (hs b s2 Z B x y v c d u _ p l r2 r k) fun _ s3 ⟨g,m,z⟩=>wpAny_release ⟨Z,g,m,z⟩))))
def ywp (te:TE) (g:TG):TS:=fun D Z H=>te Z H fun x H1=>g x Z H1 D.nx
theorem yAA {c e:Expr}{te:TE}{g:TG}(f:PE X e te) (m:PG X c g) (hs:swapsWithSole [c] e pos.line X.env=pure false:=by rfl) (k:swappedStores [c] e X.env=pure none:=by rfl)
  (h1:(assignEach [c] X.env).map (·.2)=[assign c X.env]:=by rfl):PS X (.Assign [c] e pos) (ywp te g):=by
 intro b s Z H D I h;refine wpAny_Assign_stores (thn (f b s Z H _ I h) fun v s1 ⟨x,j,l,d,i⟩=>?_) hs k;rw [h1];exact thn (m b s1 Z j x v _ l d i) fun _ s2 q=>q
theorem ywq {i:Nat}{x:Str}{e:Expr}{te:TE}{b:Pos}(f:X.N.Nodup) (n:X.N[i]?=some x) (j:Loc X.env.scope x) (m:PE X e te) (hs:swapsWith e (some (.Name x b)) pos.line X.env=pure false:=by rfl) (l:X.fn x=true\/X.env.scope.names.lookup x=some .local:=by first|exact .inl rfl|exact .inr rfl|assumption) :
  PS X (.Assign [.Name x b] e pos) (ywp te (yqs i)):=by
 intro c s Z H D I h;exact wpAny_Assign_Name (thn (m c s Z H _ I h) fun v s1 ⟨y,k,o,d,g⟩=>yoe o f n j d (fun s2 p=>⟨_,k,p,g⟩) l) hs
end
section
variable {X:Cx}{pos:Pos}
noncomputable def ywr (c:TT) (tb:TS):TS:=fun D Z H=>∃ W:Nat->St->Hp->Prop,(∃ m,W m Z H)/\∀ m Z H,W m Z H ->
 c Z H fun b H1=>if b=true then ∃ N:St->Hp->Prop,(∀ Z' H',N Z' H'->∃ m',m'<m/\W m' Z' H')/\tb { D with nx:=N,ct:=N,bk:=D.nx } Z H1 else D.nx Z H1
theorem ytN {c:Expr}{body:List Stmt}{tc:TT}{tb:TS}(hp:PassesOwn (model X.prog X.w) X.A X.env X.xe) (A:PT X c tc) (B:PSs X body tb):PS X (.While c body [] pos) (ywr tc tb):=by
 intro e s Z H D I h;obtain ⟨W,⟨y,w0⟩,turn⟩:=h;refine wpAny_While (codeAny_whileLoop (fun n s'=>∃ j r,Inv X e j r s'/\W n j r) ?_ y ⟨Z,H,I,w0⟩);rintro n s1 ⟨g,u,C,z⟩;refine wpAny_passesOwn hp (thn (A e s1 g u _ C (turn n g u z)) fun b s2 ⟨x,t,k⟩=>?_);cases b with
 | true =>
  obtain ⟨N,w,k⟩:=k;refine wpAny_passesOwn hp (thn (B e s2 g x _ t k) fun f s3 l=>?_);cases f with
  | next =>
   obtain ⟨d,i,m,p⟩:=l;obtain ⟨m',q,o⟩:=w d i p;exact ⟨m',q,d,i,m,o⟩
  | cont =>
   obtain ⟨d,i,m,p⟩:=l;obtain ⟨m',q,o⟩:=w d i p;exact ⟨m',q,d,i,m,o⟩
  | brk=>exact l
  | ret v=>exact l
 | false =>
  exact wpAny_execs_nil ⟨g,x,t,k⟩
end
structure It where
 go:Nat->Hp->Prop
 yld:Nat->Hp->V->Hp->Prop
 stop:Nat->Hp->Prop
noncomputable def ytO (X:Cx) (pins:List (Addr×Obj)) (H:Hp) (b:Addr):Prop :=
 H b=none/\b≠X.env.locals/\b∉X.fs/\(b∈X.ex\/X.s₀.heap.objs.size<=b)/\(∀ x c,X.env.cells.lookup x=some c->c≠b)/\∀ p∈X.pn++pins,p.1≠b
theorem Inv.fpOk {X:Cx}{d:List _}{Z:St}{H g:Hp}{s:Shared}{b:Addr}(I:Inv X d Z H s) (f:s.heap.objs.size<=b) (h:g b=none):ytO X d g b:=by
 refine ⟨h,Nat.ne_of_gt (lt_of_lt_of_le I.lt f),I.nofs f,.inr (Nat.le_trans I.sz f),fun x c e z=>?_,fun p hp z=>?_⟩
 .obtain ⟨v,q⟩:=I.cell x c e;exact absurd (lt_of_lt_of_le q.lt (by rw [z];exact f)) (lt_irrefl _)
 .exact absurd (lt_of_lt_of_le (Heap.lt_size (I.pin p hp).1) (by rw [z];exact f)) (lt_irrefl _)
structure Turn (P:Program) (w:World) (K:PySem.W.Frag) (tg:Expr) (J:It) (fp:List Addr) (it:Addr) (tn:Nat->Heap->Prop):Prop where
 mem:it∈fp
 obj:∀ i h,tn i h->∀ b∈fp,∃ o,h.get? b=some o/\∀ v,o.data≠.cell v
 keep:∀ i h h',tn i h->(∀ b∈fp,∀ o,h.get? b=some o->h'.get? b=some o)->tn i h'
 item:∀ (X:Cx),X.prog=P->X.w=w->X.K=K->X.calm=true->∀ (i:Nat) (pins:List (Addr×Obj)) (s:Shared) (Z:St) (H:Hp) (E:Value->Shared->Prop),Inv X pins Z H s->(∀ b∈fp,ytO X pins H b)->tn i s.heap->J.go i H ->
  wpAny (model P w) X.A (pyNext (.ref it)) (fun r s1=>∃ u,r=some u /\
   wpAny (model P w) X.A (letOwnedTupleGo tg (.ref it) u) (fun _ s2=>∃ x H',Inv X pins Z H' s2/\RelV x u/\J.yld i H x H'/\tn (i+1) s2.heap/\∀ b∈fp,H' b=none) E s1) E s
 done:∀ (X:Cx),X.prog=P->X.w=w->X.K=K->X.calm=true->∀ (i:Nat) (pins:List (Addr×Obj)) (s:Shared) (Z:St) (H:Hp) (E:Value->Shared->Prop),Inv X pins Z H s->(∀ b∈fp,ytO X pins H b)->tn i s.heap->J.stop i H ->
  wpAny (model P w) X.A (pyNext (.ref it)) (fun r s1=>r=none/\Inv X pins Z H s1) E s
 self:∀ (A:Around) (i:Nat) (s:Shared) (Q:Value->Shared->Prop) (E:Value->Shared->Prop),tn i s.heap->Q (.ref it) s->wpAny (model P w) A (pyIter (.ref it)) Q E s
noncomputable abbrev TI:=St->Hp->(It->Hp->Prop)->Prop
def PIE (X:Cx) (pins:List (Addr×Obj)) (Z:St) (tg:Expr) (R:It->Hp->Prop) (itv:Value) (s2:Shared):Prop :=
 ∃ (it:Addr) (fp:List Addr) (tn:Nat->Heap->Prop) (J:It) (H':Hp),itv=.ref it/\Inv X pins Z H' s2/\Turn X.prog X.w X.K tg J fp it tn/\tn 0 s2.heap/\(∀ b∈fp,ytO X pins H' b)/\R J H'
def PI (X:Cx) (tg iter:Expr) (wi:TI):Prop :=
 ∀ (pins:List (Addr×Obj)) (s:Shared) (Z:St) (H:Hp) (R:It->Hp->Prop),Inv X pins Z H s->wi Z H R ->
  wpAny (model X.prog X.w) X.A (eval iter X.env) (fun v s1=>wpAny (model X.prog X.w) X.A (pyIter v) (PIE X pins Z tg R) X.xe s1) X.xe s
theorem yqt {M:Model}{A:Around}{E:Value->Shared->Prop}{s:Shared}{c:Expr}{d:Addr}{u:Value}{o:Obj}{n:String}{vs:Array Value}{Q:Unit->Shared->Prop}(f:s.heap.get? d=some o) (e:o.cls=.type n) (g:o.data=.fields vs)
    (h:["enumerate","zip","dict_itemiterator","dict_reverseitemiterator","odict_iterator","itertools.zip_longest","itertools.pairwise"].contains n=false) (b:Q () s):wpAny M A (letOwnedTupleGo c (.ref d) u) Q E s:=by
  cases c<;>first
    | exact wpAny_pure b
    | (cases u<;>first
        | exact wpAny_pure b
        | (refine wpAny_bind (wpAny_load f ?_)
           rw [e,g];show wpAny M A (if (["enumerate","zip","dict_itemiterator","dict_reverseitemiterator","odict_iterator","itertools.zip_longest","itertools.pairwise"].contains n && vs[0]? == some _)=true then _ else _) Q E s;rw [if_neg (by grind)];exact wpAny_pure b))
noncomputable def Itl (K:PySem.W.Frag) (a:Addr):It :=
 ⟨fun i H=>∃ xs x,SqL K H a xs/\xs[i]?=some x,fun i H x H'=>H'=H/\∀ xs,SqL K H a xs->xs[i]?=some x,fun i H=>∃ xs,SqL K H a xs/\xs.length<=i⟩
noncomputable def Itr (lo:Int) (n:Nat):It:=⟨fun i _=>i<n,fun i H x H'=>H'=H/\x=.int (lo+i),fun i _=>n<=i⟩
theorem yqu {P:Program}{w:World}{K:PySem.W.Frag}{tg:Expr}(a it:Addr):Turn P w K tg (Itl K a) [it] it (fun i h=>h.IsListIter it a i) where
 mem:=by simp
 obj:=fun i h st b hb=>by
  have e:b=it:=by simpa using hb
  subst e;obtain ⟨o,e,c,d⟩:=st;exact ⟨o,e,fun v z=>by rw [d] at z;cases z⟩
 keep:=fun i h h' st k=>st.at fun o e=>k it (by simp) o e
 item:=by
  intro X hP hw hK hc i pins s Z H E I hf st hg;subst hP hw hK;obtain ⟨xs,x,hq,hx⟩:=hg;obtain ⟨its,rv,p,hz⟩:=I.list hq;obtain ⟨u,hu,ru⟩:=rv.get hx;obtain ⟨f0,f1,f2,f3,f4,f5⟩:=hf it (by simp);refine wpAny_pyNext_list_item st p.isList (x:=u) (by simpa using hu) fun h' st' sb=>?_
  have I1:Inv X pins Z H { s with heap:=h' }:=I.turned (t':=s.toks) (fun b o hb e=>(sb.2 b hb).trans e) f0 f1 f3 f4 f5;obtain ⟨o,e,c,d⟩:=id st';exact ⟨u,rfl,yqt (s:={ s with heap:=h' }) e c d (by decide) ⟨x,H,I1,ru,⟨rfl,fun ys hy=>by rw [I.list_inj hy hq];exact hx⟩,st',fun b hb=>(hf b hb).1⟩⟩
 done:=by intro X hP hw hK hc i pins s Z H E I hf st hg;subst hP hw hK;obtain ⟨xs,hq,hx⟩:=hg;obtain ⟨its,rv,p,hz⟩:=I.list hq;obtain ⟨f0,f1,f2,f3,f4,f5⟩:=hf it (by simp);have hl:=rv.length;exact wpAny_pyNext_list_end (I.ok.hd hc) st p.isList (by simp;omega) fun h' eb=>⟨rfl,I.turned (t':=s.toks) (fun b o hb e=>eb b o hb e) f0 f1 f3 f4 f5⟩
 self:=fun _ _ _ _ _ st h=>wpAny_pyIter_listiter st h
theorem ypu {P:Program}{w:World}{K:PySem.W.Frag}{D:Expr} d lo n:Turn P w K D (Itr lo n) [d] d (fun i h=>IsRangeIter h d (lo+i*1) (n-i) 1) where
 mem:=by simp
 obj:=fun i h st b f=>by simp_all
 keep:=fun i h h' st k=>k d (by simp) _ st
 item:=by
  intro X z x y p i c s Z H E I j st r;subst z x y;obtain ⟨f0,q,F,u,l,m⟩:=j d (by simp);have W:=Walks.range (prog:=X.prog) (w:=X.w) (I.ok.hd p) d lo 1 n;refine W.item i s _ _ r st fun v h' J C g A=>?_
  obtain ⟨t,rfl⟩:=C;have G:Inv X c Z H { s with heap:=h',toks:=J }:=I.turned (fun b o f e=>A b o (by simpa using f) e) f0 q u l m;refine ⟨_,rfl,yqt g rfl rfl (by decide) ⟨.int _,H,G,⟨t,?_⟩,⟨rfl,rfl⟩,g,fun b f=>(j b f).1⟩⟩;rw [Int.mul_one]
 done:=by intro X z x y p i c s Z H E I j st r;obtain ⟨f0,q,F,u,l,m⟩:=j d (by simp);exact wpAny_pyNext_range_end (I.ok.hd p) st (by have:n<=i:=r;omega) fun h' B=>⟨rfl,I.turned (fun b o f e=>B b o f e) f0 q u l m⟩
 self:=fun _ _ _ _ _ st h=>wpAny_pyIter_rangeiter st h
section
variable {X:Cx}{tg:Expr}
noncomputable def ytP (K:PySem.W.Frag) (tl:TE):TI:=fun Z H R=>tl Z H fun x H1=>∃ a,x=.ref a/\(∃ xs,SqL K H1 a xs)/\R (Itl K a) H1
theorem ymQ {l:Expr}{tl:TE}(hl:PE X l tl):PI X tg l (ytP X.K tl):=by
 intro d s Z H R I h;refine thn (hl d s Z H _ I h) fun v s1 ⟨x,j,f,g,i⟩=>?_
 obtain ⟨a,e,⟨xs,k⟩,q⟩:=i;subst e;cases g;obtain ⟨its,n,p,hz⟩:=f.list k;refine wpAny_pyIter_list p.isList ?_;refine ⟨s1.heap.objs.size,_,_,_,j,rfl,f.kept fun b o e=>Heap.get?_push_of_some _ e,yqu a _,⟨_,Heap.get?_push_size _ rfl,rfl,rfl⟩,fun b m=>?_,q⟩;have e:=by simpa using m
 subst e;exact f.fpOk (Nat.le_refl _) (f.hok.fresh (Nat.le_refl _))
theorem ytQ {c:List _}{Z:St}{H:Hp}{s:Shared}{R:It->Hp->Prop}{E:Value->Shared->Prop}{lo d:Int}{t u v:Tok}{g:Nat}(I:Inv X c Z H s) (h1:-2 ^ 62<=lo) (h2:lo<2 ^ 62) (j:-2 ^ 62<=d) (k:d<2 ^ 62)
  (q:R (Itr lo (d-lo).toNat) H):wpAny (model X.prog X.w) X.A (pyIter (.ref s.heap.objs.size)) (PIE X c Z tg R) E { s with heap:=s.heap.push { cls:=.type "range",data:=.fields #[.int lo t,.int d u,.int 1 v] },toks:=g }:=by
 refine wpAny_pyIter_range (IsRange.new ..) (small_one h1 h2 j k) ?_;have f:Inv X c Z H { s with heap:=s.heap.push { cls:=.type "range",data:=.fields #[.int lo t,.int d u,.int 1 v] },toks:=g }:=I.kept fun b o e=>Heap.get?_push_of_some _ e
 refine ⟨_,_,_,_,H,rfl,
  f.kept fun b o e=>Heap.get?_push_of_some _ e,ypu _ lo _,?_,fun b h=>?_,q⟩
 .have l:lo+(0:Nat)*1=lo:=by simp
  have i:((d-lo).toNat:Int)-(0:Nat)=Builtin.Range.rangeSize lo d 1:=by rw [rangeSize_one];split<;>omega
  rw [l,i];exact Heap.get?_push_size _ rfl
 .have e:b=(s.heap.push { cls:=.type "range",data:=.fields #[.int lo t,.int d u,.int 1 v] }).objs.size:=by simpa using h
  subst e;exact f.fpOk (Nat.le_refl _) (f.hok.fresh (Nat.le_refl _))
noncomputable def yAB (ta:TA):TI:=fun Z H R=>ta Z H fun vs H1=>∃ j:Int,vs=[.int j]/\-(2 ^ 62)<=j/\j<2 ^ 62/\R (Itr 0 j.toNat) H1
theorem yqv {a:Expr}{ta:TA}{p pos:Pos}(hg:Gl X "range") (hm:X.mg "range" = none) (ha:PA X [a] ta) (hs:starEach [a] X.env=[(false,eval a X.env)]:=by rfl):PI X tg (.Call (.Name "range" p) [a] [] pos) (yAB ta):=by
 intro pins s Z H R I h;refine Call_ (ylf I hg hm boot_range (PyProof.Rows.callWith_type1 (thn (ha pos pins s Z H _ I h) fun us s1 ⟨vs,H1,I1,r1,q1⟩=>?_) hs rfl));obtain ⟨j,e,q1,q2,q⟩:=q1;subst e;cases r1 with
 | cons r rr =>
  cases rr;obtain ⟨t,rfl⟩:=r;exact call_range_1 (ytQ I1 (by omega) (by omega) q1 q2 (by simpa using q))
noncomputable def yCX (wi:TI) (g:TG) (tb:TS):TS:=fun D Z H=>wi Z H fun J H1=>∃ W:Nat->Nat->St->Hp->Prop,(∃ m,W 0 m Z H1)/\∀ i m Z H,W i m Z H ->
 (J.stop i H/\D.nx Z H)\/(J.go i H/\∃ N:St->Hp->Prop,(∀ Z' H',N Z' H'->∃ m',m'<m/\W (i+1) m' Z' H')/\∀ x H',J.yld i H x H'->g x Z H' fun Z2 H2=>tb { D with nx:=N,ct:=N,bk:=D.nx } Z2 H2)
noncomputable def yog (fp:List Addr) (h:Heap):List (Addr×Obj):=fp.filterMap fun b=>(h.get? b).map fun o=>(b,o)
theorem ycZ {fp:List Addr}{h:Heap}{b:Addr}{o:Obj}(c:b∈fp) (e:h.get? b=some o):(b,o)∈yog fp h:=List.mem_filterMap.mpr ⟨b,c,by rw [e];rfl⟩
theorem yqw {fp:List Addr}{h:Heap}{p:Addr×Obj}(hp:p∈yog fp h):p.1∈fp/\h.get? p.1=some p.2:=by
 obtain ⟨b,a,e⟩:=List.mem_filterMap.mp hp;cases q:h.get? b with
 | none=>rw [q] at e;cases e
 | some o =>
  rw [q] at e;have c:=Option.some.inj e;subst c;exact ⟨a,q⟩
theorem Inv.pinned {pins:List (Addr×Obj)}{Z:St}{H:Hp}{s:Shared}{fp:List Addr}(I:Inv X pins Z H s) (hf:∀ b∈fp,ytO X pins H b) (ho:∀ b∈fp,∃ o,s.heap.get? b=some o/\∀ v,o.data≠.cell v):Inv X (pins++yog fp s.heap) Z H s :=
 I.pins_of fun p hp=>(List.mem_append.mp hp).elim (fun z=>I.pin p (mem_append_right _ z)) fun z=>by obtain ⟨hb,e⟩:=yqw z;obtain ⟨f0,f1,f2,_⟩:=hf p.1 hb;obtain ⟨o,e',d⟩:=ho p.1 hb;rw [e] at e';cases e';exact ⟨e,f0,f1,f2,d⟩
theorem Inv.unpinned {b pl:List _}{Z:St}{H:Hp}{s:Shared}(I:Inv X (b++pl) Z H s):Inv X b Z H s:=I.pins_of fun p hp=>I.pin p (mem_append_right _ (mem_append_left _ hp))
theorem yqx {iter:Expr}{body:List Stmt}{U:TI}{g:TG}{tb:TS}{pos:Pos}(hp:PassesOwn (model X.prog X.w) X.A X.env X.xe) (Y:X.calm=true) (hi:PI X tg iter U) (hg:PG X tg g) (w:PSs X body tb)
  (hs:∀ x,foldedSetIterable iter X.env x=pure x:=by intro _;rfl):PS X (.For tg iter body [] pos) (yCX U g tb):=by
 intro c s K H D I h;refine wpAny_For (thn (hi c s K H _ I h) fun v s1 h1=>thn h1 fun itv s2 h2=>?_) hs;obtain ⟨it,fp,tn,J,H2,e,I2,T,O,f2,W,⟨m0,w0⟩,turn⟩:=h2;subst e;have k:∀ {y:Hp},(∀ b∈fp,y b=none)->∀ b∈fp,ytO X c y b:=fun hn b w=>⟨hn b w,(f2 b w).2⟩
 refine codeAny_forLoop_any (fun n s'=>∃ i l y,Inv X c l y s'/\tn i s'.heap/\(∀ b∈fp,y b=none)/\W i n l y) ?_ m0 ⟨0,K,H2,I2,O,fun b w=>(f2 b w).1,w0⟩;rintro n s3 ⟨i,t,G,Z,C,E,w3⟩;rcases turn i n t G w3 with ⟨B,qn⟩|⟨go,N,hN,step⟩
 .refine wpAny_passesOwn hp (thn (T.done X rfl rfl rfl Y i c s3 t G X.xe Z (k E) C B) fun r s4 ⟨P,I4⟩=>?_);subst P;exact wpAny_execs_nil ⟨t,G,I4,qn⟩
 .refine wpAny_passesOwn hp (thn (T.item X rfl rfl rfl Y i c s3 t G X.xe Z (k E) C go) fun r s4 ⟨u,P,h4⟩=>?_);subst P;refine wpAny_passesOwn hp (thn h4 fun _ s5 ⟨x,S,I5,r5,y5,A,R⟩=>?_);have Q:=I5.pinned (k R) (T.obj _ _ A);refine wpAny_passesOwn hp (thn (hg _ s5 t S x u _ Q r5 (step x S y5)) fun _ s6 ⟨L,H6,I6,q6⟩=>?_);refine wpAny_passesOwn hp (thn (w _ s6 L H6 _ I6 q6) fun f M z=>?_);have again:∀ {j:St}{q:Hp},Inv X (c++yog fp s5.heap) j q M->N j q->∃ m,m<n/\∃ i l y,Inv X c l y M/\tn i M.heap/\(∀ b∈fp,y b=none)/\W i m l y:=fun {j q} p F=>by obtain ⟨m',hm,w7⟩:=hN j q F;refine ⟨m',hm,i+1,j,q,p.unpinned,T.keep _ _ _ A fun b w o e=>(p.pin (b,o) (mem_append_right _ (mem_append_right _ (ycZ w e)))).1,fun b w=>?_,w7⟩;obtain ⟨o,e,d⟩:=T.obj _ _ A b w;exact (p.pin (b,o) (mem_append_right _ (mem_append_right _ (ycZ w e)))).2.1
  cases f with
  | next=>obtain ⟨j,q,p,F⟩:=z;exact again p F
  | cont=>obtain ⟨j,q,p,F⟩:=z;exact again p F
  | brk=>obtain ⟨j,q,p,z⟩:=z;exact ⟨j,q,p.unpinned,z⟩
  | ret v=>obtain ⟨x7,j,q,p,r7,z⟩:=z;exact ⟨x7,j,q,p.unpinned,r7,z⟩
end
abbrev R2:=V->V->Hp->VK->Prop
def OpR (X:Cx) (f:Value->Value->Sem Value) (r:R2):Prop :=
 ∀ (pins:List (Addr×Obj)) (s:Shared) (Z:St) (H:Hp) (x y:V) (v u:Value) (Q:VK),Inv X pins Z H s->RelV x v->RelV y u->r x y H Q ->
  wpAny (model X.prog X.w) X.A (f v u) (EP X pins Z Q) X.xe s
def UnR (X:Cx) (f:Value->Sem Value) (r:V->Hp->VK->Prop):Prop :=
 ∀ (pins:List (Addr×Obj)) (s:Shared) (Z:St) (H:Hp) (x:V) (v:Value) (Q:VK),Inv X pins Z H s->RelV x v->r x H Q ->
  wpAny (model X.prog X.w) X.A (f v) (EP X pins Z Q) X.xe s
def yfA (X:Cx) (f:Value) (r:List V->Hp->VK->Prop):Prop :=
 ∀ (pins:List (Addr×Obj)) (s:Shared) (Z:St) (H:Hp) (xs:List V) (us:List Value) (Q:VK),Inv X pins Z H s->Vals xs us->r xs H Q ->
  wpAny (model X.prog X.w) X.A (call f us) (EP X pins Z Q) X.xe s
noncomputable def tOp (r:R2) (ta tb:TE):TE:=fun Z H Q=>ta Z H fun x H1=>tb Z H1 fun y H2=>r x y H2 Q
noncomputable def tUn (r:V->Hp->VK->Prop) (ta:TE):TE:=fun Z H Q=>ta Z H fun x H1=>r x H1 Q
noncomputable def rI (C:Int->Int->Prop) (g:Int->Int->V):R2:=fun x y H Q=>∃ i j,x=.int i/\y=.int j/\C i j/\Q (g i j) H
noncomputable def rI0 (g:Int->Int->V):R2:=fun x y H Q=>∃ i j,x=.int i/\y=.int j/\Q (g i j) H
noncomputable def rU (g:Int->V):V->Hp->VK->Prop:=fun x H Q=>∃ i,x=.int i/\Q (g i) H
section
variable {X:Cx}{a b c:Expr}{ta tb tc:TE}{pos:Pos}
theorem yDs (ha:PE X a ta) (hb:PE X b tb) {pins:List (Addr×Obj)}{s:Shared}{Z:St}{H:Hp}{R:V->V->Hp->Prop}(I:Inv X pins Z H s)
  (h:ta Z H fun x H1=>tb Z H1 fun y H2=>R x y H2) {Q:Value->Shared->Prop}{f:Value->Value->Sem Value}
  (hf:∀ v u s2 x y H2,Inv X pins Z H2 s2->RelV x v->RelV y u->R x y H2->wpAny (model X.prog X.w) X.A (f v u) Q X.xe s2) :
  wpAny (model X.prog X.w) X.A (eval a X.env) (fun v s₁=>wpAny (model X.prog X.w) X.A (eval b X.env) (fun u s₂=>wpAny (model X.prog X.w) X.A (f v u) Q X.xe s₂) X.xe s₁) X.xe s:=by
 refine thn (ha pins s Z H _ I h) fun v s1 ⟨x,H1,I1,r1,q1⟩=>?_
 refine thn (hb pins s1 Z H1 _ I1 q1) fun u s2 ⟨y,H2,I2,r2,q2⟩=>?_
 exact hf v u s2 x y H2 I2 r1 r2 q2
theorem yAC {op:Operator}{r:R2}(i:OpR X (binaryOp op) r) (k:PE X a ta) (g:PE X b tb):PE X (.BinOp a op b pos) (tOp r ta tb):=by intro e s Z H Q I h;exact wpAny_BinOp (yDs k g I h fun v u s2 x y j f m l q=>i e s2 Z j x y v u Q f m l q)
theorem yDt {op:UnaryOp}{r:V->Hp->VK->Prop}(i:UnR X (unaryOp op) r) (j:PE X a ta):PE X (.UnaryOp op a pos) (tUn r ta):=by intro e s Z H Q I h;exact UnaryOp_ (thn (j e s Z H _ I h) fun v s1 ⟨x,g,k,f,l⟩=>i e s1 Z g x v Q k f l)
theorem opI {f:Value->Value->Sem Value}{C:Int->Int->Prop}{g:Int->Int->Int}
  (rule:∀ i j t u s Q E,C i j->Q (.int (g i j) s.toks) { s with toks:=s.toks+1 }->wpAny (model X.prog X.w) X.A (f (.int i t) (.int j u)) Q E s) :
  OpR X f (rI C fun i j=>.int (g i j)):=by
 intro e s Z H x y v u Q I m l h;obtain ⟨i,j,rfl,rfl,k,q⟩:=h;obtain ⟨t,rfl⟩:=m;obtain ⟨t',rfl⟩:=l;exact rule i j t t' s _ _ k ⟨.int _,H,I.tok _,⟨_,rfl⟩,q⟩
theorem yFm {f:Value->Value->Sem Value}{g:Int->Int->Int}
  (rule:∀ i j t u s Q E,Q (.int (g i j) s.toks) { s with toks:=s.toks+1 }->wpAny (model X.prog X.w) X.A (f (.int i t) (.int j u)) Q E s) :
  OpR X f (rI0 fun i j=>.int (g i j)):=by
 intro e s Z H x y v u Q I l k h;obtain ⟨i,j,rfl,rfl,q⟩:=h;obtain ⟨t,rfl⟩:=l;obtain ⟨t',rfl⟩:=k;exact rule i j t t' s _ _ ⟨.int _,H,I.tok _,⟨_,rfl⟩,q⟩
theorem yCY {f:Value->Value->Sem Value}{g:Int->Int->Bool}
  (rule:∀ i j t u s Q E,Q (.bool (g i j)) s->wpAny (model X.prog X.w) X.A (f (.int i t) (.int j u)) Q E s) :
  OpR X f (rI0 fun i j=>.bl (g i j)):=by
 intro e s Z H x y v u Q I l k h;obtain ⟨i,j,rfl,rfl,q⟩:=h;obtain ⟨t,rfl⟩:=l;obtain ⟨t',rfl⟩:=k;exact rule i j t t' s _ _ ⟨.bl _,H,I,rfl,q⟩
noncomputable def yFn (i j:Int):Prop:=0<j/\j<1073741824
noncomputable def yDu (i j:Int):Prop:=0<=j/\j<=1000000/\i.natAbs<2 ^ 64
noncomputable def CMul (i j:Int):Prop:=(-(2 ^ 64)<i/\i<2 ^ 64)\/(-(2 ^ 64)<j/\j<2 ^ 64)
theorem CMul.ok {i j:Int}(h:CMul i j):IntMulOk i j:=by
 rcases h with ⟨h1,h2⟩|⟨h1,h2⟩
 .exact .of_left (intBits_le_64 h1 h2)
 .exact .of_right (intBits_le_64 h1 h2)
theorem ybQ:OpR X (binaryOp .Add) (rI0 fun i j=>.int (i+j)):=yFm fun _ _ _ _ _ _ _ q=>add_int q
theorem yhL:OpR X (binaryOp .Sub) (rI0 fun i j=>.int (i-j)):=yFm fun _ _ _ _ _ _ _ q=>sub_int q
theorem yjk:OpR X (binaryOp .Mult) (rI CMul fun i j=>.int (i*j)):=opI fun _ _ _ _ _ _ _ e q=>mul_int q e.ok
theorem ycq:OpR X (binaryOp .FloorDiv) (rI yFn fun i j=>.int (i/j)):=opI fun i j _ _ _ _ _ e q=>by have h1:=e.1;have h2:=e.2;exact floordiv_int (by omega) (by rw [Int.fdiv_eq_ediv_of_nonneg i (by omega)];exact q) (.inl (PyProof.noPylong_small (by omega)))
theorem ybD:OpR X (binaryOp .Mod) (rI (fun _ j=>0<j) fun i j=>.int (i%j)):=opI fun i j _ _ _ _ _ e q=>by exact mod_int' (by omega) (by rw [Int.fmod_eq_emod_of_nonneg i (by omega)];exact q)
theorem ylg:OpR X (binaryOp .Pow) (rI yDu fun i j=>.int (i ^ j.toNat)):=opI fun _ _ _ _ _ _ _ e q=>pow_int_small e.1 e.2.1 e.2.2 q
theorem unI {f:Value->Sem Value}{g:Int->Int}
  (rule:∀ i t s Q E,Q (.int (g i) s.toks) { s with toks:=s.toks+1 }->wpAny (model X.prog X.w) X.A (f (.int i t)) Q E s) :
  UnR X f (rU fun i=>.int (g i)):=by
 intro e s Z H x v Q I j h;obtain ⟨i,rfl,q⟩:=h;obtain ⟨t,rfl⟩:=j;exact rule i t s _ _ ⟨.int _,H,I.tok _,⟨_,rfl⟩,q⟩
theorem ylh:UnR X (unaryOp .USub) (rU fun i=>.int (-i)):=unI fun _ _ _ _ _ q=>neg_int q
end
noncomputable def yws:V->V->Bool
 | .non,.non=>true|.non,.int _=>true|.int _,.non=>true|.non,.bl _=>true|.bl _,.non=>true|.non,.str _=>true|.str _,.non=>true
 | .int _,.int _=>true|.bl _,.bl _=>true|.str _,.str _=>true|.byt _,.byt _=>true
 | .int _,.str _=>true|.str _,.int _=>true|.bl _,.str _=>true|.str _,.bl _=>true
 | _,_=>false
def rEq:R2:=fun x y H Q=>yws x y=true/\Q (.bl (decide (x=y))) H
def rNe:R2:=fun x y H Q=>yws x y=true/\Q (.bl (!decide (x=y))) H
theorem yqy {i j:Int}:decide (V.int i=V.int j)=(i == j):=by rw [Bool.eq_iff_iff];simp
theorem ywt {i j:Bool}:decide (V.bl i=V.bl j)=(i == j):=by rw [Bool.eq_iff_iff];simp
theorem yqz {i j:Str}:decide (V.str i=V.str j)=(i == j):=by rw [Bool.eq_iff_iff];simp
theorem yqA {i j:Array UInt8}:decide (V.byt i=V.byt j)=(i.toList == j.toList):=by rw [Bool.eq_iff_iff];cases i;cases j;simp
section
variable {X:Cx}{a b c:Expr}{ta tb tc:TE}{pos:Pos}
theorem ybw {f:List _}{Z:St}{H:Hp}{s:Shared}{Q:VK}{k g:Bool}(I:Inv X f Z H s) (q:Q (.bl k) H) (e:k=g):EP X f Z Q (.bool g) s:=by subst e;exact ⟨.bl k,H,I,rfl,q⟩
theorem ybf:OpR X (compareOp .Eq) rEq:=by
 intro g s Z H x y v u Q I f e h;obtain ⟨hs,q⟩:=h;cases x with
 | non =>
  cases f;cases y with
  | non=>cases e;exact PySem.EqNone.eq_none_none (ybw I q (by simp))
  | bl j=>cases e;exact PySem.EqNone.eq_none_bool (ybw I q (by simp))
  | int j=>obtain ⟨t',rfl⟩:=e;exact PySem.EqNone.eq_none_int (ybw I q (by simp))
  | str j=>obtain ⟨t',rfl⟩:=e;exact PySem.EqNone.eq_none_str (ybw I q (by simp))
  | _=>exact absurd (show false=true from hs) Bool.false_ne_true
 | bl i =>
  cases f;cases y with
  | non=>cases e;exact PySem.EqNone.eq_bool_none (ybw I q (by simp))
  | bl j=>cases e;exact eq_bool (ybw I q ywt)
  | str j=>obtain ⟨t',rfl⟩:=e;exact PySem.EqMixed.eq_bool_str (ybw I q (by simp))
  | _=>exact absurd (show false=true from hs) Bool.false_ne_true
 | int i =>
  obtain ⟨t,rfl⟩:=f;cases y with
  | non=>cases e;exact PySem.EqNone.eq_int_none (ybw I q (by simp))
  | int j=>obtain ⟨t',rfl⟩:=e;exact eq_int (ybw I q yqy)
  | str j=>obtain ⟨t',rfl⟩:=e;exact PySem.EqMixed.eq_int_str (ybw I q (by simp))
  | _=>exact absurd (show false=true from hs) Bool.false_ne_true
 | str i =>
  obtain ⟨t,rfl⟩:=f;cases y with
  | non=>cases e;exact PySem.EqNone.eq_str_none (ybw I q (by simp))
  | bl j=>cases e;exact PySem.EqMixed.eq_str_bool (ybw I q (by simp))
  | int j=>obtain ⟨t',rfl⟩:=e;exact PySem.EqMixed.eq_str_int (ybw I q (by simp))
  | str j=>obtain ⟨t',rfl⟩:=e;exact eq_str (ybw I q yqz)
  | _=>exact absurd (show false=true from hs) Bool.false_ne_true
 | byt i =>
  obtain ⟨t,rfl⟩:=f;cases y with
  | byt j=>obtain ⟨t',rfl⟩:=e;exact PySem.W.eq_bytes (ybw I q yqA)
  | _=>exact absurd (show false=true from hs) Bool.false_ne_true
 | _=>cases y<;>exact absurd (show false=true from hs) Bool.false_ne_true
theorem yfB:OpR X (compareOp .NotEq) rNe:=by
 intro g s Z H x y v u Q I f e h;obtain ⟨hs,q⟩:=h;cases x with
 | non =>
  cases f;cases y with
  | non=>cases e;exact PySem.EqNone.ne_none_none (ybw I q (by simp))
  | bl j=>cases e;exact PySem.EqNone.ne_none_bool (ybw I q (by simp))
  | int j=>obtain ⟨t',rfl⟩:=e;exact PySem.EqNone.ne_none_int (ybw I q (by simp))
  | str j=>obtain ⟨t',rfl⟩:=e;exact PySem.EqNone.ne_none_str (ybw I q (by simp))
  | _=>exact absurd (show false=true from hs) Bool.false_ne_true
 | bl i =>
  cases f;cases y with
  | non=>cases e;exact PySem.EqNone.ne_bool_none (ybw I q (by simp))
  | bl j=>cases e;exact ne_bool (ybw I q (congrArg not ywt))
  | str j=>obtain ⟨t',rfl⟩:=e;exact PySem.EqMixed.ne_bool_str (ybw I q (by simp))
  | _=>exact absurd (show false=true from hs) Bool.false_ne_true
 | int i =>
  obtain ⟨t,rfl⟩:=f;cases y with
  | non=>cases e;exact PySem.EqNone.ne_int_none (ybw I q (by simp))
  | int j=>obtain ⟨t',rfl⟩:=e;exact ne_int (ybw I q (congrArg not yqy))
  | str j=>obtain ⟨t',rfl⟩:=e;exact PySem.EqMixed.ne_int_str (ybw I q (by simp))
  | _=>exact absurd (show false=true from hs) Bool.false_ne_true
 | str i =>
  obtain ⟨t,rfl⟩:=f;cases y with
  | non=>cases e;exact PySem.EqNone.ne_str_none (ybw I q (by simp))
  | bl j=>cases e;exact PySem.EqMixed.ne_str_bool (ybw I q (by simp))
  | int j=>obtain ⟨t',rfl⟩:=e;exact PySem.EqMixed.ne_str_int (ybw I q (by simp))
  | str j=>obtain ⟨t',rfl⟩:=e;exact ne_str (ybw I q (congrArg not yqz))
  | _=>exact absurd (show false=true from hs) Bool.false_ne_true
 | byt i =>
  obtain ⟨t,rfl⟩:=f;cases y with
  | byt j=>obtain ⟨t',rfl⟩:=e;exact PySem.W.ne_bytes (ybw I q (congrArg not yqA))
  | _=>exact absurd (show false=true from hs) Bool.false_ne_true
 | _=>cases y<;>exact absurd (show false=true from hs) Bool.false_ne_true
theorem yfp:OpR X (compareOp .Lt) (rI0 fun i j=>.bl (decide (i<j))):=yCY fun _ _ _ _ _ _ _ q=>lt_int q
theorem yhl:OpR X (compareOp .LtE) (rI0 fun i j=>.bl (decide (i<=j))):=yCY fun _ _ _ _ _ _ _ q=>le_int q
theorem yqB:OpR X (compareOp .Gt) (rI0 fun i j=>.bl (decide (j<i))):=yCY fun _ _ _ _ _ _ _ q=>gt_int q
theorem yDv:OpR X (compareOp .GtE) (rI0 fun i j=>.bl (decide (j<=i))):=yCY fun _ _ _ _ _ _ _ q=>ge_int q
theorem yqC:OpR X (compareOp .In) (fun x y H Q=>∃ i j,x=.str i/\y=.str j/\Q (.bl !(Builtin.Str.occurrences j i 0 j.length 1).isEmpty) H):=by intro e s Z H x y v u Q I g f h;obtain ⟨i,j,rfl,rfl,q⟩:=h;obtain ⟨t,rfl⟩:=g;obtain ⟨t',rfl⟩:=f;exact in_str (ybw I q rfl)
theorem yoh:OpR X (compareOp .Is) fun x y H Q=>y=.non/\Q (.bl (decide (x=.non))) H:=by
 intro e s Z H x y v u Q I g f h;obtain ⟨rfl,q⟩:=h;cases f;refine is_none_gen (ybw I q ?_);cases x<;>first
  | (rfl)
  | (obtain ⟨t,rfl⟩:=g;rfl)
theorem yxy:OpR X (compareOp .IsNot) (fun x y H Q=>y=.non/\Q (.bl (!decide (x=.non))) H):=by
 intro pins s Z H x y v u Q I rx ry h;obtain ⟨rfl,q⟩:=h;cases ry;refine isnot_none_gen (ybw I q ?_);cases x<;>first
  | (cases rx;rfl)
  | (obtain ⟨t,rfl⟩:=rx;rfl)
theorem yli b {op:CmpOp}(h:op≠.In:=by decide) (h2:op≠.NotIn:=by decide):behindInMarks op b=false:=by
 have f:(op == CmpOp.In)=false:=by grind
 have e:(op == CmpOp.NotIn)=false:=by simp_all
 cases b<;>simp [behindInMarks,f,e]
theorem yxz {op:CmpOp}{r:R2}(j:OpR X (compareOp op) r) (l:PE X a ta) (i:PE X b tb) (g:behindInMarks op b=false):PE X (.Compare a [op] [b] pos) (tOp r ta tb):=by intro e s Z H Q I h;exact wpAny_Compare1 (yDs l i I h fun v u s2 x y k f n m q=>j e s2 Z k x y v u Q f n m q) g
def yxA (t:TE):TT:=fun Z H Q=>t Z H fun x H'=>∃ k,x=.bl k/\Q k H'
theorem yxB {op:CmpOp}{r:R2}(ho:OpR X (compareOp op) r) (ha:PE X a ta) (hb:PE X b tb) (hm:behindInMarks op b=false):PT X (.Compare a [op] [b] pos) (yxA (tOp r ta tb)):=by
 intro pins s Z H Q I h;refine wpAny_isTrue_Compare1 (thn (ha pins s Z H _ I h) fun v s1 ⟨x,H1,I1,r1,q1⟩=>thn (hb pins s1 Z H1 _ I1 q1) fun u s2 ⟨y,H2,I2,r2,q2⟩ =>
  thn (ho pins s2 Z H2 x y v u _ I2 r1 r2 q2) fun c s3 ⟨z,H3,I3,r3,k,e,q3⟩=>?_) hm
 subst e;cases r3;exact wpAny_truthy_bool ⟨H3,I3,q3⟩
noncomputable def yqD (r r':R2) (ta tb tc:TE):TE:=fun Z H Q=>ta Z H fun x H1=>tb Z H1 fun y H2=>r x y H2 fun z H3=>∃ k,z=.bl k /\
 (if k=true then tc Z H3 fun w' H4=>r' y w' H4 Q else Q (.bl false) H3)
theorem ytR {op i:CmpOp}{r n:R2}(N:OpR X (compareOp op) r) (j:OpR X (compareOp i) n) (G:PE X a ta) (C:PE X b tb) (O:PE X c tc)
  (w:lastMarks [op,i] [b,c]=false:=by with_unfolding_all rfl):PE X (.Compare a [op,i] [b,c] pos) (yqD r n ta tb tc):=by
 intro g s Z H Q I h;refine Compare_chain (thn (G g s Z H _ I h) fun v s1 ⟨x,L,B,D,J⟩=>chain_link (thn (C g s1 Z L _ B J) fun u s2 ⟨y,P,F,r2,t⟩ =>
  thn (N g s2 Z P x y v u _ F D r2 t) fun d s3 ⟨z,l,o,E,k,e,m⟩=>?_)) w
 subst e;cases E;refine wpAny_truthy_bool ?_;cases k with
 | false=>exact ite_ff ⟨.bl false,l,o,rfl,m⟩
 | true=>exact ite_tt (chain_last (thn (O g s3 Z l _ o m) fun q s4 ⟨p,R,S,M,A⟩=>j g s4 Z R y p u q Q S r2 M A))
theorem ytS {op i:CmpOp}{r n:R2}(R:OpR X (compareOp op) r) (j:OpR X (compareOp i) n) (N:PE X a ta) (w:PE X b tb) (Z:PE X c tc)
  (q:lastMarks [op,i] [b,c]=false:=by with_unfolding_all rfl):PT X (.Compare a [op,i] [b,c] pos) (yxA (yqD r n ta tb tc)):=by
 intro g s f H Q I h;refine isTrue_chain (thn (N g s f H _ I h) fun v s1 ⟨x,T,F,J,P⟩=>test_link (thn (w g s1 f T _ F P) fun u s2 ⟨y,W,Y,r2,q2⟩ =>
  thn (R g s2 f W x y v u _ Y J r2 q2) fun d s3 ⟨z,o,l,L,k,e,m⟩=>?_)) q
 subst e;cases L;refine wpAny_truthy_bool ?_;cases k with
 | false =>
  obtain ⟨k',B,t⟩:=m;cases B;exact ite_ff ⟨o,l,t⟩
 | true =>
  refine ite_tt (test_last (thn (Z g s3 f o _ l m) fun M s4 ⟨C,p,I4,U,E⟩=>thn (j g s4 f p y C u M _ I4 r2 U E) fun d' s5 ⟨z2,S,G,D,k2,A,O⟩=>?_));subst A;cases D;exact wpAny_truthy_bool ⟨S,G,O⟩
theorem yjl:sizeLine<2 ^ 63:=by decide
theorem yo:OpR X (binaryOp .Add) fun x y H Q=>∃ i j,x=.str i/\y=.str j/\i.length+j.length<=sizeLine/\Q (.str (i++j)) H:=by intro e s Z H x y v u Q I g f h;obtain ⟨i,j,rfl,rfl,hz,q⟩:=h;obtain ⟨t,rfl⟩:=g;obtain ⟨t',rfl⟩:=f;exact add_str (fun t' k=>⟨.str _,H,I.tok _,⟨_,rfl⟩,q⟩) hz
theorem vals1 {x:V}{us:List Value}(r:Vals [x] us):∃ u,us=[u]/\RelV x u:=by
 cases r with
 | cons r1 r2=>cases r2;exact ⟨_,rfl,r1⟩
theorem vals2 {x y:V}{us:List Value}(r:Vals [x,y] us):∃ u d,us=[u,d]/\RelV x u/\RelV y d:=by
 cases r with
 | cons r1 r2 =>
  cases r2 with
  | cons r3 r4=>cases r4;exact ⟨_,_,rfl,r1,r3⟩
theorem ydP:yfA X (.type "str") fun xs H Q=>∃ i,xs=[.int i]/\i.natAbs.log2<1920/\Q (.str (toString i)) H:=by intro e s Z H xs us Q I r h;obtain ⟨i,rfl,hz,q⟩:=h;obtain ⟨u,rfl,t,rfl⟩:=vals1 r;exact PySem.P.str_of_int hz ⟨.str _,H,I.tok _,⟨_,rfl⟩,q⟩
end
structure ObjM (h:Heap) (x dx C:Addr) (mA:Str->Option Value):Prop where
 obj:h.get? x=some (instObj C dx)
 ns:h.Ns1 dx mA
 ne:dx≠x
theorem yqE {h:Heap}{dx:Addr}{mA:Str->Option Value}(n:h.Ns1 dx mA):∃ od,h.get? dx=some od/\∀ name,PySem.W.lookIn name od=some (mA name):=by
 obtain ⟨o,es,ep,ho,hd,hk,_,hm⟩:=n;refine ⟨o,ho,fun name=>?_⟩;have e:=hm name;unfold nsFind findBy at e;rw [<- Array.find?_toList] at e;unfold PySem.W.lookIn;rw [hd];dsimp only;split
 .rename_i y q;rw [q] at e;exact congrArg some e
 .rename_i q;rw [q] at e;have a:es.toList.any (·.refKey)=false:=by rw [List.any_eq_false];intro y hy;obtain ⟨z,t,hkey⟩:=hk y (Array.mem_toList_iff.mp hy);simp [DictEntry.refKey,hkey]
  have a':¬ es.toList.any (·.refKey)=true:=by rw [a];exact Bool.false_ne_true
  rw [if_neg a'];exact congrArg some e
theorem ObjM.look {h:Heap}{x b C:Addr}{c:Str->Option Value}(I:ObjM h x b C c):∃ od,PySem.W.InstAt h x (instObj C b) C (some od)/\∀ name,PySem.W.lookIn name od=some (c name) :=
 let ⟨od,d,hl⟩:=yqE I.ns
 ⟨od,⟨I.obj,rfl,rfl,d⟩,hl⟩
section
variable {prog:Program}{w:World}{A:Around}{E:Value->Shared->Prop}{s:Shared}{K:PySem.W.Frag}{x dx C f:Addr}{mA:Str->Option Value}{name:Str}{v:Value}
theorem yxC {b:Bool}{Q:Value->Shared->Prop}(X:K.In s.heap) (I:ObjM s.heap x dx C mA) (d:plainGet K C name=true) (i:hasDictIn K C=true)
  (g:findIn K (.ref C) name=some none) (e:mA name=some v) (c:PySem.W.handedIn v=true) (h:Q v { s with toks:=s.toks+1 }) :
  wpAny (model prog w) A (getAttr (.ref x) name b) Q E s:=by
 obtain ⟨od,J,hl⟩:=I.look;exact PySem.W.get_value X J (PySem.W.plainGet_of d).1 (PySem.W.findObj_own i g rfl (by rw [hl,e])) c h
theorem ytT {pl:Sem Bool}{Q:Value×List Value->Shared->Prop}(X:K.In s.heap) (I:ObjM s.heap x dx C mA) (b:plainGet K C name=true)
  (d:findIn K (.ref C) name=some (some (.ref f))) (e:isFn K (.ref f)=true) (c:mA name=none) (h:Q (.ref f,[.ref x]) s) :
  wpAny (model prog w) A (getMethod (.ref x) name pl) Q E s:=by
 obtain ⟨od,J,hl⟩:=I.look;exact PySem.W.method_fn X J (PySem.W.plainGet_of b).1 (PySem.W.plainGet_of b).2 d (beq_iff_eq.mp e) (by show (PySem.W.lookIn name od).map _=some false;rw [hl,c];rfl) h
theorem yxD {ns:List Str}{Q:Unit->Shared->Prop}(X:K.In s.heap) (I:ObjM s.heap x dx C mA)
  (hs:findIn K (.ref C) "__setattr__" = some (some (.builtin "object.__setattr__"))) (hp:PySem.W.plainOver K C=true) (n:PySem.W.takerIn K C name=some none) (q:hasDictIn K C=true)
  (k:PySem.Within mA ns) (hsz:ns.length<=sizeLine)
  (h:∀ h',ObjM h' x dx C (fun y=>if y=name then some v else mA y)->Heap.SameBut dx s.heap h'->Q () { s with heap:=h',toks:=s.toks+2 }) :
  wpAny (model prog w) A (setAttr (.ref x) name v) Q E s:=by
 obtain ⟨od,J,hl⟩:=I.look;refine PySem.W.set_plain X J hs (PySem.W.osa_open X J hp n fun b=>?_);obtain ⟨r,p,g⟩:=PySem.W.any_some q;have m:=I.obj;refine wpAny_bind (wpAny_pure (wpAny_bind (wpAny_bind (wpAny_loadPart m (wpAny_bind (PySem.W.Looks.here (PySem.W.looks_clsIn X p) ?_))))));rw [g];refine wpAny_pure (wpAny_bind (wpAny_pure (wpAny_bind ?_)));refine wpAny_nsSet1 I.ns fun h' c d=>?_
 obtain ⟨t,o,l,i,e,j⟩:=c.count (PySem.Within.cons name v k);refine wpAny_bind (wpAny_lookBehind i (by rw [e];exact pastItsLine_dict (Nat.le_trans j (by simp_all))) ?_);exact wpAny_pure (h _ ⟨(d.2 _ (Ne.symm I.ne)).trans I.obj,c,I.ne⟩ d)
theorem ytU {R:Result->Shared->Prop}{vs:List Value}{c:List _}(X:K.In s.heap) (d:makesIn K C=true)
  (g:findIn K (.ref C) "__init__" = some (some (.ref f))) (e:typeIn K (.ref f)=some (.type "function"))
  (h:codeAny (model prog w) (A.under (.builtin "type.__call__" ⟨.ref C::vs,c⟩)) (.call (.ref f) ⟨.ref (s.heap.objs.size+1)::vs,c⟩) (PySem.W.InitBack (s.heap.objs.size+1) R)
   { s with heap:=(s.heap.push emptyDict).push (instObj C s.heap.objs.size) }) :
  codeAny (model prog w) A (.call (.ref C) ⟨vs,c⟩) R s:=by
 exact PySem.W.make_core (PySem.W.makes_of X d) (PySem.W.looks_findIn X g) (fun b=>PySem.W.bind_fn X b e) (.inl rfl) h
end
noncomputable def yjm (f:Str) (v:V):List (Str×V)->List (Str×V)
 | []=>[(f,v)]
 | (g,x)::r=>if g=f then (g,v)::r else (g,x)::yjm f v r
theorem yhM (f g:Str) (v:V):∀ fs:List (Str×V),(yjm f v fs).lookup g=if g=f then some v else fs.lookup g
 | []=>by
  show List.lookup g [(f,v)]=_
  by_cases h:g=f
  .have hb:(g == f)=true:=beq_iff_eq.mpr h;simp only [List.lookup,hb,if_pos h]
  .have hb:(g == f)=false:=beq_eq_false_iff_ne.mpr h;simp only [List.lookup,hb,if_neg h]
 | (k,x)::r=>by
  have ih:=yhM f g v r;rw [show yjm f v ((k,x)::r)=(if k=f then (k,v)::r else (k,x)::yjm f v r) from rfl]
  by_cases hk:k=f
  .rw [if_pos hk]
   by_cases h:g=k
   .have hb:(g == k)=true:=beq_iff_eq.mpr h;simp only [List.lookup,hb,if_pos (h.trans hk)]
   .have hb:(g == k)=false:=beq_eq_false_iff_ne.mpr h;simp only [List.lookup,hb,if_neg (fun e:g=f=>h (e.trans hk.symm))]
  .rw [if_neg hk]
   by_cases h:g=k
   .have hb:(g == k)=true:=beq_iff_eq.mpr h;simp only [List.lookup,hb,if_neg (fun e:g=f=>hk (h.symm.trans e))]
   .have hb:(g == k)=false:=beq_eq_false_iff_ne.mpr h;simp only [List.lookup,hb];exact ih
theorem yhN f v:∀ fs,f∈(yjm f v fs).map (·.1)/\∀ g,g∈fs.map (·.1)->g∈(yjm f v fs).map (·.1)
 | []=>⟨by simp [yjm],fun g h=>by simp at h⟩
 | (k,x)::r=>by obtain ⟨c,b⟩:=yhN f v r;rw [show yjm f v _=if k=f then (k,v)::r else (k,x)::yjm f v r from rfl];grind
theorem yhO f v:∀ fs,(yjm f v fs).length<=fs.length+1
 | []=>by simp [yjm]
 | (k,x)::r=>by have b:=yhO f v r;rw [show yjm f v _=if k=f then (k,v)::r else (k,x)::yjm f v r from rfl];grind
theorem RelO.some_of {v:V}{o:Option Value}(r:RelO (some v) o):∃ u,o=some u/\RelV v u:=by
 cases o with
 | none=>exact (r).elim
 | some u=>exact ⟨u,rfl,r⟩
theorem RelO.none_of {o:Option Value}(r:RelO none o):o=none:=by
 cases o with
 | none=>rfl
 | some u=>exact (r).elim
theorem yqF {v:V}{u:Value}(r:RelV v u):PySem.W.handedIn u=true:=by
 cases v with
 | non=>cases (r);rfl
 | bl b=>cases (r);rfl
 | int i=>obtain ⟨t,e⟩:=(r);cases e;rfl
 | str x=>obtain ⟨t,e⟩:=(r);cases e;rfl
 | byt b=>obtain ⟨t,e⟩:=(r);cases e;rfl
 | flt b=>obtain ⟨t,e⟩:=(r);cases e;rfl
 | ref a=>cases (r);rfl
 | ty n=>cases (r);rfl
section
variable {P:Program}{w:World}{H H':Hp}{h h':Heap}{a C dx:Addr}{fs fs':List (Str×V)}
theorem yjN (c:HOk P w H h) (e:H a=some (.ins C dx fs)):∃ b,ObjM h a dx C b/\(∀ f,RelO (fs.lookup f) (b f))/\PySem.Within b (fs.map (·.1))/\fs.length<=1000/\H dx=some (.own a):=by
 obtain ⟨d,z,g,i,b,n,r,q⟩:=(c a _ e)
 exact ⟨b,⟨i,n,g⟩,r,q,z,d⟩
end
structure Cls (K:PySem.W.Frag) (C:Addr):Prop where
 pg:plainGet K C Str.empty=true
 hd:hasDictIn K C=true
 po:PySem.W.plainOver K C=true
 sa:findIn K (.ref C) "__setattr__" = some (some (.builtin "object.__setattr__"))
theorem Cls.get {K:PySem.W.Frag}{C:Addr}(c:Cls K C) (f:Str):plainGet K C f=true:=c.pg
noncomputable def NoAttr (K:PySem.W.Frag) (C:Addr) (f:Str):Prop:=findIn K (.ref C) f=some none
theorem NoAttr.taker {K:PySem.W.Frag}{C:Addr}{f:Str}(n:NoAttr K C f):PySem.W.takerIn K C f=some none:=by unfold PySem.W.takerIn;rw [n];rfl
structure Meth (K:PySem.W.Frag) (C:Addr) (m:Str) (f:Addr):Prop where
 at_:findIn K (.ref C) m=some (some (.ref f))
 fn:isFn K (.ref f)=true
 kp:keepIn K (.ref f)=true
section
variable {X:Cx}{pins:List (Addr×Obj)}{Z:St}{H:Hp}{s:Shared}{a C dx:Addr}{fs:List (Str×V)}{f:Str}{v:V}{A:Around}{E:Value->Shared->Prop}
theorem ypv {b:Bool}{Q:Value->Shared->Prop}(I:Inv X pins Z H s) (e:H a=some (.ins C dx fs)) (c:Cls X.K C) (n:NoAttr X.K C f) (l:fs.lookup f=some v)
  (h:∀ u s',Inv X pins Z H s'->RelV v u->Q u s'):wpAny (model X.prog X.w) A (getAttr (.ref a) f b) Q E s:=by
 obtain ⟨i,O,r,_,_,_⟩:=yjN I.hok e;obtain ⟨u,g,d⟩:=RelO.some_of (by rw [<- l];exact r f);exact yxC I.kIn O (c.get f) c.hd n g (yqF d) (h u _ (I.tok _) d)
theorem ygB {m:Str}{g:Addr}{pl:Sem Bool}{Q:Value×List Value->Shared->Prop}(I:Inv X pins Z H s) (e:H a=some (.ins C dx fs)) (c:Cls X.K C) (k:Meth X.K C m g) (l:fs.lookup m=none)
  (h:Q (.ref g,[.ref a]) s):wpAny (model X.prog X.w) A (getMethod (.ref a) m pl) Q E s:=by
 obtain ⟨d,O,r,_,_,_⟩:=yjN I.hok e;have b:=RelO.none_of (by rw [<- l];exact r m);exact ytT I.kIn O (c.get m) k.at_ k.fn b h
theorem ypw {y:V}{u:Value}{Q:Unit->Shared->Prop}(I:Inv X pins Z H s) (e:H a=some (.ins C dx fs)) (c:Cls X.K C) (n:NoAttr X.K C f) (hl:fs.length<1000) (ry:RelV y u)
  (h:∀ s',Inv X pins Z (upd H a (.ins C dx (yjm f y fs))) s'->Q () s'):wpAny (model X.prog X.w) A (setAttr (.ref a) f u) Q E s:=by
 obtain ⟨mA,O,r,wi,_,ho⟩:=yjN I.hok e;have hz:(fs.map (·.1)).length<=sizeLine:=by rw [length_map,sizeLine_eq];omega
 refine yxD I.kIn O c.sa c.po n.taker c.hd wi hz fun h' O' sb=>h _ ?_
 have hd:∃ o,h'.get? dx=some o:=let ⟨o,_,_,e',_⟩:=O'.ns;⟨o,e'⟩
 refine I.write (x:=a) (e:=dx) (by rw [e];exact True.intro) (.inr ho) (fun b q hb z=>(sb.2 b hb).trans z) hd ?_;refine ⟨by rw [yO O.ne];exact ho,?_,O.ne,O'.obj,_,O'.ns,fun g=>?_,fun g hg=>?_⟩
 .have:=yhO f y fs;omega
 .show RelO ((yjm f y fs).lookup g) (if g=f then some u else mA g);rw [yhM]
  by_cases q:g=f
  .rw [if_pos q,if_pos q];exact ry
  .rw [if_neg q,if_neg q];exact r g
 .by_cases q:g=f
  .rw [q];exact (yhN f y fs).1
  .refine (yhN f y fs).2 g (wi g fun z=>hg ?_);show (if g=f then some u else mA g)=none;rw [if_neg q];exact z
theorem Inv.made (I:Inv X pins Z H s):Inv X pins Z (upd (upd H s.heap.objs.size (.own (s.heap.objs.size+1))) (s.heap.objs.size+1) (.ins C s.heap.objs.size []))
  { s with heap:=(s.heap.push emptyDict).push (instObj C s.heap.objs.size) }:=by
 have d:(s.heap.push emptyDict).get? s.heap.objs.size=some emptyDict:=Heap.get?_push_size s.heap rfl;have h:=by have:=Heap.get?_push_size (s.heap.push emptyDict) (o:=instObj C s.heap.objs.size) rfl;rwa [Heap.size_push] at this
 have j:(s.heap.push emptyDict).Ns s.heap.objs.size _:=⟨emptyDict,#[],_,d,rfl,fun e g=>absurd g (by simp),fun _=>rfl⟩
 have k:=I.laid (o:=.own (s.heap.objs.size+1)) (t':=s.toks) (fun b u q=>Heap.get?_push_of_some _ q) (Nat.le_refl _) ⟨_,d⟩;refine k.laid (fun b u q=>Heap.get?_push_of_some _ q) (le_of_eq (Heap.size_push _ _)) ?_;have c:s.heap.objs.size≠s.heap.objs.size+1:=ne_of_lt (Nat.lt_succ_self _);refine ⟨by rw [yO c,yK],zero_le _,c,h,_,(Heap.Ns1.of_empty j).at fun o q=>Heap.get?_push_of_some _ q,fun _=>True.intro,fun y i=>absurd rfl i⟩
theorem yxE {prog:Program}{w:World}{env:Env}{e:Expr}{f:Str}{pos:Pos}{s:Shared}{Q:Value->Shared->Prop}(hb:attributeBase e f env (eval e env)=eval e env)
  (h:wpAny (model prog w) A (eval e env) (fun o s₁=>wpAny (model prog w) A (getAttr o f true) Q E s₁) E s):wpAny (model prog w) A (eval (.Attribute e f pos) env) Q E s :=
 Attribute_any_ h (by rw [arm_eval_Attribute,hb])
end
noncomputable def yFo (K:PySem.W.Frag) (ta:TE) (f:Str):TE:=fun Z H Q=>ta Z H fun x H1=>∃ a C dx fs v,x=.ref a/\H1 a=some (.ins C dx fs)/\Cls K C/\NoAttr K C f/\fs.lookup f=some v/\Q v H1
noncomputable def yDw (K:PySem.W.Frag) (ta tv:TE) (f:Str):TS:=fun D Z H=>tv Z H fun y H1=>ta Z H1 fun x H2=>∃ a C dx fs,x=.ref a/\H2 a=some (.ins C dx fs)/\Cls K C/\NoAttr K C f/\fs.length<1000 /\
 D.nx Z (upd H2 a (.ins C dx (yjm f y fs)))
section
variable {X:Cx}{o e value:Expr}{f:Str}{pos pos' tpos:Pos}{ta tv:TE}
theorem yAD (i:PE X e ta) (j:attributeBase e f X.env (eval e X.env)=eval e X.env):PE X (.Attribute e f pos) (yFo X.K ta f):=by intro d s Z H Q I h;refine yxE j (thn (i d s Z H _ I h) fun u s1 ⟨x,m,w,p,a,C,z,fs,v,g,r,c,n,l,q⟩=>?_);subst g;obtain rfl:u=Value.ref a:=p;exact ypv w r c n l fun y s2 k t=>⟨v,m,k,t,q⟩
theorem ywu (p:PE X o ta) (j:PE X value tv) (hs:swapsWith value (some (.Attribute o f pos')) pos.line X.env=pure false):PS X (.Assign [.Attribute o f pos'] value pos) (yDw X.K ta tv f):=by intro d s Z H D I h;refine plainObj_wpAny_Assign_Attribute (thn (j d s Z H _ I h) fun u s1 ⟨y,w,t,g,q⟩=>thn (p d s1 Z w _ t q) fun A s2 ⟨x,E,k,r,a,C,B,fs,v,i,c,n,l,m⟩=>?_) hs;subst v;obtain rfl:A=Value.ref a:=r;exact ypw k i c n l g fun s3 z=>⟨Z,_,z,m⟩
end
section
variable {X:Cx}{pins:List (Addr×Obj)}{Z:St}{H:Hp}{s:Shared}{A:Around}{E:Value->Shared->Prop}{Q:Value->Shared->Prop}{c:Value}{b:Bool}
inductive yoi (K:PySem.W.Frag) (H:Hp):V->Value->Prop where
 | non:yoi K H .non (.type "NoneType")
 | bl (x:Bool):yoi K H (.bl x) (.type "bool")
 | int (i:Int):yoi K H (.int i) (.type "int")
 | str (x:Str):yoi K H (.str x) (.type "str")
 | flt (x:UInt64):yoi K H (.flt x) (.type "float")
 | lst {a:Addr}{xs:List V}(e:H a=some (.lst xs)):yoi K H (.ref a) (.type "list")
 | frz {a:Addr}{o:Obj}{xs:List V}(e:H a=some (.frz o (.lst xs))):yoi K H (.ref a) (.type "list")
 | tup {a:Addr}{xs:List V}(e:H a=some (.tup xs)):yoi K H (.ref a) (.type "tuple")
 | kt {a:Addr}{o:Obj}(e:K.lookup a=some o) (c:o.cls=.type "tuple"):yoi K H (.ref a) (.type "tuple")
 | dK {a:Addr}{kvs:List (Key×V)}(e:H a=some (.dK kvs)):yoi K H (.ref a) (.type "dict")
 | dT {a:Addr}{kvs:List (List Key×V)}(e:H a=some (.dT kvs)):yoi K H (.ref a) (.type "dict")
 | ins {a C dx:Addr}{fs:List (Str×V)}(e:H a=some (.ins C dx fs)) (cl:Cls K C) (ha:findIn K (.ref C) "__class__" = some (some (.builtin "object.__class__")))
   (hn:PySem.W.specialIn K (.builtin "object.__class__") "__get__" = some (some (.builtin "getset_descriptor.__get__"))) (htk:PySem.W.takesIn K (.builtin "object.__class__")=some true)
   (hm:mroIn K C (.type "object")=some true):yoi K H (.ref a) (.ref C)
theorem yqG {x:V}{u t:Value}(I:Inv X pins Z H s) (d:RelV x u) (f:yoi X.K H x t) (e:PySem.W.kitOne X.K t c=some b) (h:∀ g,Q (.bool b) { s with toks:=g }) :
  wpAny (model X.prog X.w) A (call (.builtin "isinstance") [u,c]) Q E s:=by
 cases f with
 | non=>cases (d);exact kia_one PySem.W.kitx_none I.kIn True.intro e (fun z=>nomatch z) h
 | bl y=>cases (d);exact kia_one PySem.W.kitx_bool I.kIn True.intro e (fun z=>nomatch z) h
 | int i=>obtain ⟨t,q⟩:=(d);cases q;exact kia_one PySem.W.kitx_int I.kIn True.intro e (fun z=>nomatch z) h
 | str y=>obtain ⟨t,q⟩:=(d);cases q;exact kia_one PySem.W.kitx_str I.kIn True.intro e (fun z=>nomatch z) h
 | flt y=>obtain ⟨t,q⟩:=(d);cases q;exact kia_one PySem.W.kitx_float I.kIn True.intro e (fun z=>nomatch z) h
 | @lst a xs ea =>
  cases (d);obtain ⟨_,_,n,_,h1⟩:=(I.hok a _ ea)
  exact kia_one PySem.W.kitx_list I.kIn ⟨_,h1,rfl⟩ e (fun z=>nomatch z) h
 | @frz a ob xs ea =>
  cases (d);obtain ⟨_,_,_,n,_,h1⟩:=(I.hok a _ ea)
  exact kia_one PySem.W.kitx_list I.kIn ⟨_,h1,rfl⟩ e (fun z=>nomatch z) h
 | @tup a xs ea =>
  cases (d);obtain ⟨_,_,_,p⟩:=(I.hok a _ ea)
  obtain ⟨o,h1,h2,_⟩:=p;exact kia_one PySem.W.kitx_tuple I.kIn ⟨o,h1,h2⟩ e (fun z=>nomatch z) h
 | @kt a ob ek ck =>
  cases (d);exact kia_one PySem.W.kitx_tuple I.kIn ⟨ob,I.kIn a ob ek,ck⟩ e (fun z=>nomatch z) h
 | @dK a kvs ea =>
  cases (d);obtain ⟨_,_,vs,_,p⟩:=(I.hok a _ ea)
  obtain ⟨o,es,ep,h1,h2,_⟩:=p;exact kia_one PySem.W.kitx_dict I.kIn ⟨o,h1,h2.1⟩ e (fun z=>nomatch z) h
 | @dT a kvs ea =>
  cases (d);obtain ⟨_,_,xs,_,o,es,ep,h1,h2,_⟩:=(I.hok a _ ea)
  exact kia_one PySem.W.kitx_dict I.kIn ⟨o,h1,h2.1⟩ e (fun z=>nomatch z) h
 | @ins a C dx fs ea cl ha hn htk hm =>
  cases (d);obtain ⟨j,O,_⟩:=yjN I.hok ea;obtain ⟨od,J,_⟩:=O.look;exact kia_one (PySem.W.kitx_own (cl.get _) cl.hd ha hn htk hm) I.kIn J e (fun z=>nomatch z) h
end
structure Room (k:Nat) (A:Around):Prop where
 hd:A.handled=none
 dp:A.depth+3*k+5<recursionLimit
 un:A.units+16*k+200<cLine
theorem Room.mono {j k:Nat}{A:Around}(r:Room k A) (h:j<=k):Room j A:=⟨r.hd,by have:=r.dp;omega,by have:=r.un;omega⟩
theorem Room.deeper {k:Nat}{A:Around}(r:Room (k+1) A) env:Room k (A.deeper env) :=
 ⟨r.hd,by have:=r.dp;show A.depth+1+3*k+5<_;omega,by have:=r.un;show A.units+3+16*k+200<_;omega⟩
theorem ypx {A:Around}{C:Addr}{us:List Value}{kw:List (Str×Value)}:(A.under (.builtin "type.__call__" ⟨.ref C::us,kw⟩)).depth=A.depth+1:=by first|rfl|simp [Around.under,Code.weight,Code.isCreation,Code.isGuard,Code.isCaller,Code.frames,Code.isFrame,guardIds]
theorem ypy {A:Around}{C:Addr}{us:List Value}{kw:List (Str×Value)}:(A.under (.builtin "type.__call__" ⟨.ref C::us,kw⟩)).units=A.units+1:=by first|rfl|simp [Around.under,Code.cUnits,Code.frames,Code.isFrame]
theorem Room.make {k:Nat}{A:Around}(r:Room (k+1) A) C us b:Room k (A.under (.builtin "type.__call__" ⟨.ref C::us,b⟩)) :=
 ⟨r.hd,by have:=r.dp;rw [ypx];omega,by have:=r.un;rw [ypy];omega⟩
theorem Room.depth {k:Nat}{A:Around}(r:Room k A):A.depth<recursionLimit:=by have:=r.dp;omega
theorem Room.units {k:Nat}{A:Around}(r:Room k A):A.units+64<cLine:=by have:=r.un;omega
def ywv:TA:=fun _ H Q=>Q [] H
noncomputable def ymR (ta:TE) (tr:TA):TA:=fun Z H Q=>ta Z H fun x H1=>tr Z H1 fun xs H2=>Q (x::xs) H2
section
variable {X:Cx}{e:Expr}{es:List Expr}{te:TE}{t:TA}{pos:Pos}
theorem yjn:PA X [] ywv:=fun _ _ _ _ H Q I h=>Calls.spliced_nil ⟨[],H,I,.nil,h⟩
theorem yfC (m:PE X e te) (j:PA X es t) (hs:starEach (e::es) X.env=(false,eval e X.env)::starEach es X.env:=by rfl):PA X (e::es) (ymR te t):=by intro pos b s Z H Q I h;rw [hs];show wpAny _ _ (spliced ((false,eval e X.env)::backTo pos _)) _ _ s;exact Calls.spliced_cons (thn (m b s Z H _ I h) fun u s1 ⟨x,g,l,c,d⟩=>thn (j pos b s1 Z g _ l d) fun us s2 ⟨xs,i,k,r2,f⟩=>⟨x::xs,i,k,.cons c r2,f⟩)
noncomputable def yFp (t:TA):TE:=fun Z H Q=>t Z H fun xs H1=>xs.length<=sizeLine/\∀ p,H1 p=none->Q (.ref p) (upd H1 p (.tup xs))
noncomputable def yFq (t:TA):TE:=fun Z H Q=>t Z H fun xs H1=>xs.length<=sizeLine/\∀ p,H1 p=none->Q (.ref p) (upd H1 p (.lst xs))
theorem yAE {x1} (h:PA X es t):PE X (.Tuple es x1 pos) (yFp t):=by intro c s Z H Q I g;refine wpAny_Tuple_spliced (thn (h pos c s Z H _ I g) fun us s1 ⟨xs,i,d,r,z,q⟩=>⟨by rw [<- r.length];exact z,?_⟩);have f:=d.hok.fresh (Nat.le_refl _);refine ⟨.ref s1.heap.objs.size,_,d.laid (fun b u e=>Heap.get?_push_of_some _ e) (Nat.le_refl _) ?_,rfl,q _ f⟩;exact ⟨z,us,r,⟨_,Heap.get?_push_size _ rfl,rfl,_,rfl⟩⟩
theorem yAF (h:PA X es t):PE X (.List es pos) (yFq t):=by intro c s Z H Q I g;refine wpAny_List_spliced (thn (h pos c s Z H _ I g) fun us s1 ⟨xs,i,d,r,z,q⟩=>⟨by rw [<- r.length];exact z,?_⟩);have f:=d.hok.fresh (Nat.le_refl _);refine ⟨.ref s1.heap.objs.size,_,d.laid (fun b u e=>Heap.get?_push_of_some _ e) (Nat.le_refl _) ?_,rfl,q _ f⟩;exact ⟨z,us,0,r,Heap.get?_push_size _ rfl⟩
end
abbrev Sp:=List V->Hp->VK->XK->Prop
abbrev CXT:=List Env->Hp->Shared->XK->Value->Shared->Prop
structure Env0 (P:Program) (w:World) (K:PySem.W.Frag) (mg:Str->Option Value) (base:Heap) (A:Around) (outer:List Env) (s:Shared) (H:Hp):Prop where
 frames:A.frames=some outer
 mod:Mod K mg base
 bs:∀ b o,base.get? b=some o->s.heap.get? b=some o/\H b=none
 bsz:base.objs.size<=s.heap.objs.size
 funs:s.heap.FunFrames base outer
 frf:∀ b∈frs outer,H b=none
 hok:HOk P w H s.heap
 bare:AllBare s.gens
def CE (outer:List Env) (P:Program) (w:World) (H:Hp) (s:Shared) (Q:VK) (u:Value) (s':Shared):Prop :=
 ∃ v H',s'.os=s.os/\AllBare s'.gens/\Un (frs outer) [] H H' s.heap s'.heap/\HOk P w H' s'.heap/\RelV v u/\Q v H'
def CR (CX:CXT) (outer:List Env) (P:Program) (w:World) (H:Hp) (s:Shared) (Q:VK) (E:XK) (r:Result) (s':Shared):Prop :=
 match r with
 | .ok (.ret u)=>CE outer P w H s Q u s'
 | .ok _=>False
 | .error e=>CX outer H s E e s'
structure FnOk (P:Program) (w:World) (K:PySem.W.Frag) (mg:Str->Option Value) (base:Heap) (CX:CXT) (k:Nat) (f:Addr) (fd:FuncData) (ps:List Str) (sp:Sp):Prop where
 len:∀ vs H Q E,sp vs H Q E->vs.length=ps.length
 run:∀ (A:Around) (outer:List Env) (s:Shared) (H:Hp) (args:Args) (us:List Value) (vs:List V) (Q:VK) (E:XK),Room k A->Env0 P w K mg base A outer s H->BindsTo s fd args (ps.zip us)->Vals vs us->sp vs H Q E ->
  codeAny (model P w) A (.call (.ref f) args) (CR CX outer P w H s Q E) s
theorem FnOk.mono {P:Program}{w:World}{K:PySem.W.Frag}{mg:Str->Option Value}{base:Heap}{CX:CXT}{j k:Nat}{f:Addr}{fd:FuncData}{ps:List Str}{sp:Sp}(F:FnOk P w K mg base CX j f fd ps sp) (h:j<=k) :
  FnOk P w K mg base CX k f fd ps sp:=⟨F.len,fun A outer s H args us vs Q E hr=>F.run A outer s H args us vs Q E (hr.mono h)⟩
theorem FnOk.imp {P:Program}{w:World}{K:PySem.W.Frag}{c:Str->Option Value}{base:Heap}{CX:CXT}{k:Nat}{f:Addr}{d:FuncData}{ps:List Str}{sp b:Sp}(F:FnOk P w K c base CX k f d ps sp)
  (h:∀ vs H Q E,b vs H Q E->sp vs H Q E):FnOk P w K c base CX k f d ps b :=
 ⟨fun vs H Q E q=>F.len vs H Q E (h _ _ _ _ q),fun A outer s H args us vs Q E i j g e hs=>F.run A outer s H args us vs Q E i j g e (h _ _ _ _ hs)⟩
theorem Env0.make {P:Program}{w:World}{K:PySem.W.Frag}{b:Str->Option Value}{base:Heap}{A:Around}{outer:List Env}{s:Shared}{H:Hp}(e:Env0 P w K b base A outer s H) C us c :
  Env0 P w K b base (A.under (.builtin "type.__call__" ⟨.ref C::us,c⟩)) outer s H:=⟨by first|exact e.frames|omega,e.mod,e.bs,e.bsz,e.funs,e.frf,e.hok,e.bare⟩
section
variable {X:Cx}{pins:List (Addr×Obj)}{Z:St}{H:Hp}{s s':Shared}
theorem Inv.env0 (I:Inv X pins Z H s):Env0 X.prog X.w X.K X.mg X.base X.A X.stack s H :=
 ⟨I.ok.frames,I.ok.mod,I.bs,Nat.le_trans I.ok.bsz I.sz,I.stack,I.stkFree,I.hok,I.bare⟩
theorem Inv.after {Q:VK}{u:Value}(I:Inv X pins Z H s) (h:CE X.stack X.prog X.w H s Q u s'):EP X pins Z Q u s':=by obtain ⟨v,f,os,a,i,e,r,q⟩:=h;obtain ⟨j,g,d,t,c⟩:=s';obtain rfl:c=s.os:=os;exact ⟨v,f,I.call i e a fun b z=>absurd z (by simp),r,q⟩
end
noncomputable def ytV (sp:Sp) (dvs:List V) (E:XK) (t:TA):TE:=fun Z H Q=>t Z H fun vs H1=>sp (vs++dvs) H1 Q E
noncomputable def yxF (C:Addr) (m:Str) (sp:Sp) (dvs:List V) (E:XK) (ta:TE) (t:TA):TE:=fun Z H Q=>ta Z H fun x H1=>∃ a dx fs,x=.ref a/\H1 a=some (.ins C dx fs)/\fs.lookup m=none /\
 t Z H1 fun vs H2=>sp (x::(vs++dvs)) H2 Q E
noncomputable def ytW (C:Addr) (sp:Sp) (dvs:List V) (E:XK) (t:TA):TE:=fun Z H Q=>t Z H fun vs H1=>∀ x dx,H1 x=none->H1 dx=none->dx≠x ->
 sp (.ref x::(vs++dvs)) (upd (upd H1 dx (.own x)) x (.ins C dx [])) (fun v H2=>v=.non/\Q (.ref x) H2) E
noncomputable def Binds (K:PySem.W.Frag) (fd:FuncData) (ps:List Str) (ds:List Value):Prop :=
 ∀ (s:Shared) (us:List Value),K.In s.heap->(us++ds).length=ps.length->BindsTo s fd ⟨us,[]⟩ (ps.zip (us++ds))
theorem Binds.all {K:PySem.W.Frag}{fd:FuncData}{ps:List Str}(h:∀ us:List Value,us.length=ps.length->bindArgs fd ⟨us,[]⟩=pure (ps.zip us)):Binds K fd ps []:=fun s us _ hl=>by rw [append_nil] at hl ⊢;exact .of_eq (h us hl)
def yfU (CX:CXT) (X:Cx) (E:XK):Prop:=∀ (pins:List (Addr×Obj)) (Z:St) (H:Hp) (s:Shared) (e:Value) (s':Shared),Inv X pins Z H s->CX X.stack H s E e s'->X.xe e s'
section
variable {X:Cx}{CX:CXT}{k:Nat}{f C:Addr}{fd:FuncData}{ps:List Str}{sp:Sp}{dvs:List V}{ds:List Value}{E:XK}{x m:Str}{p pos apos:Pos}{e o:Expr}{es:List Expr}{ta:TE}{t:TA}
theorem ylj {b:List _}{Z:St}{H:Hp}{s:Shared}{Q:VK}{us:List Value}{vs:List V}(F:FnOk X.prog X.w X.K X.mg X.base CX k f fd ps sp) (j:Room k X.A) (i:Binds X.K fd ps ds) (d:Vals dvs ds) (g:yfU CX X E)
  (I:Inv X b Z H s) (r:Vals vs us) (h:sp (vs++dvs) H Q E):wpAny (model X.prog X.w) X.A (call (.ref f) us) (EP X b Z Q) X.xe s:=by
 have r2:=r.append d;have hl:(us++ds).length=ps.length:=by rw [<- r2.length];exact F.len _ _ _ _ h
 refine wpAny_call (codeAny_mono (F.run X.A X.stack s H _ _ _ Q E j I.env0 (i s us I.kIn hl) r2 h) fun r s' c=>?_);cases r with
 | error e=>exact g b Z H s e s' I c
 | ok fl =>
  cases fl with
  | ret u=>exact I.after c
  | next=>exact False.elim c
  | brk=>exact False.elim c
  | cont=>exact False.elim c
theorem yxG (F:FnOk X.prog X.w X.K X.mg X.base CX k f fd ps sp) (j:Room k X.A) (u:Gl X x) (i:X.mg x=some (.ref f)) (n:keepIn X.K (.ref f)=true) (l:Binds X.K fd ps ds) (z:Vals dvs ds) (y:yfU CX X E)
  (w:PA X (e::es) t) (d:(x == "__debug__")=false:=by decide) (v:starEach (e::es) X.env=(false,eval e X.env)::starEach es X.env:=by rfl) (c:(backTo pos (starEach es X.env)).any (·.1)=false:=by rfl) :
  PE X (.Call (.Name x p) (e::es) [] pos) (ytV sp dvs E t):=by
 intro b s Z H Q I h;refine wpAny_Call_Name_kw (yhK I u i ?_ d);refine PySem.W.callWith_K I.ok.mod.kin n (thn (w pos b s Z H _ I h) fun us s1 ⟨vs,A,g,r,q⟩=>⟨g.kIn,?_⟩) v c;exact ylj F j l z y g r q
theorem yxH {pl:Sem Bool}(L:PE X o ta) (c:Cls X.K C) (w:Meth X.K C m f) (F:FnOk X.prog X.w X.K X.mg X.base CX k f fd ps sp) (A:Room k X.A) (z:Binds X.K fd ps ds) (O:Vals dvs ds) (G:yfU CX X E) (M:PA X (e::es) t)
  (i:starEach (e::es) X.env=(false,eval e X.env)::starEach es X.env:=by rfl) (g:(backTo pos (starEach es X.env)).any (·.1)=false:=by rfl)
  (D:eval (.Call (.Attribute o m apos) (e::es) [] pos) X.env=(do
   let n <- eval o X.env
   standAt apos.atName
   let (f,first) <- holding [n] (getMethod n m pl)
   callWith pos f first (backTo pos (starEach (e::es) X.env)) (backToKw pos (keywordEach [] X.env))):=by rfl) :
  PE X (.Call (.Attribute o m apos) (e::es) [] pos) (yxF C m sp dvs E ta t):=by
 intro d s Z H Q I h;refine PySem.W.methodCall_KW (thn (L d s Z H _ I h) fun u s1 ⟨x,P,j,B,a,S,fs,y,N,l,q⟩=>?_) D;subst y;obtain rfl:u=Value.ref a:=B;refine ygB j N c w l ?_;refine PySem.W.callWith_K I.ok.mod.kin w.kp (thn (M pos d s1 Z P _ j q) fun us s2 ⟨vs,R,v,r,J⟩=>⟨v.kIn,?_⟩) i g;exact ylj (vs:=.ref a::vs) F A z O G v (.cons rfl r) J
theorem ytX {pl:Sem Bool}(B:PE X o ta) (c:Cls X.K C) (i:Meth X.K C m f) (F:FnOk X.prog X.w X.K X.mg X.base CX k f fd ps sp) (v:Room k X.A) (r:Binds X.K fd ps ds) (n:Vals dvs ds) (A:yfU CX X E)
  (y:eval (.Call (.Attribute o m apos) [] [] pos) X.env=(do
   let j <- eval o X.env
   standAt apos.atName
   let (f,first) <- holding [j] (getMethod j m pl)
   callWith pos f first (backTo pos (starEach [] X.env)) (backToKw pos (keywordEach [] X.env))):=by rfl) :
  PE X (.Call (.Attribute o m apos) [] [] pos) (yxF C m sp dvs E ta ywv):=by
 intro d s Z H Q I h;refine PySem.W.methodCall_KW (thn (B d s Z H _ I h) fun u s1 ⟨x,G,g,w,a,J,fs,D,z,l,q⟩=>?_) y;subst D;obtain rfl:u=Value.ref a:=w;refine ygB g z c i l ?_;exact PySem.W.callWith_K0 g.kIn i.kp (ylj (us:=[.ref a]) (vs:=[.ref a]) F v r n A g (.cons rfl .nil) q)
structure Mk (K:PySem.W.Frag) (C f:Addr):Prop where
 makes:makesIn K C=true
 init:findIn K (.ref C) "__init__" = some (some (.ref f))
 fn:isFn K (.ref f)=true
 kp:keepIn K (.ref C)=true
theorem yoj {c:List _}{Z:St}{H:Hp}{s:Shared}{Q:VK}{us:List Value}{vs:List V}(M:Mk X.K C f) (F:FnOk X.prog X.w X.K X.mg X.base CX k f fd ps sp) (A:Room (k+1) X.A) (q:Binds X.K fd ps ds) (B:Vals dvs ds)
  (y:yfU CX X E) (I:Inv X c Z H s) (r:Vals vs us)
  (h:∀ x d,H x=none->H d=none->d≠x->sp (.ref x::(vs++dvs)) (upd (upd H d (.own x)) x (.ins C d [])) (fun v z=>v=.non/\Q (.ref x) z) E) :
  wpAny (model X.prog X.w) X.A (call (.ref C) us) (EP X c Z Q) X.xe s:=by
 have i:=h _ s.heap.objs.size (I.hok.fresh (Nat.le_succ _)) (I.hok.fresh (Nat.le_refl _)) (ne_of_lt (Nat.lt_succ_self _));have g:=Inv.made (C:=C) I;have r2:Vals (V.ref (s.heap.objs.size+1)::(vs++dvs)) _:=.cons rfl (r.append B);have hl:=by have e:=r2.length;rw [F.len _ _ _ _ i] at e;exact e.symm
 refine wpAny_call (ytU I.kIn M.makes M.init (beq_iff_eq.mp M.fn) (codeAny_mono (F.run _ X.stack _ _ _ _ _ _ E (A.make C us [])
  (g.env0.make C us []) (q _ _ g.kIn hl) r2 i) fun r s' b=>?_))
 cases r with
 | error e=>exact y c Z _ _ e s' g b
 | ok fl =>
  cases fl with
  | ret u =>
   obtain ⟨v,w,n,j,ev,l⟩:=g.after b;subst ev;exact ⟨j,⟨V.ref _,w,n,rfl,l⟩⟩
  | next=>exact False.elim b
  | brk=>exact False.elim b
  | cont=>exact False.elim b
theorem yqH (M:Mk X.K C f) (F:FnOk X.prog X.w X.K X.mg X.base CX k f fd ps sp) (w:Room (k+1) X.A) (n:Gl X x) (i:X.mg x=some (.ref C)) (j:Binds X.K fd ps ds) (y:Vals dvs ds) (l:yfU CX X E)
  (v:PA X (e::es) t) (d:(x == "__debug__")=false:=by decide) (u:starEach (e::es) X.env=(false,eval e X.env)::starEach es X.env:=by rfl) (c:(backTo pos (starEach es X.env)).any (·.1)=false:=by rfl) :
  PE X (.Call (.Name x p) (e::es) [] pos) (ytW C sp dvs E t):=by
 intro b s Z H Q I h;refine wpAny_Call_Name_kw (yhK I n i ?_ d);refine PySem.W.callWith_K I.ok.mod.kin M.kp (thn (v pos b s Z H _ I h) fun us s1 ⟨vs,z,g,r,q⟩=>⟨g.kIn,?_⟩) u c;exact yoj M F w j y l g r q
theorem ytY (M:Mk X.K C f) (F:FnOk X.prog X.w X.K X.mg X.base CX k f fd ps sp) (j:Room (k+1) X.A) (d:Gl X x) (g:X.mg x=some (.ref C)) (i:Binds X.K fd ps ds) (n:Vals dvs ds) (l:yfU CX X E)
  (b:(x == "__debug__")=false:=by decide):PE X (.Call (.Name x p) [] [] pos) (ytW C sp dvs E ywv):=by
 intro c s Z H Q I h;exact wpAny_Call_Name_kw (yhK I d g (PySem.W.callWith_K0 I.kIn M.kp (yoj (us:=[]) M F j i n l I .nil h)) b)
end
structure yes (N P:List Str) (sc:Scope):Prop where
 kind:sc.kind=.function
 co:sc.isCoroutine=false
 gen:sc.isGenerator=false
 nd:N.Nodup
 pre:N.take P.length=P
 par:∀ x∈P,sc.names.lookup x=some .local \/ sc.names.lookup x=some .cell
 nofree:∀ y∈sc.names,y.2≠.free
theorem ylk {kindOf:Str->Option NameKind}{x:Str}:∀ {binds:List (Str×Value)}{m:Str->Option Value},(∀ v,(x,v)∉binds)->bindL kindOf binds m x=m x
 | [],_,_=>rfl
 | (n,v)::r,m,h=>by
  unfold bindL;rw [ylk fun w hw=>h w (mem_cons_of_mem _ hw)];split
  .have:x≠n:=by rintro rfl;exact h v mem_cons_self
   simp [this]
  .rfl
theorem yll {kindOf:Str->Option NameKind}{x:Str}:∀ {binds:List (Str×Value)}{m:Str->Option Value},(∀ v,(x,v)∉binds)->bindC kindOf binds m x=m x
 | [],_,_=>rfl
 | (n,v)::r,m,h=>by
  unfold bindC;rw [yll fun w hw=>h w (mem_cons_of_mem _ hw)];split
  .rfl
  .have:x≠n:=by rintro rfl;exact h v mem_cons_self
   simp [this]
theorem ylm {kindOf:Str->Option NameKind}{x:Str}{v:Value}:∀ {P:List Str}{vs:List Value}{i:Nat}{m:Str->Option Value},P.Nodup->P[i]?=some x->vs[i]?=some v->kindOf x=some .local ->
  bindL kindOf (P.zip vs) m x=some v
 | [],_,_,_,_,h,_,_=>by simp at h
 | _::_,[],_,_,_,_,h,_=>by simp at h
 | p::P,w::vs,0,m,c,h1,h2,b=>by simp at h1 h2;subst h1;subst h2;show bindL kindOf ((p,w)::P.zip vs) m p=_;unfold bindL;rw [ylk fun v d=>(List.nodup_cons.mp c).1 (of_mem_zip d).1,if_pos b];simp
 | p::P,w::vs,i+1,m,c,h1,h2,b=>by unfold bindL;exact ylm (List.nodup_cons.mp c).2 (by simpa using h1) (by simpa using h2) b
theorem yln {kindOf:Str->Option NameKind}{x:Str}{v:Value}:∀ {P:List Str}{vs:List Value}{i:Nat}{m:Str->Option Value},P.Nodup->P[i]?=some x->vs[i]?=some v->kindOf x≠some .local ->
  bindC kindOf (P.zip vs) m x=some v
 | [],_,_,_,_,h,_,_=>by simp at h
 | _::_,[],_,_,_,_,h,_=>by simp at h
 | p::P,w::vs,0,m,c,h1,h2,b=>by simp at h1 h2;subst h1;subst h2;show bindC kindOf ((p,w)::P.zip vs) m p=_;unfold bindC;rw [yll fun v d=>(List.nodup_cons.mp c).1 (of_mem_zip d).1,if_neg b];simp
 | p::P,w::vs,i+1,m,c,h1,h2,b=>by unfold bindC;exact yln (List.nodup_cons.mp c).2 (by simpa using h1) (by simpa using h2) b
noncomputable def start (N:List Str) (vs:List V):St:=vs.map some++replicate (N.length-vs.length) none
noncomputable def ytZ (CX:CXT) (P:Program) (w:World) (K:PySem.W.Frag) (mg:Str->Option Value) (base:Heap) (N:List Str) (qual:Str) (scope:Scope) (f:Addr) (cd:Value) (A:Around) (outer:List Env) (s:Shared) (H:Hp) (E:XK):Cx where
 prog:=P
 w:=w
 K:=K
 mg:=mg
 base:=base
 A:=A.deeper (envOfC qual scope s.heap.objs.size f cd)
 N:=N
 s₀:=s
 H₀:=H
 env:=envOfC qual scope s.heap.objs.size f cd
 outer:=outer
 stack:=envOfC qual scope s.heap.objs.size f cd::outer
 ex:=[]
 calm:=true
 fn:=fun _=>true
 pn:=[]
 xe:=fun e s'=>wpAny (model P w) (A.deeper (envOfC qual scope s.heap.objs.size f cd)) (leaving (envOfC qual scope s.heap.objs.size f cd) e) (fun _ s''=>CX outer H s E e s'') (fun e' s''=>CX outer H s E e' s'') s'
theorem yok {b:Scope}{n:Nat}{x:Str}(h:b.names.lookup x=some .cell):∃ c,(cellsFrom n b.names []).lookup x=some c:=by have q:=PySem.W.cellsFrom_some b.names n [] (.inl h);exact Option.isSome_iff_exists.mp q
theorem yqI {CX:CXT}{P:Program}{w:World}{K:PySem.W.Frag}{t:Str->Option Value}{base:Heap}{N ps:List Str}{d:Str}{scope:Scope}{f:Addr}{o:Value}{A:Around}{outer:List Env}{s s1:Shared}{H:Hp}{E:XK}{us:List Value}{vs:List V}
  (S:yes N ps scope) (G:A.handled=none) (g:Env0 P w K t base A outer s H) (hl:vs.length=ps.length) (r:Vals vs us)
  (x:InCallC s s.heap.objs.size (bindL (envOfC d scope s.heap.objs.size f o).kindOf (ps.zip us) fun _=>none) (cellsFrom (s.heap.objs.size+1) scope.names []) (bindC (envOfC d scope s.heap.objs.size f o).kindOf (ps.zip us) fun _=>none) s1) :
  Inv (ytZ CX P w K t base N d scope f o A outer s H E) [] (start N vs) H s1:=by
 have F:ps.length<=N.length:=by have:=congrArg length S.pre;grind
 obtain ⟨h1,J,rfl,B⟩:=x.done;have j:∀ b:Addr,b∉(ytZ CX P w K t base N d scope f o A outer s H E).ex:=fun b z=>absurd (show b∈([]:List Addr) from z) (by simp)
 refine ⟨⟨g.mod,S.kind,rfl,rfl,Nat.le_refl _,fun y z c h1 h2=>?_,fun y l=>?_,fun y c _ h=>?_,fun _=>G,Around.frames_deeper g.frames,.inr ⟨rfl,rfl⟩,fun b z=>absurd z (j b),g.bs,g.bsz,fun b _ _=>j b,fun b z=>absurd z (j b),g.funs,g.frf⟩,
  rfl,g.bare,Un.kept B,⟨_,x.toInCall.ns,fun i y v h1 h2 L=>?_⟩,fun y c h=>⟨_,x.cell y c h⟩,g.hok.fresh (Nat.le_refl _),fun y c h=>?_,fun p hp=>absurd (show p∈[] from hp) (by simp),g.hok.kept B,?_⟩
 .exact name_of_addr x.apart (PySem.mem_of_lookup h1) (PySem.mem_of_lookup h2)
 .rcases l with l|l
  .exact yok l
  .exact absurd rfl (S.nofree _ (PySem.mem_of_lookup l))
 .exact le_of_lt (x.above y c (PySem.mem_of_lookup h))
 .have n:i<vs.length:=by
   unfold start at h2
   by_cases n:i<vs.length
   .exact n
   .rw [getElem?_append_right (by simpa using n)] at h2;rw [getElem?_replicate] at h2;split at h2<;>cases h2
  have I:vs[i]?=some v:=by unfold start at h2;rw [getElem?_append_left (by simpa using n),getElem?_map] at h2;simp_all
  obtain ⟨u,C,D⟩:=r.get I;have hp:ps[i]?=some y:=by rw [<- S.pre,List.getElem?_take_of_lt (by omega)];exact h1
  have m:ps.Nodup:=by rw [<- S.pre];exact S.nd.sublist (List.take_sublist _ _)
  refine ⟨u,D,?_⟩;rcases S.par y (mem_of_getElem? hp) with k|k
  .exact .inl ⟨k,ylm m hp C k⟩
  .obtain ⟨c,e⟩:=yok k;refine .inr ⟨.inl k,c,e,?_⟩;have q:=x.cell y c e;rw [yln m hp C (by show scope.names.lookup y≠_;rw [k];decide)] at q;exact q
 .exact g.hok.fresh (le_of_lt (x.above y c (PySem.mem_of_lookup h)))
 .unfold start;show _=N.length;simp_all
theorem yDx {CX:CXT}{P:Program}{w:World}{K:PySem.W.Frag}{D:Str->Option Value}{base:Heap}{k:Nat}{f:Addr}{name c:Str}{g:Arguments}{body:List Stmt}{scope:Scope}{U kV B T d W oc:Value}{R od:Option Addr}
  {G:Array _}{N ps:List Str}{sp:Sp}(lk:K.lookup f=some ⟨oc,od,.func (fnOf name c g body scope U kV B T R d W),G⟩) (M:codeIn K d c=true) (S:yes N ps scope)
  (z:∀ vs H Q E,sp vs H Q E->vs.length=ps.length)
  (j:∀ A outer s H vs Q E,Room k (A.deeper (envOfC c scope s.heap.objs.size f d))->sp vs H Q E ->
   ∃ t,PSs (ytZ CX P w K D base N c scope f d A outer s H E) body t/\t { nx:=fun _ i=>Q .non i,rt:=Q } (start N vs) H) :
  FnOk P w K D base CX (k+1) f (fnOf name c g body scope U kV B T R d W) ps sp:=by
 refine ⟨z,fun A outer s H args us vs Q E O p Y r C=>?_⟩;have hl:=z _ _ _ _ C;have X:=p.mod.kin.keeps fun b o e=>(p.bs b o e).1
 have L:=p.mod.nolimit.keeps fun b o e=>(p.bs b o e).1
 have l:∀ y∈ps.zip us,scope.names.lookup y.1=some _\/(scope.names.lookup y.1=some _/\((cellsFrom (s.heap.objs.size+1) scope.names []).lookup y.1).isSome=true):=fun ⟨n,v⟩ hy=>by
  rcases S.par n (of_mem_zip hy).1 with q|q
  .exact .inl q
  .exact .inr ⟨q,PySem.W.cellsFrom_some _ _ _ (.inl q)⟩
 refine codeAny_call_function O.depth (X _ _ lk) rfl S.co S.gen rfl (PySem.W.codeRec_of X M) (Y _ _ _ _ ?_);refine wpAny_newFunctionEnv_cells S.kind l fun env he s1 x=>?_
 subst he;refine ⟨L.keeps x.toInCall.keep,codeAny_func ?_⟩;obtain ⟨t,ht,Z⟩:=j A outer s H vs Q E (O.deeper _) C;have I:Inv (ytZ CX P w K D base N c scope f d A outer s H E) [] _ H s1:=yqI S O.hd p hl r x;refine wpAny_mono (ht [] s1 _ H _ I Z) (fun fl s' hs=>?_) fun e s' hs=>hs
 have m:∀ {h:St}{i:Hp}{v:V}{u:Value},Inv (ytZ CX P w K D base N c scope f d A outer s H E) [] h i s'->RelV v u->Q v i->CE outer P w H s Q u s' :=
  fun {h i v u} J F q=>⟨v,i,J.os,J.bare,J.base,J.hok,F,q⟩
 cases fl with
 | ret u =>
  obtain ⟨v,h,i,J,F,q⟩:=hs;exact m J F q
 | next =>
  obtain ⟨h,i,J,q⟩:=hs;exact m (v:=V.non) J rfl q
 | brk =>
  obtain ⟨_,_,_,q⟩:=hs;exact False.elim q
 | cont =>
  obtain ⟨_,_,_,q⟩:=hs;exact False.elim q
section
variable {X:Cx}{x:Str}{p pos:Pos}{e:Expr}{es:List Expr}{t:TA}{id T:String}{r:List V->Hp->VK->Prop}
noncomputable def tCB (r:List V->Hp->VK->Prop) (t:TA):TE:=fun Z H Q=>t Z H fun vs H1=>r vs H1 Q
theorem yjO (q:yfA X (.builtin id) r) (j:Gl X x) (g:X.mg x=none) (f:bootBuiltins x=some (.builtin id)) (l:PA X (e::es) t) (n:x≠"__name__":=by decide) (d:(x == "__debug__")=false:=by decide)
  (k:starEach (e::es) X.env=(false,eval e X.env)::starEach es X.env:=by rfl) (c:(backTo pos (starEach es X.env)).any (·.1)=false:=by rfl):PE X (.Call (.Name x p) (e::es) [] pos) (tCB r t):=by
 intro b s Z H Q I h;exact wpAny_Call_Name_kw (ylf I j g f (PyProof.Rows.callWith_builtin1 (thn (l pos b s Z H _ I h) fun us s1 ⟨vs,o,u,i,m⟩=>q b s1 Z o vs us Q u i m) k c) n d)
theorem ylo (q:yfA X (.type T) r) (j:Gl X x) (g:X.mg x=none) (f:bootBuiltins x=some (.type T)) (l:PA X (e::es) t) (n:x≠"__name__":=by decide) (d:(x == "__debug__")=false:=by decide)
  (k:starEach (e::es) X.env=(false,eval e X.env)::starEach es X.env:=by rfl) (c:(backTo pos (starEach es X.env)).any (·.1)=false:=by rfl):PE X (.Call (.Name x p) (e::es) [] pos) (tCB r t):=by
 intro b s Z H Q I h;exact wpAny_Call_Name_kw (ylf I j g f (PyProof.Rows.callWith_type1 (thn (l pos b s Z H _ I h) fun us s1 ⟨vs,o,u,i,m⟩=>q b s1 Z o vs us Q u i m) k c) n d)
end
end L2
namespace HT
open PySem PyProof.Rows
section
variable {prog:Program}{w:World}{A:Around}{E:Value->Shared->Prop}{s:Shared}
noncomputable def sIx (n d:Nat):Option Int->Nat
 | none=>d
 | some v=>if v<0 then (v+(n:Int)).toNat else min v.toNat n
theorem sIx_none (n d:Nat):sIx n d none=d:=rfl
theorem sIx_nat (n d k:Nat):sIx n d (some (k:Int))=min k n:=by show (if (k:Int)<0 then ((k:Int)+(n:Int)).toNat else min (k:Int).toNat n)=min k n;rw [if_neg (by omega),Int.toNat_natCast]
end
end HT
namespace L2
open PySem PySem.Spec PyProof.Rows
noncomputable abbrev TO:=St->Hp->(Option Int->Hp->Prop)->Prop
def PO (X:Cx) (e:Option Expr) (t:TO):Prop :=
 ∀ (pins:List (Addr×Obj)) (s:Shared) (Z:St) (H:Hp) (Q:Option Int->Hp->Prop),Inv X pins Z H s->t Z H Q ->
  wpAny (model X.prog X.w) X.A (evalPart e X.env) (fun u s'=>∃ o H',Inv X pins Z H' s'/\IsPart u o/\Q o H') X.xe s
def yqJ:TO:=fun _ H Q=>Q none H
def yAG (t:TE):TO:=fun Z H Q=>t Z H fun x H1=>∃ i,x=.int i/\Q (some i) H1
theorem intsAre_of {ns:List Int}:∀ {us:List Value},Vals (ns.map V.int) us->IntsAre us ns:=by
 induction ns with
 | nil=>intro us r;cases r;exact .nil
 | cons n ns ih =>
  intro us r;cases r with
  | cons r1 r2 =>
   obtain ⟨t,e⟩:=r1;subst e;exact .cons n t (ih r2)
section
variable {X:Cx}{e:Expr}{te:TE}{lo hi:Option Expr}{tl th:TO}{pos p2:Pos}
theorem yxI:PO X none yqJ:=by intro a s Z H Q I h;exact wpAny_pure ⟨none,H,I,.none,h⟩
theorem yxJ (h:PE X e te):PO X (some e) (yAG te):=by
 intro b s Z H Q I f;refine thn (h b s Z H _ I f) fun u s1 ⟨x,d,g,c,j⟩=>?_
 obtain ⟨i,rfl,q⟩:=j;obtain ⟨t,rfl⟩:=c;exact ⟨_,d,g,.int i t,q⟩
def SlR (X:Cx) (r:V->Option Int->Option Int->Hp->VK->Prop):Prop :=
 ∀ (pins:List (Addr×Obj)) (s:Shared) (Z:St) (H:Hp) (x:V) (v vl vu:Value) (lo hi:Option Int) (sl:Addr) (Q:VK),Inv X pins Z H s->RelV x v->s.heap.IsSliceOf sl vl vu .none->IsPart vl lo->IsPart vu hi->r x lo hi H Q ->
  ∃ T id,typeLookup (.type T) "__getitem__" = pure (some (.builtin id))/\s.TypeIs v T/\wpAny (model X.prog X.w) X.A (getItem v (.ref sl)) (EP X pins Z Q) X.xe s
noncomputable def tSl (r:V->Option Int->Option Int->Hp->VK->Prop) (te:TE) (tl th:TO):TE:=fun Z H Q=>te Z H fun x H1=>tl Z H1 fun l H2=>th Z H2 fun u H3=>r x l u H3 Q
theorem yua {r:V->Option Int->Option Int->Hp->VK->Prop}(j:SlR X r) (z:PE X e te) (hl:PO X lo tl) (p:PO X hi th):PE X (.Subscript e (.Slice lo hi none p2) pos) (tSl r te tl th):=by
 intro c s Z H Q I h;refine Subscript_ (thn (z c s Z H _ I h) fun v s1 ⟨x,B,n,t,A⟩=>?_);refine wpAny_Slice (thn (hl c s1 Z B _ n A) fun f s2 ⟨l,D,o,pl,w⟩=>thn (p c s2 Z D _ o w) fun g s3 ⟨u,d,i,F,k⟩=>?_);refine wpAny_pure ?_;have E:Inv X c Z d { s3 with heap:=s3.heap.push { cls:=.type "slice",data:=.fields #[f,g,.none] } }:=i.kept fun b G q=>Heap.get?_push_of_some _ q
 obtain ⟨T,id,C,m,y⟩:=j c _ Z d x v f g l u s3.heap.objs.size Q E t (Heap.IsSliceOf.new ..) pl F k;exact tail_any m C y (rfl)
noncomputable def yAH (xs:List V) (lo hi:Option Int):List V:=(xs.drop (HT.sIx xs.length 0 lo)).take (HT.sIx xs.length xs.length hi-HT.sIx xs.length 0 lo)
theorem ymS xs lo hi:(yAH xs lo hi).length<=xs.length:=by unfold yAH;rw [length_take,length_drop];omega
end
noncomputable def ixN (n:Nat) (i:Int):Option Nat:=if 0<=i then (if i<n then some i.toNat else none) else if -(n:Int)<=i then some (i+n).toNat else none
noncomputable def atI {Z:Type}(xs:List Z) (i:Int):Option Z:=(ixN xs.length i).bind fun j=>xs[j]?
theorem yqK {n:Nat}{i:Int}{j:Nat}(h:ixN n i=some j):seqIndex? i n=some j/\j<n/\-(n:Int)<=i/\i<n:=by
 unfold ixN at h
 by_cases h0:0<=i
 .rw [if_pos h0] at h
  by_cases h1:i<n
  .rw [if_pos h1] at h;have e:i.toNat=j:=Option.some.inj h;exact ⟨by rw [seqIndex_of h0 h1,e],by omega,by omega,h1⟩
  .rw [if_neg h1] at h;cases h
 .rw [if_neg h0] at h
  by_cases h1:-(n:Int)<=i
  .rw [if_pos h1] at h;have e:(i+n).toNat=j:=Option.some.inj h;exact ⟨by rw [seqIndex_neg (by omega) h1,e],by omega,h1,by omega⟩
  .rw [if_neg h1] at h;cases h
theorem ymT {Z:Type}{xs:List Z}{i:Int}{v:Z}(h:atI xs i=some v):∃ j,seqIndex? i xs.length=some j/\xs[j]?=some v/\j<xs.length/\-(xs.length:Int)<=i/\i<xs.length:=by
 unfold atI at h;cases e:ixN xs.length i with
 | none=>rw [e] at h;cases h
 | some j =>
  rw [e] at h;obtain ⟨h1,h2,h3,h4⟩:=yqK e;exact ⟨j,h1,h,h2,h3,h4⟩
theorem yee {Z:Type}{xs:List Z}{j:Nat}{v:Z}(h:xs[j]?=some v):atI xs j=some v:=by
 have b:=(List.getElem?_eq_some_iff.mp h).1;have e:ixN xs.length j=some j:=by unfold ixN;simp_all
 unfold atI;rw [e];exact h
noncomputable def yqL (b:Expr):Prop:=∀ o i,subscripted b false o i=operate [o,i] (getItem o i)
def IxR (X:Cx) (r:R2):Prop :=
 ∀ (value slice:Expr) (pins:List (Addr×Obj)) (s:Shared) (Z:St) (H:Hp) (x y:V) (v u:Value) (Q:VK),Inv X pins Z H s->RelV x v->RelV y u->r x y H Q ->
  subscripted slice false v u=operate [v,u] (getItem v u)->wpAny (model X.prog X.w) X.A (subscriptTail value slice v u) (EP X pins Z Q) X.xe s
def MtR (X:Cx) (id:String) (r:V->List V->Hp->VK->Prop):Prop :=
 ∀ (pins:List (Addr×Obj)) (s:Shared) (Z:St) (H:Hp) (x:V) (xs:List V) (v:Value) (us:List Value) (Q:VK),Inv X pins Z H s->RelV x v->Vals xs us->r x xs H Q ->
  wpAny (model X.prog X.w) X.A (call (.builtin id) (v::us)) (EP X pins Z Q) X.xe s
section
variable {X:Cx}{a b:Expr}{ta tb:TE}{pos:Pos}
theorem IxR.or {r e:R2}(h:IxR X r) (h':IxR X e):IxR X fun x y H Q=>r x y H Q\/e x y H Q:=by
 intro value slice c s Z H x y v u Q I d f q hs;rcases q with q|q
 .exact h value slice c s Z H x y v u Q I d f q hs
 .exact h' value slice c s Z H x y v u Q I d f q hs
theorem yDy {r:R2}(i:IxR X r) (j:PE X a ta) (f:PE X b tb) (hs:yqL b):PE X (.Subscript a b pos) (tOp r ta tb):=by intro d s Z H Q I h;exact Subscript_ (yDs j f I h fun v u s2 x y g e l k q=>i a b d s2 Z g x y v u Q e l k q (hs _ _))
noncomputable def yDz (K:PySem.W.Frag):R2:=fun x y H Q=>∃ p xs i v,x=.ref p/\y=.int i/\SqL K H p xs/\atI xs i=some v/\Q v H
noncomputable def yDA (K:PySem.W.Frag):R2:=fun x y H Q=>∃ p xs i v,x=.ref p/\y=.int i/\SqT K H p xs/\atI xs i=some v/\Q v H
noncomputable def yDB:R2:=fun x y H Q=>∃ z i c,x=.str z/\y=.int i/\z.length<=sizeLine/\atI z.cps.toList i=some c/\Q (.str ⟨#[c]⟩) H
theorem ix_list:IxR X (yDz X.K):=by
 intro value slice e s Z H x y v u Q I B C h hs;obtain ⟨p,xs,i,z,rfl,rfl,m,A,q⟩:=h;cases B;obtain ⟨t,rfl⟩:=C;obtain ⟨its,r,pl,hz⟩:=I.list m;obtain ⟨j,h1,h2,D,o,n⟩:=ymT A;obtain ⟨w,l,g⟩:=r.get h2;have hl:=r.length;have E:=yjl;have d:EP X e Z Q w s:=⟨z,H,I,g,q⟩
 by_cases k:0<=i
 .have f:=by rw [seqIndex_of k n] at h1;exact Option.some.inj h1
  exact item_listR pl.isList k (by omega) (by rw [f];simpa using l) d hs
 .have f:(i+its.toArray.size).toNat=j:=by rw [seqIndex_neg (by omega) o] at h1;rw [size_toArray,<- hl];exact Option.some.inj h1
  exact subscriptTail_builtinR pl.isList.typeIs slot_list_getitem.lookup
   (wpAny_getItem_list_neg pl.isList (by omega) (by simp_all) (by omega) (by rw [f];simpa using l) ⟨rfl,d⟩) hs
theorem ix_tup:IxR X (yDA X.K):=by
 intro value slice pins s Z H x y v u Q I rx ry h hs;obtain ⟨p,xs,i,z,rfl,rfl,hq,he,q⟩:=h;cases rx;obtain ⟨t,rfl⟩:=ry;obtain ⟨its,r,pl,hz⟩:=I.tuple hq;obtain ⟨j,h1,h2,h3,h4,h5⟩:=ymT he;obtain ⟨w,ew,rw'⟩:=r.get h2;have hl:=r.length;have hn:=yjl;have fin:EP X pins Z Q w s:=⟨z,H,I,rw',q⟩
 exact subscriptTail_builtinR (x:=w) pl.typeIs slot_tuple_getitem.lookup
  (getItem_tuple (j:=j) (Q:=fun r s'=>r=w/\EP X pins Z Q r s') pl (by omega) (by omega) (by rw [size_toArray,<- hl];exact h1) (by simpa using ew) ⟨rfl,fin⟩) hs
theorem ylp:IxR X yDB:=by intro value slice e s Z H x y v u Q I l m h hs;obtain ⟨z,i,c,rfl,rfl,hz,g,q⟩:=h;obtain ⟨t,rfl⟩:=l;obtain ⟨t',rfl⟩:=m;obtain ⟨j,h1,h2,o,k,f⟩:=ymT g;have hl:z.cps.toList.length=z.length:=rfl;rw [hl] at h1 k f;have n:=yjl;exact tail_any (typeIs_str s z t) slot_str_getitem.lookup (getItem_str (by grind) (by simp_all) ⟨.str _,H,I.tok _,⟨_,rfl⟩,q⟩) hs
noncomputable def rIx (K:PySem.W.Frag):R2:=fun x y H Q=>yDz K x y H Q\/yDA K x y H Q\/yDB x y H Q
theorem yol:IxR X (rIx X.K):=ix_list.or (ix_tup.or ylp)
theorem ypz (its:List Value) n j u:Obj.mapSeq (·.setIfInBounds j u) { cls:=.type "list",data:=.seq its.toArray n }={ cls:=.type "list",data:=.seq (its.set j u).toArray n }:=by simp [Obj.mapSeq]
theorem Inv.lst {pins:List (Addr×Obj)}{Z:St}{H:Hp}{s:Shared}{p:Addr}{xs:List V}(I:Inv X pins Z H s) (h:H p=some (.lst xs)) :
  ∃ (its:List Value) (n:Nat),Vals xs its/\s.heap.get? p=some { cls:=.type "list",data:=.seq its.toArray n }/\xs.length<=sizeLine:=by
 obtain ⟨z,its,n,r,e⟩:=I.hok p _ h;exact ⟨its,n,r,e,z⟩
theorem Inv.lstUpd {d:List _}{Z:St}{H:Hp}{s:Shared}{p:Addr}{xs ys:List V}{its its':List Value}{n g:Nat}{f:Obj->Obj}(I:Inv X d Z H s) (h:H p=some (.lst xs))
  (j:s.heap.get? p=some { cls:=.type "list",data:=.seq its.toArray n }) (i:f { cls:=.type "list",data:=.seq its.toArray n }={ cls:=.type "list",data:=.seq its'.toArray g }) (r:Vals ys its') (hz:ys.length<=sizeLine) t :
  Inv X d Z (upd H p (.lst ys)) { s with heap:=s.heap.update p f,toks:=t }:=by
 have e:(s.heap.update p f).get? p=some { cls:=.type "list",data:=.seq its'.toArray g }:=by rw [Heap.get?_update_self f j (by rw [i]<;>rfl),i]
 refine I.write (by rw [h];trivial) (.inl rfl) (fun b u k q=>(Heap.get?_update_other _ _ (Ne.symm k)).trans q) ⟨_,e⟩ ?_;exact ⟨hz,its',g,r,e⟩
def yAI:V->V->V->Hp->(Hp->Prop)->Prop:=fun o i v H Q=>∃ p xs k j,o=.ref p/\i=.int k/\H p=some (.lst xs)/\ixN xs.length k=some j/\Q (upd H p (.lst (xs.set j v)))
theorem set_list:yFi X yAI:=by
 intro g s Z H o i v C B u Q I m x A h;obtain ⟨p,xs,k,j,rfl,rfl,hp,z,q⟩:=h;cases m;obtain ⟨t,rfl⟩:=x;obtain ⟨its,n,r,e,hz⟩:=I.lst hp;obtain ⟨h1,h2,y,w⟩:=yqK z;have hl:=r.length;have D:=yjl;have l :=
  I.lstUpd hp e (ypz its n j u) (r.set A j) (by rw [length_set];exact hz) s.toks
 by_cases f:0<=k
 .have d:=by rw [seqIndex_of f w] at h1;exact Option.some.inj h1
  exact PySem.W.ki_setAt e f (by omega) (by simp_all) (by rw [d];exact ⟨_,l,q⟩)
 .have d:(k+its.toArray.size).toNat=j:=by rw [seqIndex_neg (by omega) y] at h1;rw [size_toArray,<- hl];exact Option.some.inj h1
  exact PySem.W.ki_setBack e (by omega) (by simp_all) (by omega) (by rw [d];exact ⟨_,l,q⟩)
theorem ylq (lo hi:Option Int) (n:Nat):(sliceBounds lo hi none n).1=((HT.sIx n 0 lo:Nat):Int)/\(sliceBounds lo hi none n).2.1=((HT.sIx n n hi:Nat):Int)/\(sliceBounds lo hi none n).2.2=1:=by
 refine ⟨?_,?_,rfl⟩
 .cases lo with
  | none=>simp [sliceBounds,HT.sIx]
  | some i =>
   simp only [sliceBounds,HT.sIx,Option.getD_none,show (1:Int)>0 by decide,if_true]
   by_cases h:i<0
   .simp only [h,if_true]<;>omega
   .simp only [h,if_false]<;>omega
 .cases hi with
  | none=>simp [sliceBounds,HT.sIx]
  | some i =>
   simp only [sliceBounds,HT.sIx,Option.getD_none,show (1:Int)>0 by decide,if_true]
   by_cases h:i<0
   .simp only [h,if_true]<;>omega
   .simp only [h,if_false]<;>omega
theorem yjP (its:List Value) (lo hi:Option Int):slicePick its.toArray lo hi none=((its.drop (HT.sIx its.length 0 lo)).take (HT.sIx its.length its.length hi-HT.sIx its.length 0 lo)).toArray:=by obtain ⟨h1,h2,h3⟩:=ylq lo hi its.toArray.size;unfold slicePick;rw [h1,h2,h3];simp only [sliceRange_one,pick_run,size_toArray]<;>rfl
def yFr (K:PySem.W.Frag):V->Option Int->Option Int->Hp->VK->Prop:=fun x lo hi H Q=>∃ a xs,x=.ref a/\SqL K H a xs/\∀ p,H p=none->Q (.ref p) (upd H p (.lst (yAH xs lo hi)))
theorem yqM:SlR X (yFr X.K):=by intro pins s Z H x v vl vu lo hi sl Q I rx hs pl pu h;obtain ⟨a,xs,rfl,hx,q⟩:=h;cases rx;obtain ⟨its,r,ht,hz⟩:=I.list hx;have hlen:=r.length;refine ⟨"list",_,slot_list_getitem.lookup,ht.isList.typeIs,?_⟩;refine wpAny_getItem_list_slice ht.isList hs pl pu .none (by simp) ?_ (by rw [size_toArray]<;>omega);rw [yjP,<- hlen];refine ⟨.ref s.heap.objs.size,_,I.laid (t':=s.toks) (o:=.lst (yAH xs lo hi)) (fun b ob q=>Heap.get?_push_of_some _ q) (Nat.le_refl _) ?_,rfl,q _ (I.hok.fresh (Nat.le_refl _))⟩;exact ⟨Nat.le_trans (ymS xs lo hi) hz,_,0,(r.drop (HT.sIx xs.length 0 lo)).take (HT.sIx xs.length xs.length hi-HT.sIx xs.length 0 lo),Heap.get?_push_size _ rfl⟩
noncomputable def yfV:V->Bool
 | .non=>true
 | .bl _=>true
 | .int _=>true
 | .str _=>true
 | _=>false
noncomputable def eqV:V->V->Bool
 | .non,.non=>true
 | .bl a,.bl b=>a == b
 | .bl a,.int b=>(if a then 1 else 0) == b
 | .int a,.bl b=>a == (if b then 1 else 0)
 | .int a,.int b=>a == b
 | .str a,.str b=>a == b
 | _,_=>false
theorem eqAt_V {A:Around}{s:Shared}{y x:V}{u v:Value}(f:RelV y u) (d:RelV x v) (g:yfV y=true) (e:yfV x=true):SeqAt.EqAt A s u v (eqV y x):=by
 cases y with
 | non =>
  cases f;cases x with
  | non=>cases d;exact SeqAt.EqAt.same _
  | bl b=>cases d;exact SeqAt.EqAt.none_bool b
  | int b=>obtain ⟨t,rfl⟩:=d;exact SeqAt.EqAt.none_int b t
  | str b=>obtain ⟨t,rfl⟩:=d;exact SeqAt.EqAt.none_str b t
  | _=>exact absurd (show false=true from e) Bool.false_ne_true
 | bl a =>
  cases f;cases x with
  | non=>cases d;exact SeqAt.EqAt.bool_none a
  | bl b=>cases d;exact SeqAt.EqAt.bool_bool a b
  | int b=>obtain ⟨t,rfl⟩:=d;exact SeqAt.EqAt.bool_int a b t
  | str b=>obtain ⟨t,rfl⟩:=d;exact SeqAt.EqAt.bool_str a b t
  | _=>exact absurd (show false=true from e) Bool.false_ne_true
 | int a =>
  obtain ⟨t',rfl⟩:=f;cases x with
  | non=>cases d;exact SeqAt.EqAt.int_none a t'
  | bl b=>cases d;exact SeqAt.EqAt.int_bool a t' b
  | int b=>obtain ⟨t,rfl⟩:=d;exact SeqAt.EqAt.int_int a t' b t
  | str b=>obtain ⟨t,rfl⟩:=d;exact SeqAt.EqAt.int_str a t' b t
  | _=>exact absurd (show false=true from e) Bool.false_ne_true
 | str a =>
  obtain ⟨t',rfl⟩:=f;cases x with
  | non=>cases d;exact SeqAt.EqAt.str_none a t'
  | bl b=>cases d;exact SeqAt.EqAt.str_bool a t' b
  | int b=>obtain ⟨t,rfl⟩:=d;exact SeqAt.EqAt.str_int a t' b t
  | str b=>obtain ⟨t,rfl⟩:=d;exact SeqAt.EqAt.str_str a t' b t
  | _=>exact absurd (show false=true from e) Bool.false_ne_true
 | _=>exact absurd (show false=true from g) Bool.false_ne_true
noncomputable def eqU (x:V) (u:Value):Bool:=match u with
 | .none=>eqV .non x
 | .bool b=>eqV (.bl b) x
 | .int i _=>eqV (.int i) x
 | .str z _=>eqV (.str z) x
 | _=>false
theorem yww {x y:V}{u:Value}(r:RelV y u) (f:yfV y=true):eqU x u=eqV y x:=by
 cases y with
 | non=>cases r;rfl
 | bl b=>cases r;rfl
 | int i=>obtain ⟨t,rfl⟩:=r;rfl
 | str z=>obtain ⟨t,rfl⟩:=r;rfl
 | _=>exact absurd (show false=true from f) Bool.false_ne_true
theorem ymU {x:V}:∀ {xs:List V}{us:List Value},Vals xs us->xs.all yfV=true->us.any (eqU x)=xs.any fun y=>eqV y x
 | _,_,.nil,_=>rfl
 | y::xs,u::us,.cons r t,f=>by rw [List.all_cons,and_eq_true] at f;rw [any_cons,any_cons,yww r f.1,ymU t f.2]
theorem yjQ {A:Around}{s:Shared}{x:V}{v:Value}(e:RelV x v) (g:yfV x=true):∀ {xs:List V}{us:List Value},Vals xs us->xs.all yfV=true->∀ u∈us,SeqAt.EqAt A s u v (eqU x u)
 | _,_,.nil,_=>fun u d=>by cases d
 | y::xs,u::us,.cons r t,f=>fun h d=>by
  rw [List.all_cons,and_eq_true] at f;rcases mem_cons.mp d with rfl|d
  .rw [yww r f.1];exact eqAt_V r e f.1 g
  .exact yjQ e g t f.2 h d
def inV (x:V) (xs:List V):Bool:=xs.any fun y=>eqV y x
noncomputable def rIn (K:PySem.W.Frag) (neg:Bool):R2:=fun x y H Q=>∃ p xs,y=.ref p/\(SqL K H p xs\/SqT K H p xs)/\yfV x=true/\xs.all yfV=true/\Q (.bl (if neg then !inV x xs else inV x xs)) H
theorem ylr:OpR X (compareOp .In) (rIn X.K false):=by
 intro f s Z H x y v u Q I g j h;obtain ⟨p,xs,rfl,d,i,fs,q⟩:=h;cases j;rcases d with d|d
 .obtain ⟨its,r,pl,hz⟩:=I.list d;refine SeqAt.in_listAt _ pl.isList (fun w e=>yjQ g i r fs w (by simpa using e)) ⟨.bl _,H,I,rfl,?_⟩;rw [show its.toArray.any _=its.any (eqU x) by simp,ymU r fs];exact q
 .obtain ⟨its,r,pl,hz⟩:=I.tuple d;refine SeqAt.in_tupleAt _ pl (fun w e=>yjQ g i r fs w (by simpa using e)) ⟨.bl _,H,I,rfl,?_⟩;rw [show its.toArray.any _=its.any (eqU x) by simp,ymU r fs];exact q
theorem yD:yfA X (.builtin "len") fun xs H Q=>∃ p ys,xs=[.ref p]/\(SqL X.K H p ys\/SqT X.K H p ys)/\Q (.int ys.length) H:=by
 intro g s Z H xs us Q I r h;obtain ⟨p,ys,rfl,e,q⟩:=h;obtain ⟨u,rfl,i⟩:=vals1 r;cases i;have j:=yjl;rcases e with e|e
 .obtain ⟨its,f,pl,hz⟩:=I.list e;have d:=f.length;exact Calls.call_len_list pl.isList (by grind) ⟨.int ys.length,H,I.tok _,⟨s.toks+1,by grind⟩,q⟩
 .obtain ⟨its,f,pl,hz⟩:=I.tuple e;have d:=f.length;exact len_tuple pl (by grind) ⟨.int ys.length,H,I.tok _,⟨s.toks+1,by grind⟩,q⟩
theorem ydQ:yfA X (.builtin "len") fun xs H Q=>∃ z,xs=[.str z]/\z.length<=sizeLine/\Q (.int z.length) H:=by intro d s Z H xs us Q I r h;obtain ⟨z,rfl,hz,q⟩:=h;obtain ⟨u,rfl,t,rfl⟩:=vals1 r;have e:=yjl;exact len_str (by omega) ⟨.int z.length,H,I.tok _,⟨_,rfl⟩,q⟩
theorem yE:yfA X (.type "list") fun xs H Q=>∃ p ys,xs=[.ref p]/\(SqL X.K H p ys\/SqT X.K H p ys)/\∀ l,H l=none->Q (.ref l) (upd H l (.lst ys)):=by
 intro j s Z H xs us Q I r h;obtain ⟨p,ys,rfl,f,q⟩:=h;obtain ⟨u,rfl,x⟩:=vals1 r;cases x;have i:∀ its,Vals ys its->ys.length<=sizeLine->∀ (h':Heap) c',(∀ b w,s.heap.get? b=some w->h'.get? b=some w) ->
   h'.get? s.heap.objs.size=some _->EP X j Z Q _ _:=fun its d hz h' c' k e =>
  ⟨.ref s.heap.objs.size,_,I.laid (t':=s.toks) k (Nat.le_refl _) (show ObjOk X.prog X.w _ h' _ (.lst ys) from ⟨hz,its,c',d,e⟩),rfl,q _ (I.hok.fresh (Nat.le_refl _))⟩
 rcases f with f|f
 .obtain ⟨its,d,pl,hz⟩:=I.list f;have g:=d.length;obtain ⟨o,t,v,n,m⟩:=pl.isList;exact call_list_seq p (.inl rfl) t v m fun h' c' k e=>i its d hz h' c' k e
 .obtain ⟨its,d,pl,hz⟩:=I.tuple f;have g:=d.length;obtain ⟨o,t,v,n,m⟩:=pl;exact call_list_seq p (.inr rfl) t v m fun h' c' k e=>i its d hz h' c' k e
def tyV (K:PySem.W.Frag) (T:String) (x:V) (H:Hp):Prop:=match x with
 | .str _=>T = "str"
 | .int _=>T = "int"
 | .ref p=>(T = "list"/\∃ xs,SqL K H p xs)\/(T = "tuple"/\∃ o,K.lookup p=some o/\o.cls=.type "tuple"/\o.dict=none) \/
   (T = "dict"/\((∃ kvs,H p=some (.dK kvs))\/∃ kvs,H p=some (.dT kvs)))\/(T = "set"/\∃ S n,H p=some (.set S n))
 | _=>False
theorem ywx {g:List _}{Z:St}{H:Hp}{s:Shared}{T:String}{x:V}{v:Value}(I:Inv X g Z H s) (r:RelV x v) (h:tyV X.K T x H) :
  s.TypeIs v T/\∀ a,v=.ref a->∃ l,s.heap.get? a=some l/\l.dict=none:=by
 cases x with
 | str z =>
  obtain ⟨t,rfl⟩:=r;cases show T = "str" from h
  exact ⟨typeIs_str s z t,fun _ e=>nomatch e⟩
 | int i =>
  obtain ⟨t,rfl⟩:=r;cases show T = "int" from h
  exact ⟨typeIs_int s i t,fun _ e=>nomatch e⟩
 | ref p =>
  cases r;rcases h with ⟨rfl,xs,q⟩|⟨rfl,o,d,m,k⟩|⟨rfl,d⟩|⟨rfl,S,n,d⟩
  .obtain ⟨its,_,pl,_⟩:=I.list q;refine ⟨pl.isList.typeIs,fun a e=>?_⟩;cases e;obtain ⟨o,n,e,c,k,_⟩:=pl;exact ⟨o,e,k⟩
  .refine ⟨⟨o,I.kIn p o d,m⟩,fun a e=>?_⟩;cases e;exact ⟨o,I.kIn _ o d,k⟩
  .have z:∃ o,s.heap.get? p=some o/\o.ExactDict:=by
    rcases d with ⟨kvs,d⟩|⟨kvs,d⟩
    .obtain ⟨_,_,_,_,o,_,_,e,f,_⟩:=I.hok p _ d;exact ⟨o,e,f⟩
    .obtain ⟨_,_,_,_,o,_,_,e,f,_⟩:=I.hok p _ d;exact ⟨o,e,f⟩
   obtain ⟨o,e,f⟩:=z;refine ⟨⟨o,e,f.1⟩,fun a j=>?_⟩;cases j;exact ⟨o,e,f.2.1⟩
  .obtain ⟨o,_,_,_,e,f,_⟩:=I.hok p _ d;refine ⟨⟨o,e,f.1⟩,fun a j=>?_⟩;cases j;exact ⟨o,e,f.2.1⟩
 | _=>exact False.elim h
noncomputable def yDC (K:PySem.W.Frag) (T:String) (r:V->List V->Hp->VK->Prop) (to:TE):TE:=fun Z H Q=>to Z H fun x H1=>tyV K T x H1/\r x [] H1 Q
noncomputable def tBM (K:PySem.W.Frag) (T:String) (r:V->List V->Hp->VK->Prop) (to:TE) (t:TA):TE:=fun Z H Q=>to Z H fun x H1=>tyV K T x H1/\t Z H1 fun xs H2=>r x xs H2 Q
variable {o e:Expr}{es:List Expr}{to:TE}{t:TA}{name:Str}{apos cpos:Pos}{T id:String}{r:V->List V->Hp->VK->Prop}
theorem ywy (p:PlainAttrs T) (i:Slot T name id) (j:typeOf (.builtin id)=pure (.type "method_descriptor")) (m:MtR X id r) (w:PE X o to)
  (g:attributeBase o name X.env (eval o X.env)=eval o X.env:=by rfl) (f:(apos.endLine == cpos.line)=true:=by rfl):PE X (.Call (.Attribute o name apos) [] [] cpos) (yDC X.K T r to):=by
 intro d s Z H Q I h;refine wpAny_Call_method0_late g f (thn (w d s Z H _ I h) fun v s1 ⟨x,u,l,k,n,q⟩=>?_);obtain ⟨h1,h2⟩:=ywx l k n;exact ⟨T,id,p,i,j,h1,h2,Calls.callWith_builtin rfl (PySem.evalArgs_none (m d s1 Z u x [] v [] Q l k .nil q))⟩
theorem yxK (y:PlainAttrs T) (j:Slot T name id) (l:typeOf (.builtin id)=pure (.type "method_descriptor")) (A:MtR X id r) (D:PE X o to) (z:PA X (e::es) t)
  (i:attributeBase o name X.env (eval o X.env)=eval o X.env:=by rfl)
  (k:((backTo cpos (starEach (e::es) X.env)).all (fun x=>!x.1) && (backToKw cpos (keywordEach [] X.env)).all (fun x=>x.1.isSome)
   && decide ((e::es).length+([]:List Keyword).length+(if ([]:List Keyword).isEmpty then 0 else 1)<30))=true:=by rfl)
  (g:(apos.endLine == cpos.line)=true:=by rfl) (hs:starEach (e::es) X.env=(false,eval e X.env)::starEach es X.env:=by rfl) (f:(backTo cpos (starEach es X.env)).any (·.1)=false:=by rfl) :
  PE X (.Call (.Attribute o name apos) (e::es) [] cpos) (tBM X.K T r to t):=by
 intro d s Z H Q I h;refine wpAny_Call_method_late i k g rfl (thn (D d s Z H _ I h) fun v s1 ⟨x,C,m,p,u,B⟩=>?_);obtain ⟨h1,h2⟩:=ywx m p u;refine ⟨T,id,y,j,l,h1,h2,?_⟩;have n:=z cpos d s1 Z C _ m B;rw [hs] at n ⊢;refine Calls.callWith_builtin (by show (false || (backTo cpos _).any _)=false;rw [f]<;>rfl) (Calls.evalArgs_plain ?_);exact thn n fun us s2 ⟨vs,E,w,r2,q⟩=>A d s2 Z E x vs v us Q w p r2 q
end
def MtM (X:Cx) (id:String) (r:V->List V->Hp->VK->Prop):Prop :=
 ∀ (pins:List (Addr×Obj)) (s:Shared) (Z:St) (H:Hp) (x:V) (xs:List V) (v:Value) (us:List Value) (Q:VK),Inv X pins Z H s->RelV x v->Vals xs us->r x xs H Q ->
  wpAny (model X.prog X.w) X.A (call (.builtin id) (v::us)) (EP X pins Z Q) X.xe s
theorem Vals.one:∀ {x:V}{us:List Value},Vals [x] us->∃ u,us=[u]/\RelV x u
 | _,_,.cons r .nil=>⟨_,rfl,r⟩
theorem Vals.zero:∀ {us:List Value},Vals [] us->us=[]
 | _,.nil=>rfl
theorem Vals.dropLast {xs:List V}{us:List Value}(h:Vals xs us):Vals xs.dropLast us.dropLast:=by
 induction h with
 | nil=>exact .nil
 | cons r t ih =>
  cases t with
  | nil=>exact .nil
  | cons q t'=>exact .cons r ih
theorem Vals.rep {xs:List V}{us:List Value}(h:Vals xs us):∀ k,Vals (replicate k xs).flatten (replicate k us).flatten
 | 0=>.nil
 | k+1=>by exact Vals.append h (Vals.rep h k)
theorem foldl_rep (its:List Value):∀ (k:Nat) (acc:List Value),
  List.foldl (fun x1 x2=>x1++x2) acc.toArray (replicate k its.toArray)=(acc++(replicate k its).flatten).toArray
 | 0,acc=>by simp
 | k+1,acc=>by
  have e:acc.toArray++its.toArray=(acc++its).toArray:=by simp
  have e2:(acc++its)++(replicate k its).flatten=acc++(replicate (k+1) its).flatten:=by rw [List.replicate_succ,List.flatten_cons,append_assoc]
  rw [<- e2,<- foldl_rep its k (acc++its),<- e,List.replicate_succ,List.foldl_cons]
section
variable {X:Cx}{pins:List (Addr×Obj)}{Z:St}{H:Hp}{s:Shared}{l b:Addr}{xs ys zs:List V}
theorem Inv.lset {its its':List Value}{n:Nat}{f:Array Value->Array Value}{t':Nat}(I:Inv X pins Z H s) (hH:H l=some (.lst xs))
  (e:s.heap.get? l=some { cls:=.type "list",data:=.seq its.toArray n }) (hf:f its.toArray=its'.toArray) (hv:Vals ys its') (hz:ys.length<=sizeLine) :
  Inv X pins Z (upd H l (.lst ys)) { s with heap:=s.heap.update l (Obj.mapSeq f),toks:=t' }:=by
 have q:=PySem.IsL.update e f;rw [hf] at q;refine I.write (x:=l) (e:=l) (by rw [hH];exact trivial) (.inl rfl) (fun b' u hb hu=>(Heap.get?_update_other s.heap (Obj.mapSeq f) (Ne.symm hb)).trans hu) ⟨_,q⟩ ?_;exact ⟨hz,its',_,hv,q⟩
theorem Inv.lnew {its:List Value}{t':Nat}(I:Inv X pins Z H s) (a:Vals ys its) (hz:ys.length<=sizeLine) :
  Inv X pins Z (upd H s.heap.objs.size (.lst ys)) { s with heap:=s.heap.push { cls:=.type "list",data:=.seq its.toArray },toks:=t' } :=
 I.laid (fun _ _ q=>Heap.get?_push_of_some _ q) (Nat.le_refl _) ⟨hz,its,0,a,Heap.get?_push_size _ rfl⟩
theorem Inv.fresh (I:Inv X pins Z H s):H s.heap.objs.size=none:=I.hok.fresh (Nat.le_refl _)
theorem Inv.lstM (I:Inv X pins Z H s) (a:H l=some (.lst xs)):xs.length<=sizeLine/\∃ (its:List Value) (n:Nat),Vals xs its/\xs.length=its.length/\s.heap.get? l=some { cls:=.type "list",data:=.seq its.toArray n }:=by obtain ⟨z,its,n,r,e⟩:=I.hok l _ a;exact ⟨z,its,n,r,r.length,e⟩
theorem yom {n:Nat}(h:n<=sizeLine):Builtin.List.listTooLong n=false:=by exact decide_eq_false (by omega)
end
section
variable {X:Cx}
def ymV:V->List V->Hp->VK->Prop:=fun x vs H Q=>∃ l xs y,x=.ref l/\vs=[y]/\H l=some (.lst xs)/\xs.length<sizeLine/\Q .non (upd H l (.lst (xs++[y])))
theorem yeP:MtM X "list.append" ymV:=by intro pins s Z H x vs v us Q I rx rv h;obtain ⟨l,xs,y,rfl,rfl,hH,hz,q⟩:=h;cases rx;obtain ⟨u,rfl,ru⟩:=rv.one;obtain ⟨z,its,n,r,hl,e⟩:=I.lstM hH;refine call_meets F.slot_list_append ⟨_,e,rfl⟩ F.entry_list_append (F.args_list_append_2 _ _) (PySem.list_append l its.toArray n u (by rw [size_toArray];omega)) ⟨e,?_⟩;refine ⟨.non,_,I.lset (its':=its++[u]) hH e (by simp) (r.append (.cons ru .nil)) ?_,rfl,q⟩;rw [length_append,List.length_singleton];omega
def yqN:V->List V->Hp->VK->Prop:=fun x vs H Q=>∃ l b xs zs,x=.ref l/\vs=[.ref b]/\H l=some (.lst xs)/\H b=some (.lst zs)/\xs.length+zs.length<=sizeLine/\Q .non (upd H l (.lst (xs++zs)))
theorem yqO:MtM X "list.extend" yqN:=by
 intro f s Z H x vs v us Q I k t h;obtain ⟨l,b,xs,w,rfl,rfl,g,i,hz,q⟩:=h;cases k;obtain ⟨u,rfl,j⟩:=t.one;cases j;obtain ⟨z,its,n,r,hl,e⟩:=I.lstM g;obtain ⟨y,c,o,r2,m,p⟩:=I.lstM i;have hsz:its.toArray.size+c.toArray.size<=sizeLine:=by simp_all
 have d:¬ (!its.toArray.isEmpty && Builtin.List.listTooLong (its.toArray.size+c.toArray.size))=true:=by rw [yom hsz,Bool.and_false];exact Bool.false_ne_true
 refine call_meets F.slot_list_extend ⟨_,e,rfl⟩ F.entry_list_extend (F.args_list_extend_2 _ _)
  (AutoSeq1.list_extend_list_list_0 l its.toArray n b c.toArray o d (by grind)) ⟨e,p,?_⟩
 refine ⟨.non,_,I.lset g e (by simp) (r.append r2) ?_,rfl,q⟩;simp_all
def yFs:V->List V->Hp->VK->Prop:=fun x vs H Q=>∃ l xs y,x=.ref l/\vs=[]/\H l=some (.lst xs)/\xs[xs.length-1]?=some y/\Q y (upd H l (.lst xs.dropLast))
theorem yon:MtM X "list.pop" yFs:=by
 intro f s Z H x vs v us Q I i j h;obtain ⟨l,xs,y,rfl,rfl,d,g,q⟩:=h;cases i;have b:=j.zero;subst b;obtain ⟨z,its,n,r,hl,e⟩:=I.lstM d;obtain ⟨u,m,k⟩:=r.get g;have c:its.toArray[its.toArray.size-1]?=some u:=by simp_all
 refine call_meets F.slot_list_pop ⟨_,e,rfl⟩ F.entry_list_pop (F.args_list_pop_1 _) (MeetsSeq.list_pop_last l its.toArray n u c) ⟨e,?_⟩;refine ⟨y,_,I.lset d e ?_ r.dropLast ?_,k,q⟩
 .simp_all
 .rw [List.length_dropLast];omega
noncomputable def yFt:R2:=fun x y H Q=>∃ l b xs zs,x=.ref l/\y=.ref b/\H l=some (.lst xs)/\H b=some (.lst zs)/\xs.length+zs.length<=sizeLine/\∀ p,H p=none->Q (.ref p) (upd H p (.lst (xs++zs)))
theorem yls:OpR X (binaryOp .Add) yFt:=by
 intro pins s Z H x y v u Q I rx ry h;obtain ⟨l,b,xs,zs,rfl,rfl,hH,hB,hz,q⟩:=h;cases rx;cases ry;obtain ⟨z,its,n,r,hl,e⟩:=I.lstM hH;obtain ⟨z2,its2,n2,r2,hl2,e2⟩:=I.lstM hB;refine PySem.P.add_list e e2 ?_ (by rw [size_toArray,size_toArray];omega);have ea:its.toArray++its2.toArray=(its++its2).toArray:=by simp
 rw [ea];exact ⟨.ref _,_,I.lnew (t':=s.toks) (r.append r2) (by rw [length_append];omega),rfl,q _ I.fresh⟩
noncomputable def yFu:R2:=fun x y H Q=>∃ l k xs,x=.ref l/\y=.int k/\H l=some (.lst xs)/\-(2 ^ 63)<=k/\k<2 ^ 63/\xs.length*k.toNat<=sizeLine /\
 ∀ p,H p=none->Q (.ref p) (upd H p (.lst (replicate k.toNat xs).flatten))
theorem len_rep {Z:Type}(xs:List Z) k:(replicate k xs).flatten.length=k*xs.length:=by simp_all
theorem ylt:OpR X (binaryOp .Mult) yFu:=by
 intro pins s Z H x y v u Q I rx ry h;obtain ⟨l,k,xs,rfl,rfl,hH,h1,h2,hz,q⟩:=h;cases rx;obtain ⟨t,rfl⟩:=ry;obtain ⟨z,its,n,r,hl,e⟩:=I.lstM hH;have hlen:its.toArray.size*k.toNat<=sizeLine:=by rw [size_toArray,<- hl];exact hz
 have hcap:¬ its.toArray.size*k.toNat>(2 ^ 63-1)/8:=by
  have:(sizeLine:Nat)<=(2 ^ 63-1)/8:=by decide
  omega
 have hfit:¬ (!Builtin.List.listFitsIndex k)=true:=by rw [fitsIndex_both h1 h2];exact Bool.false_ne_true
 have hlong:¬ Builtin.List.listTooLong (its.toArray.size*k.toNat)=true:=by rw [yom hlen];exact Bool.false_ne_true
 have hnew:List.foldl (fun x1 x2=>x1++x2) #[] (replicate (if its.toArray.isEmpty=true then 0 else k.toNat) its.toArray)=(replicate k.toNat its).flatten.toArray:=by
  have f0:∀ m:Nat,List.foldl (fun x1 x2=>x1++x2) #[] (replicate m its.toArray)=(replicate m its).flatten.toArray:=fun m=>by have:=foldl_rep its m [];rw [List.nil_append] at this;exact this
  rw [f0];cases its with
  | nil=>simp
  | cons a r'=>rw [if_neg (by simp)]
 refine wpAny_binaryOp_repeat_ref (T:="list") (U:="int") (by decide) ⟨_,e,rfl⟩ (fun s'=>typeIs_int s' k t) noFill_list_mul F.fills_int_mul F.slot_int_rmul repeat_list F.slot_int_index.lookup
  (call_meets F.slot_int_rmul (typeIs_int s k t) F.entry_int_rmul (F.args_int_rmul_2 _ _) (int___rmul___int_list k t l its.toArray n)
   ⟨e,rfl,⟨_,e,rfl⟩,call_meets F.slot_list_mul ⟨_,e,rfl⟩ F.entry_list_mul (F.args_list_mul_2 _ _) (AutoListH.list___mul___list_int_3 l its.toArray n k t hfit hcap hlong) ⟨e,?_⟩⟩)
 rw [hnew];exact ⟨.ref _,_,I.lnew (t':=s.toks) (r.rep k.toNat) (by rw [len_rep,Nat.mul_comm];exact hz),rfl,q _ I.fresh⟩
end
end L2
namespace Att
open PySem PySem.W PySem.Calls PyProof.Rows
theorem yhP {P:Params}{h:Heap}:∀ ns vs,WellAll P h vs (ns.map WData.int)->IntsAre vs ns:=by
 intro ns
 induction ns with
 | nil =>
  intro vs w;cases w;exact .nil
 | cons n ns ih =>
  intro vs w;cases w with
  | cons a b =>
   cases a;exact .cons _ _ (ih _ b)
theorem yqP {l:OpenLaw}{n:Nat}(hn:l.most=some n) {P:Params}{h:Heap}{args:List WData}{vals:List Value}
  (hpre:l.row.toRowW.claim.pre args=true) (hwl:WellAll P h vals args) :
  ∃ a vs ns,vals=[Value.ref a]/\args=[WData.list (ns.map WData.int)]/\h.get? a=some { cls:=.type "list",data:=.seq vs.toArray }/\IntsAre vs ns/\ns.length<=n:=by
 have hsh:WShape.hasAll [] args [.list .int]=true:=(pre_splitW hpre).1;have hc:l.pre.holds [] { args:=args }=true:=(pre_splitW hpre).2;obtain ⟨d,r,rfl,h1,h2⟩:=hasAllW_cons hsh;obtain rfl:=hasAllW_nil h2;obtain ⟨xs,rfl,h3⟩:=hasW_list h1;obtain ⟨ns,rfl⟩:=items_int h3;have hlen:ns.length<=n:=by
  unfold OpenLaw.pre at hc;have h4:(WTm.not (.lt (.lit (.int (n:Int))) (.len (.arg 0)))).holds [] { args:=[.list (ns.map .int)] }=true:=by have h4:=(holds_andW hc).1;rw [hn] at h4;exact h4
  have h5:=condW_of h4 (w_not (w_lt w_lit (w_len_list (w_arg rfl))));rw [length_map] at h5;refine Nat.le_of_not_lt fun q=>?_
  have q':(n:Int)<((ns.length:Nat):Int):=by omega
  first
   | (rw [decide_eq_true q'] at h5;exact absurd h5 (by decide))
   | (simp at h5;omega)
 cases hwl with
 | cons w1 w2 =>
  cases w2;cases w1 with
  | list ho hall=>exact ⟨_,_,ns,rfl,rfl,ho,yhP ns _ hall,hlen⟩
theorem yqQ (l:OpenLaw) args:l.row.toRowW.claim.post args (.bool true) args=true :=
 postW_of
  (by first|rfl|decide|simp [WShape.has,WShape.arms,WShape.armsAll])
  (w_eq_bool (w_res rfl) w_lit) rfl
theorem attach_call {l:OpenLaw}{n:Nat}{q:Program}{e:List Str}{D:(Str->Option Value)->Heap->Prop}{F:World->Heap->Prop}{d:DefRec}
  (L:l.most=some n) (v:d.params.defaults=[])
  (call:∀ w g c t u j o y s h a vs ns,
   Ground q e [] D w g t u c.heap->F w c.heap ->
   c.heap.get? j=some o->o.data=.func (docDef d.name d.params d.body d.scope y s h)->c.heap.CodeRec s d.name->t d.name=some (.ref j) ->
   c.heap.get? a=some { cls:=.type "list",data:=.seq vs.toArray }->IntsAre vs ns->ns.length<=n->c.gens = #[] ->
   codeAny (model l.prog w) callerA (.call (.ref j) ⟨[.ref a],[]⟩) (fun r s'=>r=.ok (.ret (.bool true))/\OldK c.heap s'.heap/\s'.os=c.os/\AllBare s'.gens) c) :
  WalkO q e D F l.row.toRowW d [] fun f vs=>PySem.call f vs:=by
 intro w g c t u G Y j o y s h Q S N O x E z P args C U m B I A R;obtain rfl:Q=.none:=Dflts.none E v;obtain rfl:S=.none:=Dflts.noKw E;obtain ⟨a,vs,ns,rfl,rfl,p,i,k⟩:=yqP L m A;refine enter_call (codeAny_mono (call w g c t u j o y s h a vs ns G Y N (fd_plain O) x z p i k P) fun r s' J=>?_);obtain ⟨rfl,h2,M,H⟩:=J;exact ⟨.inl ⟨_,_,[],rfl,fun _=>rfl,.bool true,yqQ l _,fun _=>⟨List.Pairwise.nil,fun _ T=>nomatch T⟩⟩,h2,M,H⟩
end Att
namespace L2
open PySem PySem.Spec PyProof.Rows
theorem yhQ:∀ {vs:List Value}{ns:List Int},IntsAre vs ns->Vals (ns.map V.int) vs
 | _,_,.nil=>.nil
 | _,_,.cons n t h=>.cons ⟨t,rfl⟩ (yhQ h)
noncomputable def yDD (H:Hp):Prop:=∀ b,H b=none\/∃ o xs,H b=some (.frz o (.lst xs))
theorem yub {P:Program}{w:World}{K:PySem.W.Frag}{C S:Str->Option Value}{CX:CXT}{k:Nat}{R a:Addr}{T:FuncData}{x:Str}{sp:Sp}{f:Shared}{vs:List Value}{ns:List Int}
  (KX:K.In f.heap) (G:f.heap.Ns mainGlobals C) (i:f.heap.Ns builtinsNs S) (Q:∀ x:Str,x≠"__name__"->S x=bootBuiltins x) (E:f.heap.NoLimit) (hg:f.gens = #[])
  (M:f.heap.get? a=some { cls:=.type "list",data:=.seq vs.toArray }) (U:IntsAre vs ns) (hl:ns.length<=sizeLine) (hr:Room k callerA)
  (F:∀ base:Heap,K.In base->base.Ns mainGlobals C->FnOk P w K C base CX k R T [x] sp) (p:∀ (s:Shared) (u:Value),BindsTo s T ⟨[u],[]⟩ [(x,u)])
  (L:∀ H:Hp,yDD H->SqL K H a (ns.map V.int)->sp [.ref a] H (fun v _=>v=.bl true) fun _ _ _=>False)
  (N:∀ H e s',CX [] H f (fun _ _ _=>False) e s'->False) :
  codeAny (model P w) callerA (.call (.ref R) ⟨[.ref a],[]⟩) (fun r s'=>r=.ok (.ret (.bool true))/\OldK f.heap s'.heap/\s'.os=f.os/\AllBare s'.gens) f:=by
 have Y:=yhQ U;have B:=U.length;have l:∀ H:Hp,yDD H->SqL K H a (ns.map V.int)->HOk P w H f.heap->(∀ b,H b≠none->b=a)->(H a≠none->K.lookup a=none) ->
   codeAny (model P w) callerA (.call (.ref R) ⟨[.ref a],[]⟩) (fun r s'=>r=.ok (.ret (.bool true))/\OldK f.heap s'.heap/\s'.os=f.os/\AllBare s'.gens) f:=by
  intro H Z hS y hA hK;have g:∀ {b:Addr}{o:Obj},f.heap.get? b=some o->H b=none->(ytH f.heap H).get? b=some o:=fun e n=>ytI e n
  have O:∀ {b:Addr}{o:Obj}{es:Array DictEntry}{ep:Nat},f.heap.get? b=some o->o.data=.dict es ep->H b=none:=fun {b o es ep} e d=>by grind
  have j:∀ {b:Addr}{m:Str->Option Value},f.heap.Ns b m->(ytH f.heap H).Ns b m:=fun {b m} ⟨o,es,ep,e,d,r⟩=>⟨o,es,ep,g e (O e d),d,r⟩
  have A:K.In (ytH f.heap H):=fun b o e=>g (KX b o e) (by grind)
  have hM:Mod K C (ytH f.heap H):=⟨A,j G,⟨S,j i,Q⟩,let ⟨mc,h1,h2⟩:=E;⟨mc,j h1,h2⟩⟩
  have e0:Env0 P w K C (ytH f.heap H) callerA [] f H:=⟨rfl,hM,fun b o e=>yxs e,le_of_eq (yqo _ _),trivial,fun b i=>absurd (show b∈([]:List Addr) from i) (by simp),y,.of_eq hg⟩
  refine codeAny_mono ((F _ A (j G)).run callerA [] f H ⟨[.ref a],[]⟩ [.ref a] [.ref a] _ _ hr e0 (p f (.ref a)) (.cons rfl .nil) (L H Z hS)) fun r s' h=>?_
  cases r with
  | error e=>exact (N H e s' h).elim
  | ok fl =>
   cases fl with
   | next=>exact False.elim h
   | brk=>exact False.elim h
   | cont=>exact False.elim h
   | ret u =>
    obtain ⟨v,H',os,I,W,D,r',q⟩:=h;have q':v=.bl true:=q;subst q';obtain rfl:u=Value.bool true:=r';refine ⟨rfl,OldK.of_keep fun b o e=>?_,os,I⟩;cases q:H b with
    | none=>exact W.keep b o e q (by intro z;exact absurd (show b∈([]:List Addr) from z) (by simp)) (by simp)
    | some u =>
     rcases Z b with z|⟨ob,xs,z⟩
     .rw [q] at z;cases z
     .have z2:=W.frzs b ob _ z;obtain ⟨X,_⟩:=y b _ z;obtain ⟨e2,_⟩:=D b _ z2;rw [e] at X;cases X;exact e2
 cases J:K.lookup a with
 | some o =>
  have e:=KX a o J;rw [M] at e;cases e;refine l (fun _=>none) (fun _=>.inl rfl) (.inr ⟨_,vs.toArray,_,J,rfl,rfl,rfl,by rw [size_toArray,B];exact hl,by simpa using Y⟩) (fun b u z=>by have t:(none:Option HO)=some u:=z;cases t) (fun b z=>absurd rfl z) fun z=>absurd rfl z
 | none =>
  refine l (fun b=>if b=a then some _ else none) (fun b=>?_) (.inl (.inr ⟨{ cls:=.type "list",data:=.seq vs.toArray },if_pos rfl⟩)) (fun b u z=>?_) (fun b z=>?_) fun _=>J
  .grind
  .by_cases i:b=a
   .have t:=(if_pos i).symm.trans z;cases t;subst i;exact ⟨M,by rw [length_map];exact hl,vs,_,Y,M⟩
   .have t:=(if_neg i).symm.trans z;cases t
  .by_cases i:b=a
   .exact i
   .exact absurd (if_neg i) z
theorem walk_of {l:PySem.W.OpenLaw}{n k:Nat}{q:Program}{g:List Str}{T:(Str->Option Value)->Heap->Prop}{I:World->Heap->Prop}{d:DefRec}{K:Params->PySem.W.Frag}{CX:World->CXT}{sp:World->Sp}{x:Str}
  (Q:l.most=some n) (C:n<=sizeLine) (z:d.params.defaults=[]) (P:Room k callerA)
  (L:∀ w h,I w h->(K w.params).In h)
  (F:∀ w j r h,(K w.params).In h->h.Ns mainGlobals j->j d.name=some (.ref r) ->
   ∃ y:FuncData,(∀ s u,BindsTo s y ⟨[u],[]⟩ [(x,u)]) /\
    ∀ base,(K w.params).In base->base.Ns mainGlobals j->FnOk l.prog w (K w.params) j base (CX w) k r y [x] (sp w))
  (t:∀ w H a (ns:List Int),ns.length<=n->yDD H->SqL (K w.params) H a (ns.map V.int)->sp w [.ref a] H (fun v _=>v=.bl true) fun _ _ _=>False)
  (A:∀ w H s e s',CX w [] H s (fun _ _ _=>False) e s'->False) :
  PySem.W.WalkO q g T I l.row.toRowW d [] fun f vs=>PySem.call f vs:=by
 refine Att.attach_call Q z fun w E m j mb r o Z W R a vs ns G Y ho X O B p i c M=>?_
 have D:=L w _ Y;obtain ⟨y,S,U⟩:=F w j r _ D G.T.g B;exact yub D G.T.g G.T.b G.T.builtins G.T.nolimit M p i (Nat.le_trans c C) P U S (fun H J N=>t w H a ns c J N) fun H e s'=>A w H m e s'
noncomputable def inClass (s:Stmt) (j:Nat):Stmt:=match s with
 | .ClassDef _ _ _ body _ _ _ _ _ _ _=>body.getD j (.Pass ⟨0,0,0,0⟩)
 | _=>.Pass ⟨0,0,0,0⟩
noncomputable def ymW (s:Stmt):Arguments:=match s with
 | .FunctionDef _ a _ _ _ _ _ _ _ _=>a
 | _=>{ posonlyargs:=[],args:=[],vararg:=none,kwonlyargs:=[],kw_defaults:=[],kwarg:=none,defaults:=[] }
noncomputable def yfD (s:Stmt):List Stmt:=match s with
 | .FunctionDef _ _ b _ _ _ _ _ _ _=>b
 | _=>[]
noncomputable def ybK (s:Stmt):Scope:=match s with
 | .FunctionDef _ _ _ _ _ _ sc _ _ _=>sc
 | _=>{ kind:=.function,names:=[],isGenerator:=false,isCoroutine:=false }
abbrev CX0:CXT:=fun _ _ _ _ _ _=>False
abbrev E0:XK:=fun _ _ _=>False
theorem ylu {X:Cx}:yfU CX0 X E0:=fun _ _ _ _ _ _ _ h=>h.elim
structure Fun (K:PySem.W.Frag) (x qual:Str) (st:Stmt) (f:Addr) (fd:FuncData):Prop where
 ex:∃ (oc:Value) (od:Option Addr) (kV doc pm:Value) (an:Option Addr) (cdv ct:Value) (osl:Array (Option Value)),
  fd=fnOf x qual (ymW st) (yfD st) (ybK st) .none kV doc pm an cdv ct/\K.lookup f=some ⟨oc,od,.func fd,osl⟩/\codeIn K cdv qual=true
 kp:keepIn K (.ref f)=true
section
variable {P:Program}{w:World}{K:PySem.W.Frag}{mg:Str->Option Value}{base:Heap}
theorem Fun.ok {x b:Str}{st:Stmt}{f:Addr}{j:FuncData}{N ps:List Str}{k:Nat}{sp:Sp}(F:Fun K x b st f j) (S:yes N ps (ybK st)) (g:∀ vs H Q E,sp vs H Q E->vs.length=ps.length)
  (d:∀ c A outer s H vs Q E,Room k (A.deeper (envOfC b (ybK st) s.heap.objs.size f c))->sp vs H Q E ->
   ∃ t,PSs (ytZ CX0 P w K mg base N b (ybK st) f c A outer s H E).nox (yfD st) t/\t { nx:=fun _ p=>Q .non p,rt:=Q } (start N vs) H):FnOk P w K mg base CX0 (k+1) f j ps sp:=by
 obtain ⟨v,od,kV,o,y,u,c,r,n,rfl,l,i⟩:=F.ex;refine yDx l i S g fun A outer s H vs Q E m e=>?_
 obtain ⟨t,h,q⟩:=d c A outer s H vs Q E m e;exact ⟨t,h.nox,q⟩
theorem fun_mk {x qual:Str}{st:Stmt}{f:Addr}{oc:Value}{od an:Option Addr}{osl:Array (Option Value)}{kV doc pm cdv ct:Value}(l:K.lookup f=some ⟨oc,od,.func (fnOf x qual (ymW st) (yfD st) (ybK st) .none kV doc pm an cdv ct),osl⟩)
  (c:codeIn K cdv qual=true) (k:keepIn K (.ref f)=true):Fun K x qual st f (fnOf x qual (ymW st) (yfD st) (ybK st) .none kV doc pm an cdv ct):=⟨⟨oc,od,kV,doc,pm,an,cdv,ct,osl,rfl,l,c⟩,k⟩
end
theorem yxL {A:Around}{k:Nat}(b:Room k A):A.units+1<cLine:=Nat.lt_of_le_of_lt (Nat.add_le_add_left (by decide) _) b.units
theorem ylv {n:Nat}(h:n<=1000):n<sizeLine:=Nat.lt_of_le_of_lt h (by decide)
noncomputable def Same (H H':Hp):Prop:=∀ b o,H b=some o->H' b=some o
theorem Same.refl H:Same H H:=fun _ _ h=>h
theorem Same.trans {H f e:Hp}(a:Same H f) (b:Same f e):Same H e:=fun c o h=>b c o (a c o h)
theorem Same.free {H H':Hp}(e:Same H H') {l:Addr}(h:H' l=Option.none):H l=Option.none:=by
 cases q:H l with
 | none=>rfl
 | some o =>
  rw [e l o q] at h;cases h
theorem Same.seq {K:PySem.W.Frag}{H c:Hp}{a:Addr}{xs:List V}(e:Same H c) (h:SqL K H a xs):SqL K c a xs:=by
 rcases h with (h|⟨o,h⟩)|h
 .exact .inl (.inl (e _ _ h))
 .exact .inl (.inr ⟨o,e _ _ h⟩)
 .exact .inr h
noncomputable def cV:V->Option Value
 | .ty n=>some (.type n)
 | .ref a=>some (.ref a)
 | _=>none
def IsI (K:PySem.W.Frag) (H:Hp) (x c:V) (b:Bool):Prop:=∃ t u,yoi K H x t/\cV c=some u/\PySem.W.kitOne K t u=some b
theorem ymX {K:PySem.W.Frag}{H:Hp}{i:Int}:IsI K H (.int i) (.ty "int") true:=⟨_,_,.int i,rfl,by with_unfolding_all rfl⟩
theorem ylw {K:PySem.W.Frag}{H:Hp}{i:Int}:IsI K H (.int i) (.ty "bool") false:=⟨_,_,.int i,rfl,by with_unfolding_all rfl⟩
theorem ymY {K:PySem.W.Frag}{H:Hp}:IsI K H .non (.ty "int") false:=⟨_,_,.non,rfl,by with_unfolding_all rfl⟩
theorem ymZ {K:PySem.W.Frag}{H:Hp}{i:Bool}:IsI K H (.bl i) (.ty "bool") true:=⟨_,_,.bl i,rfl,by with_unfolding_all rfl⟩
theorem yna {K:PySem.W.Frag}{H:Hp}{i:Str}:IsI K H (.str i) (.ty "str") true:=⟨_,_,.str i,rfl,by with_unfolding_all rfl⟩
theorem ylx {K:PySem.W.Frag}{H:Hp}{a:Addr}{xs:List V}(e:H a=some (.lst xs)):IsI K H (.ref a) (.ty "list") true:=⟨_,_,.lst e,rfl,by with_unfolding_all rfl⟩
theorem str_len {v:Int}(b:0<=v) {k:Nat}(c:0<k) (h:v<10 ^ k):(Str.ofString (toString v)).length<=k:=toString_length_le b c h
end L2
namespace L2
open PySem
abbrev yDE:R2:=rI0 fun i j=>.int (i+j)
abbrev yDF:R2:=rI0 fun i j=>.int (i-j)
abbrev yDG:R2:=rI CMul fun i j=>.int (i*j)
abbrev yDH:R2:=rI yFn fun i j=>.int (i/j)
abbrev yDI:R2:=rI (fun _ j=>0<j) fun i j=>.int (i%j)
abbrev yDJ:R2:=rI yDu fun i j=>.int (i ^ j.toNat)
abbrev yFR:R2:=rI0 fun i j=>.bl (decide (i<j))
abbrev yFS:R2:=rI0 fun i j=>.bl (decide (i<=j))
abbrev yFT:R2:=rI0 fun i j=>.bl (decide (j<i))
abbrev yFU:R2:=rI0 fun i j=>.bl (decide (j<=i))
abbrev yDK:V->Hp->VK->Prop:=rU fun i=>.int (-i)
noncomputable def yDL:R2:=fun x y H Q=>∃ i j,x=.str i/\y=.str j/\i.length+j.length<=sizeLine/\Q (.str (i++j)) H
noncomputable def yFV:R2:=fun x y H Q=>y=.non/\Q (.bl (decide (x=.non))) H
noncomputable def yDM:R2:=fun x y H Q=>y=.non/\Q (.bl (!decide (x=.non))) H
noncomputable def yDN:List V->Hp->VK->Prop:=fun xs H Q=>∃ z,xs=[.str z]/\z.length<=sizeLine/\Q (.int z.length) H
def yAJ (K:PySem.W.Frag):List V->Hp->VK->Prop:=fun xs H Q=>∃ p ys,xs=[.ref p]/\(SqL K H p ys\/SqT K H p ys)/\Q (.int ys.length) H
noncomputable def yDO:List V->Hp->VK->Prop:=fun xs H Q=>∃ i,xs=[.int i]/\i.natAbs.log2<1920/\Q (.str (toString i)) H
def yFv (K:PySem.W.Frag):List V->Hp->VK->Prop:=fun xs H Q=>∃ x c b,xs=[x,c]/\IsI K H x c b/\Q (.bl b) H
theorem ydR {H:Hp}{p:Addr}(h:H p=none) o:Same H (upd H p o):=fun b u q=>by rw [yO (ybB q h)];exact q
section
variable {K:PySem.W.Frag}{Z:St}{H:Hp}{Q:VK}{ta tb tc:TE}{tA tB':TT}{t u:TS}{D:Ends}
theorem w_not {Q:Bool->Hp->Prop}:yDn tA Z H Q=tA Z H fun c H1=>Q (!c) H1:=rfl
end
noncomputable def yxM (cs:List Nat):Int:=cs.foldl (fun (a:Int) (c:Nat)=>a*10+((c:Int)-48)) 0
def yAK:List V->Hp->VK->Prop:=fun xs H Q=>∃ x:Str,xs=[.str x]/\x.cps.toList≠[]/\(∀ c∈x.cps.toList,48<=c/\c<=57)/\x.length<=640/\Q (.int (yxM x.cps.toList)) H
noncomputable def yFw:R2:=fun x y H Q=>∃ (c:Nat) (j:Str),x=.str ⟨#[c]⟩/\y=.str j/\Q (.bl (decide (c∈j.cps.toList))) H
noncomputable def yqR:V->List V->Hp->VK->Prop:=fun x vs H Q=>∃ (z:Str) (c:Nat),x=.str z/\vs=[.str ⟨#[c]⟩]/\z.length<=1000/\c∈z.cps.toList/\Q (.int (z.cps.toList.idxOf c)) H
noncomputable def rJoin:V->List V->Hp->VK->Prop:=fun x vs H Q=>∃ (sep:Str) (p:Addr) (ts:List Str),x=.str sep/\vs=[.ref p]/\H p=some (.lst (ts.map V.str))/\sep.length<=16/\(ts.map (·.length)).sum+ts.length<=1048576/\Q (.str (Str.join sep ts)) H
noncomputable def yFx:List V->Hp->VK->Prop:=fun xs H Q=>∃ (p:Addr) (bs:List Bool),xs=[.ref p]/\H p=some (.lst (bs.map V.bl))/\Q (.bl (bs.all id)) H
noncomputable def yFy:List V->Hp->VK->Prop:=fun xs H Q=>∃ (p:Addr) (ns:List Int),xs=[.ref p]/\H p=some (.lst (ns.map V.int))/\Q (.int ns.sum) H
def yxN (K:PySem.W.Frag):List V->Hp->VK->Prop:=fun xs H Q=>∃ p ys,xs=[.ref p]/\(SqL K H p ys\/SqT K H p ys)/\∀ l,H l=none->Q (.ref l) (upd H l (.lst ys))
noncomputable def Its (z:Str):It:=⟨fun i _=>i<z.length,fun i H x H'=>H'=H/\∃ c,z.cps.toList[i]?=some c/\x=.str ⟨#[c]⟩,fun i _=>i=z.length⟩
noncomputable def yFz (ta:TE):TI:=fun Z H R=>ta Z H fun x H1=>∃ z,x=.str z/\z.length<=sizeLine/\R (Its z) H1
def yDP (J:It) (te:TE) (inn:V->St) (D:Addr) (Q:VK) (H:Hp):Prop:=∃ W:Nat->Nat->Hp->Prop,(∃ m,W 0 m H)/\∀ i m H,W i m H ->
 (J.stop i H/\Q (.ref D) H)\/(J.go i H/\∀ x H',J.yld i H x H'->te (inn x) H' fun y H2=>∃ acc,H2 D=some (.lst acc)/\acc.length<sizeLine/\∃ m',m'<m/\W (i+1) m' (upd H2 D (.lst (acc++[y]))))
noncomputable def inner (ix:List Nat) (Z:St) (x:V):St:=some x::ix.map fun i=>(Z[i]?).getD none
noncomputable def ypA (wi:TI) (ix:List Nat) (te:TE):TE:=fun Z H Q=>wi Z H fun J H1=>∀ D,H1 D=none->yDP J te (inner ix Z) D Q (upd H1 D (.lst []))
noncomputable def ywz (C:Addr):TE:=fun _ H Q=>∀ x dx,H x=none->H dx=none->dx≠x->Q (.ref x) (upd (upd H dx (.own x)) x (.ins C dx []))
noncomputable def ywA {κ:Type}(A:κ->Addr) (m:Str) (sp:κ->Sp) (ta:TE):TE:=fun Z H Q=>ta Z H fun x H1=>∃ a k dx fs,x=.ref a/\H1 a=some (.ins (A k) dx fs)/\fs.lookup m=none/\sp k [x] H1 Q E0
theorem yAL {k b:Str}{v:V}{r:List _}(h:¬ k=b):List.lookup k ((b,v)::r)=List.lookup k r:=by
 have:(k == b)=false:=by simpa using h
 simp [List.lookup,this]
open PySem.Builtin PySem.Builtin.Str
theorem at_one {z:Str}{c i:Nat}:StrLaws.At z ⟨#[c]⟩ z.length i ↔ z.cps.toList[i]?=some c:=by
 unfold StrLaws.At subAt;have j:(⟨#[c]⟩:Str).length=1:=rfl;rw [j];have f:(z.cps.extract i (i+1) == (⟨#[c]⟩:Str).cps)=true ↔ z.cps.extract i (i+1) = #[c]:=by simp
 rw [f];constructor
 .rintro ⟨h1,h2⟩;have d:(z.cps.extract i (i+1)).toList=[c]:=by rw [h2]
  rw [Array.toList_extract,List.extract_eq_take_drop] at d;have g:((z.cps.toList.drop i).take (i+1-i))[0]?=some c:=by rw [d];rfl
  simpa using g
 .intro h;obtain ⟨b,k⟩:=List.getElem?_eq_some_iff.mp h;have hl:i<z.length:=by simpa [Str.length] using b
  refine ⟨by omega,?_⟩;apply Array.ext';rw [Array.toList_extract,List.extract_eq_take_drop];have e:i+1-i=1:=by omega
  rw [e,List.drop_eq_getElem_cons b,k];rfl
theorem yqS z c:occurrences z ⟨#[c]⟩ 0 z.length 1=[]/\c∉z.cps.toList\/∃ r,occurrences z ⟨#[c]⟩ 0 z.length 1=z.cps.toList.idxOf c::r/\c∈z.cps.toList:=by
 rcases StrLaws.occ_head z _ 1 (Nat.le_refl _) with ⟨h1,h2⟩|⟨i,r,h1,h2,l⟩
 .refine .inl ⟨h1,fun d=>?_⟩;obtain ⟨i,b,e⟩:=getElem_of_mem d;exact h2 i (at_one.mpr (List.getElem?_eq_some_iff.mpr ⟨b,e⟩))
 .have b:=at_one.mp h2;obtain ⟨j,d⟩:=List.getElem?_eq_some_iff.mp b;have g:=mem_of_getElem? b;refine .inr ⟨r,?_,g⟩;have f:=List.idxOf_lt_length_of_mem g;have k:z.cps.toList[z.cps.toList.idxOf c]?=some c:=by rw [List.getElem?_eq_getElem f,List.getElem_idxOf f]
  have e:i=z.cps.toList.idxOf c:=by
   rcases Nat.lt_trichotomy i (z.cps.toList.idxOf c) with h|h|h
   .exact absurd d (by have:=List.not_of_lt_findIdx (p:=(· == c)) (xs:=z.cps.toList) (by simpa [List.idxOf] using h);simpa using this)
   .exact h
   .exact absurd (at_one.mpr k) (l _ h)
  rw [h1,e]
end L2
namespace L2
open PySem PySem.Spec PyProof.Rows
theorem yef {env:Env} y:∀ b:List _,
  (b.map fun (n,k)=>if k == NameKind.free && env.scope.kind == .function && env.kindOf n == some .cell then (n,NameKind.cell) else (n,k)).lookup y
   = (b.lookup y).map fun k=>if k == NameKind.free && env.scope.kind == .function && env.kindOf y == some .cell then NameKind.cell else k
 | []=>rfl
 | (n,k)::r=>by
  have f:=yef (env:=env) y r;show List.lookup y ((if (k == NameKind.free && env.scope.kind == .function && env.kindOf n == some _)=true then (n,NameKind.cell) else (n,k))::_)=_;cases d:y == n with
  | true =>
   have e:=eq_of_beq d;subst e
   by_cases c:(k == NameKind.free && env.scope.kind == .function && env.kindOf y == some .cell)=true
   .simp_all
   .rw [if_neg c];simp_all
  | false =>
   by_cases c:(k == NameKind.free && env.scope.kind == .function && env.kindOf n == some .cell)=true
   .rw [if_pos c];simp only [lookup_cons,d];exact f
   .rw [if_neg c];simp only [lookup_cons,d];exact f
theorem yeQ {env:Env}:∀ (b:List _) cs,(∀ n,(n,NameKind.free)∈b->∃ c,env.cells.lookup n=some c) ->
  ∃ f,forIn b cs (fun (x:Str×NameKind) (r:List (Str×Addr))=>if (x.2 == NameKind.free)=true then do let c <- cellOf env x.1;pure (ForInStep.yield ((x.1,c)::r)) else pure (ForInStep.yield r))=pure f /\
   (∀ y,(y,NameKind.free)∈b->f.lookup y=env.cells.lookup y)/\∀ y,(y,NameKind.free)∉b->f.lookup y=cs.lookup y
 | [],cs,_=>⟨cs,rfl,fun y h=>by simp at h,fun y _=>rfl⟩
 | (n,k)::r,cs,h=>by
  by_cases l:k=.free
  .subst l;obtain ⟨c,j⟩:=h n mem_cons_self;obtain ⟨f,e,h1,h2⟩:=yeQ r ((n,c)::cs) fun y d=>h y (mem_cons_of_mem _ d)
   refine ⟨f,?_,fun y d=>?_,fun y d=>?_⟩
   .have m:cellOf env n=pure c:=by unfold cellOf;rw [j]
    simp_all
   .by_cases g:(y,NameKind.free)∈r
    .exact h1 y g
    simp_all
   .have g:=fun z=>d (mem_cons_of_mem _ z)
    rw [h2 y g];have i:(y == n)=false:=by simp_all
    simp [List.lookup,i]
  .obtain ⟨f,e,h1,h2⟩:=yeQ r cs fun y d=>h y (mem_cons_of_mem _ d)
   refine ⟨f,?_,fun y d=>?_,fun y d=>?_⟩
   .simp_all
   .rcases mem_cons.mp d with z|z
    .simp_all
    .exact h1 y z
   simp_all
noncomputable def cxC (X:Cx) (scope:Scope) (cl:List (Str×Addr)) (C:Addr) (N:List Str) (s₃:Shared) (H₃:Hp) (fp:List Addr) (pins:List (Addr×Obj)):Cx :=
 { prog:=X.prog,w:=X.w,K:=X.K,mg:=X.mg,base:=X.base,A:=X.A,N:=N,s₀:=s₃,H₀:=H₃,env:=compEnvC scope cl C X.env,outer:=X.stack,stack:=X.stack,ex:=fp,fn:=fun _=>false,calm:=X.calm,pn:=X.pn++pins,xe:=fun _ _=>False }
noncomputable def FrOk (X:Cx) (scope:Scope):List Nat->List Str->Prop
 | [],[]=>True
 | i::is,y::ys=>X.N[i]?=some y/\scope.names.lookup y=some .free/\X.env.kindOf y=some .cell/\FrOk X scope is ys
 | _,_=>False
theorem FrOk.len {X:Cx}{scope:Scope}:∀ {a:List Nat}{ys:List Str},FrOk X scope a ys->a.length=ys.length
 | [],[],_=>rfl
 | _::a,_::ys,h=>by rw [length_cons,length_cons,FrOk.len h.2.2.2]
theorem FrOk.get {X:Cx}{scope:Scope}:∀ {is:List Nat}{ys:List Str}{j:Nat}{y:Str},FrOk X scope is ys->ys[j]?=some y->∃ i,is[j]?=some i/\X.N[i]?=some y/\scope.names.lookup y=some .free/\X.env.kindOf y=some .cell
 | [],[],_,_,_,e=>by simp at e
 | [],_::_,_,_,h,_=>h.elim
 | _::_,[],_,_,h,_=>h.elim
 | i::is,z::ys,0,y,h,e=>by simp at e;subst e;exact ⟨i,rfl,h.1,h.2.1,h.2.2.1⟩
 | i::is,z::ys,j+1,y,h,e=>by obtain ⟨k,h1,h2⟩:=FrOk.get (j:=j) h.2.2.2 (by simpa using e);exact ⟨k,by simpa using h1,h2⟩
theorem yuc {P:Program}{w:World}{K:PySem.W.Frag}{N:Expr}{r:String}(j:r = "str_ascii_iterator"\/r = "str_iterator") (z:Str) (t:Tok) (g:Addr):Turn P w K N (Its z) [g] g (fun i h=>h.IsStrIter g r z t i) where
 mem:=by simp
 obj:=fun i h st b l=>by
  have e:b=g:=by simpa using l
  subst e;obtain ⟨o,e,c,d⟩:=st;simp_all
 keep:=fun i h h' st k=>by obtain ⟨o,e,c,d⟩:=st;exact ⟨o,k g (by simp) o e,c,d⟩
 item:=by
  intro X L G M F i m s Z H E I B st n;subst L G M;obtain ⟨f0,A,Q,C,y,v⟩:=B g (by simp);have n:i<z.length:=n;obtain ⟨ch,hz⟩:∃ ch,z.cps[i]?=some ch:=⟨_,Array.getElem?_eq_getElem (show i<z.cps.size from n)⟩
  have p:∀ h',h'.IsStrIter g r z t (i+1)->Heap.SameBut g s.heap h'->∃ u,some (Value.str ⟨#[ch]⟩ s.toks)=some u /\
    wpAny (model X.prog X.w) X.A (letOwnedTupleGo N (.ref g) u) (fun _ s2=>∃ x D,Inv X m Z D s2/\RelV x u/\(Its z).yld i H x D/\s2.heap.IsStrIter g r z t (i+1)/\∀ b∈[g],D b=none) E { s with heap:=h',toks:=s.toks+1 }:=fun h' f q=>by
   have O:=I.turned (t':=s.toks+1) (fun b o l e=>(q.2 b l).trans e) f0 A C y v;obtain ⟨o,e,c,d⟩:=id f;refine ⟨_,rfl,yqt e c d (by rcases j with rfl|rfl<;>decide) ⟨.str ⟨#[ch]⟩,H,O,⟨_,rfl⟩,⟨rfl,_,by simpa using hz,rfl⟩,f,fun b l=>(B b l).1⟩⟩
  rcases j with rfl|rfl
  .exact wpAny_pyNext_ascii_item st hz fun h' f q=>p h' f q
  .exact wpAny_pyNext_wide_item st hz fun h' f q=>p h' f q
 done:=by
  intro X L G M F i m s Z H E I B st n;subst L G M;obtain ⟨f0,A,Q,C,y,v⟩:=B g (by simp);have n:i=z.length:=n;have hz:z.cps[i]?=none:=by simp [n,Str.length]
  rcases j with rfl|rfl
  .exact wpAny_pyNext_ascii_end (I.ok.hd F) st hz fun h' J=>⟨rfl,I.turned (t':=s.toks) (fun b o l e=>J b o l e) f0 A C y v⟩
  .exact wpAny_pyNext_wide_end (I.ok.hd F) st hz fun h' J=>⟨rfl,I.turned (t':=s.toks) (fun b o l e=>J b o l e) f0 A C y v⟩
 self:=fun _ _ _ _ _ st h=>by
  rcases j with rfl|rfl
  .exact wpAny_pyIter_striter_ascii st h
  .exact wpAny_pyIter_striter_wide st h
section
variable {X:Cx}{tg:Expr}
theorem yAM {l:Expr}{tl:TE}(hl:PE X l tl):PI X tg l (yFz tl):=by
 intro c s Z H R I h;refine thn (hl c s Z H _ I h) fun v s1 ⟨x,m,i,k,p⟩=>?_
 obtain ⟨z,e,hz,q⟩:=p;subst e;obtain ⟨t,rfl⟩:=k;have d:∀ f,(f = "str_ascii_iterator"\/f = "str_iterator")->PIE X c Z tg R _ { s1 with heap:=s1.heap.push { cls:=.type f,data:=.fields _ } }:=fun f g=>by
  refine ⟨s1.heap.objs.size,_,_,_,m,rfl,i.kept fun b o e=>Heap.get?_push_of_some _ e,yuc g z t _,⟨_,Heap.get?_push_size _ rfl,rfl,rfl⟩,fun b n=>?_,q⟩;have e:=by simpa using n
  subst e;exact i.fpOk (Nat.le_refl _) (i.hok.fresh (Nat.le_refl _))
 cases j:z.cps.all _
 .exact wpAny_pyIter_wide j (d _ (.inr rfl))
 .exact wpAny_pyIter_ascii j (d _ (.inl rfl))
theorem yjR:∀ {bs:List Bool}{us:List Value},Vals (bs.map V.bl) us->us=bs.map Value.bool
 | [],_,.nil=>rfl
 | b::bs,_,.cons r t=>by rw [r,yjR t];rfl
theorem yoo (hc:X.calm=true):yfA X (.builtin "all") yFx:=by
 intro pins s Z H xs us Q I r h;obtain ⟨p,bs,rfl,hp,q⟩:=h;obtain ⟨u,rfl,rx⟩:=vals1 r;cases rx;obtain ⟨its,n,rv,e,hz⟩:=I.lst hp;have eb:=yjR rv;subst eb;have hl:s.heap.IsList p (bs.map Value.bool).toArray:=⟨_,e,rfl,n,rfl⟩
 have hlt:p<s.heap.objs.size:=Heap.lt_size e;refine call_all_walk (wpAny_pyIter_list hl ?_);refine ⟨s.heap.objs.size,[s.heap.objs.size,p],[s.heap.objs.size],(bs.map Value.bool).toArray.size,_,_,fun i=>(bs[i]?).getD true,rfl,Walks.list (A:=X.A.in1) (I.ok.hd hc) _ p (ne_of_lt hlt) _,
  ⟨⟨_,Heap.get?_push_size _ rfl,rfl,rfl⟩,hl.push _⟩,fun i v s' Q' E' hP hQ=>?_,fun h' tk hk=>?_⟩
 .have hP:(bs.map Value.bool)[i]?=some v:=by simpa using hP
  rw [getElem?_map] at hP;cases eb:bs[i]? with
  | none=>rw [eb] at hP;cases hP
  | some b =>
   rw [eb] at hP;cases hP;simp only [eb,Option.getD_some] at hQ;exact wpAny_truthy_bool hQ
 .have ea:((List.range (bs.map Value.bool).toArray.size).all fun i=>(bs[i]?).getD true)=bs.all id:=by rw [size_toArray,length_map];exact LSm.range_all bs
  rw [ea];exact ⟨.bl _,H,I.kept (t':=tk) fun b o eo=>hk b o (fun hm=>by rw [List.mem_singleton.mp hm] at eo;exact absurd (Heap.lt_size eo) (lt_irrefl _)) (Heap.get?_push_of_some _ eo),rfl,q⟩
theorem yhC (i:X.calm=true):yfA X (.builtin "sum") yFy:=by
 intro c s Z H xs us Q I r h;obtain ⟨p,ns,rfl,hp,q⟩:=h;obtain ⟨u,rfl,k⟩:=vals1 r;cases k;obtain ⟨its,n,l,e,hz⟩:=I.lst hp;have d:=intsAre_of l;have hl:s.heap.IsList p its.toArray:=⟨_,e,rfl,n,rfl⟩
 obtain ⟨xs,f⟩:=d.allInts.items;have b:=f ▸ hl;refine sum_intListG (I.ok.hd i) b fun h' o t' g=>?_
 have j:ns=xs.toList.map (·.1):=by rw [<- nums_intItems,<- f];exact (d.numsOf).symm
 have m:preSum (numAt xs) xs.size=ns.sum:=by rw [preSum_eq,List.take_of_length_le (by simp),j]
 rw [m];exact ⟨.int ns.sum,H,I.kept g,⟨_,rfl⟩,q⟩
theorem yqT:∀ {ts:List Str}{us:List Value},Vals (ts.map V.str) us->StrsAre us ts
 | [],_,.nil=>.nil
 | y::ts,_,.cons r t=>by
  obtain ⟨k,e⟩:=(r)
  rw [e];exact .cons y k (yqT t)
theorem yxO:MtR X "str.join" rJoin:=by
 intro b s Z H x xs v us Q I d f h;obtain ⟨sep,p,ts,rfl,rfl,hp,h1,h2,q⟩:=h;obtain ⟨t,rfl⟩:=d;obtain ⟨u,rfl,c⟩:=vals1 f;cases c;obtain ⟨its,n,r,e,hz⟩:=I.lst hp;have hl:s.heap.IsList p its.toArray:=⟨_,e,rfl,n,rfl⟩
 refine join_listW hl (yqT r) h1 h2 fun t' k=>⟨.str _,H,I.tok k,⟨t',?_⟩,q⟩
 rw [show Txt.join sep ts=Str.join sep ts from StrLaws.glued_eq_join sep ts]
theorem yly:OpR X (compareOp .In) yFw:=by
 intro b s Z H x y v u Q I f d h;obtain ⟨c,j,rfl,rfl,q⟩:=h;refine yqC b s Z H _ _ v u Q I f d ⟨_,_,rfl,rfl,?_⟩;have e:(!(Builtin.Str.occurrences j ⟨#[c]⟩ 0 j.length 1).isEmpty)=decide (c∈j.cps.toList):=by
  rcases yqS j c with ⟨h1,h2⟩|⟨r,h1,h2⟩
  .rw [h1];simp [h2]
  .rw [h1];simp [h2]
 rw [e];exact q
theorem yud {C:Addr}{x:Str}{p pos:Pos}(y:makesIn X.K C=true) (z:findIn X.K (.ref C) "__init__" = some (some (.builtin "object.__init__"))) (n:keepIn X.K (.ref C)=true)
  (u:Gl X x) (j:X.mg x=some (.ref C)) (k:(x == ("__debug__":Str))=false:=by decide):PE X (.Call (.Name x p) [] [] pos) (ywz C):=by
 intro l s Z H Q I h;refine wpAny_Call_Name_kw (yhK I u j ?_ k);refine PySem.W.callWith_K0 I.kIn n (wpAny_call ?_);have m:=Inv.made (C:=C) I;have q:=h (s.heap.objs.size+1) s.heap.objs.size (I.hok.fresh (Nat.le_succ _)) (I.hok.fresh (Nat.le_refl _)) (ne_of_lt (Nat.lt_succ_self _));have i:=I.kIn;obtain ⟨c,g,d,t,os⟩:=s;have Y:=PySem.W.makes_of (M:=model X.prog X.w) i y;refine PySem.W.make_core Y (PySem.W.looks_findIn i z) (fun f=>PySem.W.Looks.of_pure (PySem.W.oi_bind f)) (.inr ⟨rfl,rfl⟩) ?_;have v:=by have:=Heap.get?_push_size (h:=c.push emptyDict) (o:=instObj C c.objs.size) rfl;rwa [Heap.size_push] at this
 have w:PySem.W.Looks (model X.prog X.w) _ (typeOf (.ref (c.objs.size+1))) (.ref C):=(PySem.W.Looks.ld v).andThen .now;have r:PySem.W.Looks (model X.prog X.w) _ (isInstance (.ref (c.objs.size+1)) (.type "object")) true:=w.andThen (Y.top.keeps fun b o e=>Heap.get?_push_of_some _ (Heap.get?_push_of_some _ e));refine codeAny_call_builtin PySem.W.oi_plain PySem.W.entry_oi (@PySem.W.check_slot (model X.prog X.w) _ _ _ "object.__init__" "object" "__init__" (.ref (c.objs.size+1)) [] [] _ PySem.W.oi_kind PySem.W.oi_split r (PySem.W.oi_args (.ref (c.objs.size+1))) ?_);show wpAny _ _ (Builtin.«object.__init__» ⟨[.ref (c.objs.size+1)],[]⟩) _ _ _;rw [PySem.W.oi_run];exact wpAny_pure (And.intro rfl ⟨.ref _,_,m,rfl,q⟩)
def ynb {κ:Type}(P:Program) (w:World) (K:PySem.W.Frag) (mg:Str->Option Value) (base:Heap) (k:Nat) (A:κ->Addr) (m:Str) (sp:κ->Sp):Prop :=
 ∀ c:κ,Cls K (A c)/\((∀ vs H Q E,¬ sp c vs H Q E)\/∃ f fd ps,Meth K (A c) m f/\FnOk P w K mg base CX0 k f fd ps (sp c)/\Binds K fd ps [])
theorem yqU {κ:Type}{A:κ->Addr}{m:Str}{sp:κ->Sp}{k:Nat}{o:Expr}{i:TE}{d pos:Pos}{pl:Sem Bool}(z:PE X o i) (G:ynb X.prog X.w X.K X.mg X.base k A m sp) (r:Room k X.A)
  (v:eval (.Call (.Attribute o m d) [] [] pos) X.env=(do
   let n <- eval o X.env
   standAt d.atName
   let (f,first) <- holding [n] (getMethod n m pl)
   callWith pos f first (backTo pos (starEach [] X.env)) (backToKw pos (keywordEach [] X.env))):=by rfl):PE X (.Call (.Attribute o m d) [] [] pos) (ywA A m sp i):=by
 intro e s Z H Q I h;refine PySem.W.methodCall_KW (thn (z e s Z H _ I h) fun u s1 ⟨x,E,g,t,a,c,J,fs,w,C,l,q⟩=>?_) v;subst w;obtain rfl:u=Value.ref a:=t;obtain ⟨p,B|⟨f,D,ps,j,F,y⟩⟩:=G c
 .exact (B _ _ _ _ q).elim
 refine ygB g C p j l ?_;exact PySem.W.callWith_K0 g.kIn j.kp (ylj (us:=[.ref a]) (vs:=[.ref a]) F r y .nil ylu g (.cons rfl .nil) q)
end
noncomputable def ExO (D a:Addr):HO:=.ext fun h=>∃ ox,PySem.W.InstAt h a ox D none
noncomputable def xAd (K:PySem.W.Frag) (n:Str):Addr:=match nsIn K mainGlobals n with|some (some (.ref D))=>D|_=>0
section
variable {X:Cx}
theorem yI:yfA X (.builtin "isinstance") (yFv X.K):=by
 intro d s Z H xs us Q I r h;obtain ⟨x,c,b,rfl,⟨t,i,g,f,l⟩,q⟩:=h;obtain ⟨u,n,rfl,k,j⟩:=vals2 r;have e:n=i:=by cases c<;>first|(cases f;exact j)|cases f
 subst e;exact yqG I k g l fun m=>⟨.bl b,H,I.tok m,rfl,q⟩
theorem yjo:∀ (cs:List Nat) a,(∀ c∈cs,48<=c/\c<=57)->(cs.foldl (fun e c=>e*10+(c-48)) a:Nat)=cs.foldl (fun (a:Int) (c:Nat)=>a*10+(c-48)) a
 | [],_,_=>rfl
 | c::cs,a,h=>by have g:=h c mem_cons_self;rw [List.foldl_cons,List.foldl_cons,yjo cs _ fun d f=>h d (mem_cons_of_mem _ f)];congr 1;omega
theorem ylz:yfA X (.type "int") yAK:=by intro c s Z H xs us Q I r h;obtain ⟨z,rfl,b,d,hl,q⟩:=h;obtain ⟨u,rfl,t,rfl⟩:=vals1 r;have e:=PySem.intText_digits d b (by omega);have f:(PySem.NumText.digitsVal z.cps.toList:Nat)=yxM z.cps.toList:=yjo z.cps.toList 0 d;rw [f] at e;exact PySem.W.KIN.call_text e hl ⟨.int _,H,I.tok _,⟨_,rfl⟩,q⟩
end
section
variable {X:Cx}
theorem yxP {x:Str}{n:Int}{t:Tok}{pos:Pos}(b:Gl X x) (d:X.mg x=some (.int n t)) (c:(x == "__debug__")=false:=by decide):PE X (.Name x pos) (tC (.int n)):=ymO b d ⟨t,rfl⟩ c
theorem yxQ {x:Str}{n:Str}{t:Tok}{pos:Pos}(b:Gl X x) (d:X.mg x=some (.str n t)) (c:(x == "__debug__")=false:=by decide):PE X (.Name x pos) (tC (.str n)):=ymO b d ⟨t,rfl⟩ c
theorem ync {x:Str}{a:Addr}{pos:Pos}(c:Gl X x) (e:X.mg x=some (.ref a)) (d:(x == "__debug__")=false:=by decide):PE X (.Name x pos) (tC (.ref a)):=ymO c e rfl d
theorem yAN {x:Str}{n:String}{pos:Pos}(b:Gl X x) (f:X.mg x=none) (c:bootBuiltins x=some (.type n)) (e:x≠"__name__":=by decide) (d:(x == "__debug__")=false:=by decide):PE X (.Name x pos) (tC (.ty n)):=yxu b f c rfl e d
end
theorem ynd {K:PySem.W.Frag}{H:Hp}{i:Int}:IsI K H (.int i) (.ty "str") false:=⟨_,_,.int i,rfl,by with_unfolding_all rfl⟩
theorem ylA {K:PySem.W.Frag}{H:Hp}{i:Int}:IsI K H (.int i) (.ty "list") false:=⟨_,_,.int i,rfl,by with_unfolding_all rfl⟩
theorem yjS {K:PySem.W.Frag}{H:Hp}{i:Int}:IsI K H (.int i) (.ty "tuple") false:=⟨_,_,.int i,rfl,by with_unfolding_all rfl⟩
theorem ylB {K:PySem.W.Frag}{H:Hp}{i:Int}:IsI K H (.int i) (.ty "dict") false:=⟨_,_,.int i,rfl,by with_unfolding_all rfl⟩
theorem ypB {K:PySem.W.Frag}{H:Hp}{i:Bool}:IsI K H (.bl i) (.ty "int") true:=⟨_,_,.bl i,rfl,by with_unfolding_all rfl⟩
theorem ypC {K:PySem.W.Frag}{H:Hp}{i:Bool}:IsI K H (.bl i) (.ty "str") false:=⟨_,_,.bl i,rfl,by with_unfolding_all rfl⟩
theorem yne {K:PySem.W.Frag}{H:Hp}{i:Bool}:IsI K H (.bl i) (.ty "list") false:=⟨_,_,.bl i,rfl,by with_unfolding_all rfl⟩
theorem ylC {K:PySem.W.Frag}{H:Hp}{i:Bool}:IsI K H (.bl i) (.ty "tuple") false:=⟨_,_,.bl i,rfl,by with_unfolding_all rfl⟩
theorem ynf {K:PySem.W.Frag}{H:Hp}{i:Bool}:IsI K H (.bl i) (.ty "dict") false:=⟨_,_,.bl i,rfl,by with_unfolding_all rfl⟩
theorem yng {K:PySem.W.Frag}{H:Hp}{i:Str}:IsI K H (.str i) (.ty "int") false:=⟨_,_,.str i,rfl,by with_unfolding_all rfl⟩
theorem ylD {K:PySem.W.Frag}{H:Hp}{i:Str}:IsI K H (.str i) (.ty "bool") false:=⟨_,_,.str i,rfl,by with_unfolding_all rfl⟩
theorem ylE {K:PySem.W.Frag}{H:Hp}{i:Str}:IsI K H (.str i) (.ty "list") false:=⟨_,_,.str i,rfl,by with_unfolding_all rfl⟩
theorem yjT {K:PySem.W.Frag}{H:Hp}{i:Str}:IsI K H (.str i) (.ty "tuple") false:=⟨_,_,.str i,rfl,by with_unfolding_all rfl⟩
theorem ylF {K:PySem.W.Frag}{H:Hp}{i:Str}:IsI K H (.str i) (.ty "dict") false:=⟨_,_,.str i,rfl,by with_unfolding_all rfl⟩
theorem ylG {K:PySem.W.Frag}{H:Hp}:IsI K H .non (.ty "bool") false:=⟨_,_,.non,rfl,by with_unfolding_all rfl⟩
theorem ynh {K:PySem.W.Frag}{H:Hp}:IsI K H .non (.ty "str") false:=⟨_,_,.non,rfl,by with_unfolding_all rfl⟩
theorem ylH {K:PySem.W.Frag}{H:Hp}:IsI K H .non (.ty "list") false:=⟨_,_,.non,rfl,by with_unfolding_all rfl⟩
theorem yjU {K:PySem.W.Frag}{H:Hp}:IsI K H .non (.ty "tuple") false:=⟨_,_,.non,rfl,by with_unfolding_all rfl⟩
theorem ylI {K:PySem.W.Frag}{H:Hp}:IsI K H .non (.ty "dict") false:=⟨_,_,.non,rfl,by with_unfolding_all rfl⟩
theorem yni {K:PySem.W.Frag}{H:Hp}{a:Addr}{xs:List V}(e:H a=some (.lst xs)):IsI K H (.ref a) (.ty "int") false:=⟨_,_,.lst e,rfl,by with_unfolding_all rfl⟩
theorem ylJ {K:PySem.W.Frag}{H:Hp}{a:Addr}{xs:List V}(e:H a=some (.lst xs)):IsI K H (.ref a) (.ty "bool") false:=⟨_,_,.lst e,rfl,by with_unfolding_all rfl⟩
theorem ynj {K:PySem.W.Frag}{H:Hp}{a:Addr}{xs:List V}(e:H a=some (.lst xs)):IsI K H (.ref a) (.ty "str") false:=⟨_,_,.lst e,rfl,by with_unfolding_all rfl⟩
theorem yjV {K:PySem.W.Frag}{H:Hp}{a:Addr}{xs:List V}(e:H a=some (.lst xs)):IsI K H (.ref a) (.ty "tuple") false:=⟨_,_,.lst e,rfl,by with_unfolding_all rfl⟩
theorem ylK {K:PySem.W.Frag}{H:Hp}{a:Addr}{xs:List V}(e:H a=some (.lst xs)):IsI K H (.ref a) (.ty "dict") false:=⟨_,_,.lst e,rfl,by with_unfolding_all rfl⟩
theorem yjW {K:PySem.W.Frag}{H:Hp}{a:Addr}(e:(∃ xs,H a=some (.tup xs))\/∃ o,K.lookup a=some o/\o.cls=.type "tuple"):IsI K H (.ref a) (.ty "tuple") true:=e.elim (fun ⟨_,e⟩=>⟨_,_,.tup e,rfl,by with_unfolding_all rfl⟩) fun ⟨_,e,c⟩=>⟨_,_,.kt e c,rfl,by with_unfolding_all rfl⟩
theorem ynk {K:PySem.W.Frag}{H:Hp}{a:Addr}(e:(∃ xs,H a=some (.tup xs))\/∃ o,K.lookup a=some o/\o.cls=.type "tuple"):IsI K H (.ref a) (.ty "int") false:=e.elim (fun ⟨_,e⟩=>⟨_,_,.tup e,rfl,by with_unfolding_all rfl⟩) fun ⟨_,e,c⟩=>⟨_,_,.kt e c,rfl,by with_unfolding_all rfl⟩
theorem ylL {K:PySem.W.Frag}{H:Hp}{a:Addr}(e:(∃ xs,H a=some (.tup xs))\/∃ o,K.lookup a=some o/\o.cls=.type "tuple"):IsI K H (.ref a) (.ty "bool") false:=e.elim (fun ⟨_,e⟩=>⟨_,_,.tup e,rfl,by with_unfolding_all rfl⟩) fun ⟨_,e,c⟩=>⟨_,_,.kt e c,rfl,by with_unfolding_all rfl⟩
theorem ynl {K:PySem.W.Frag}{H:Hp}{a:Addr}(e:(∃ xs,H a=some (.tup xs))\/∃ o,K.lookup a=some o/\o.cls=.type "tuple"):IsI K H (.ref a) (.ty "str") false:=e.elim (fun ⟨_,e⟩=>⟨_,_,.tup e,rfl,by with_unfolding_all rfl⟩) fun ⟨_,e,c⟩=>⟨_,_,.kt e c,rfl,by with_unfolding_all rfl⟩
theorem ylM {K:PySem.W.Frag}{H:Hp}{a:Addr}(e:(∃ xs,H a=some (.tup xs))\/∃ o,K.lookup a=some o/\o.cls=.type "tuple"):IsI K H (.ref a) (.ty "list") false:=e.elim (fun ⟨_,e⟩=>⟨_,_,.tup e,rfl,by with_unfolding_all rfl⟩) fun ⟨_,e,c⟩=>⟨_,_,.kt e c,rfl,by with_unfolding_all rfl⟩
theorem ylN {K:PySem.W.Frag}{H:Hp}{a:Addr}(e:(∃ xs,H a=some (.tup xs))\/∃ o,K.lookup a=some o/\o.cls=.type "tuple"):IsI K H (.ref a) (.ty "dict") false:=e.elim (fun ⟨_,e⟩=>⟨_,_,.tup e,rfl,by with_unfolding_all rfl⟩) fun ⟨_,e,c⟩=>⟨_,_,.kt e c,rfl,by with_unfolding_all rfl⟩
theorem yue {K:PySem.W.Frag}{C:Addr}:PySem.W.kitOne K (.ref C) (.ref C)=some true:=by unfold PySem.W.kitOne;simp_all
theorem yuf {K:PySem.W.Frag}{C d:Addr}{b:Bool}(f:mroIn K d (.type "object")=some true) (g:typeIn K (.ref d)=some (.type "type")) (hs:subIn K (.ref C) (.ref d)=some b):PySem.W.kitCls K (.ref C) (.ref d)=some b:=by
 unfold PySem.W.kitCls;have h1:(PySem.W.clsIn K d).isSome=true:=by
  unfold mroIn at f;cases e:PySem.W.clsIn K d with
  | none=>rw [e] at f;cases f
  | some c=>rfl
 have h2:(typeIn K (.ref d) == some (.type "type"))=true:=by rw [g];simp
 simp_all
theorem yug {K:PySem.W.Frag}{C b:Addr}(e:(C == b)=false) (d:mroIn K b (.type "object")=some true) (c:typeIn K (.ref b)=some (.type "type")) (hs:subIn K (.ref C) (.ref b)=some false):PySem.W.kitOne K (.ref C) (.ref b)=some false:=by
 unfold PySem.W.kitOne;have:¬ (Value.ref C == Value.ref b)=true:=by simp_all
 rw [if_neg this];exact yuf d c hs
end L2
namespace PX
open PySem L2
structure Ck where
 K:PySem.W.Frag
 A:Nat->Addr
inductive PV where
 | non|bl (b:Bool)|int (i:Int)|str (s:Str)|ty (n:String)|cls (k:Nat)
 | scr (ns:List Int)
 | lst (xs:List PV)|tup (xs:List PV)
 | ins (k:Nat) (ns:List Str) (xs:List PV)
 | loc (n:Nat)
 | exc (n:Str)|xcl (n:Str)
inductive Nd where
 | lst (xs:List PV)|dct (ks:List Key) (xs:List PV)|fz (ks:List Key) (xs:List PV)|ins (k:Nat) (ns:List Str) (xs:List PV)|dead
abbrev AH:=List Nd
inductive PVar where|no|val (x:PV)|own (d:Nd)
abbrev PSt:=List PVar
inductive Out where|nx (ρ:PSt)|rt (x:PV)|bk (ρ:PSt)|ct (ρ:PSt)
noncomputable abbrev XE:=PSt->AH->Option (PV×AH)
noncomputable abbrev XT:=PSt->AH->Option (Bool×AH)
noncomputable abbrev XA:=PSt->AH->Option (List PV×AH)
noncomputable abbrev XO:=PSt->AH->Option (Nd×AH)
noncomputable abbrev XS:=PSt->AH->Option (Out×AH)
noncomputable abbrev Fn:=List PV->AH->Option (PV×AH)
def KTp (K:PySem.W.Frag) (a:Addr) (xs:List V):Prop:=∃ (o:Obj) (its:Array Value) (n:Nat),K.lookup a=some o/\o.cls=.type "tuple"/\o.data=.seq its n/\its.size<=sizeLine/\Vals xs its.toList
def TpAt (K:PySem.W.Frag) (F:Hp) (a:Addr) (xs:List V):Prop:=F a=some (.tup xs)\/KTp K a xs
theorem TpAt.mono {K:PySem.W.Frag}{F F':Hp}{a:Addr}{xs:List V}(s:Same F F') (h:TpAt K F a xs):TpAt K F' a xs:=h.elim (fun h=>.inl (s _ _ h)) .inr
mutual
noncomputable def Rep (K:Ck) (F:Hp) (m:List Addr):PV->V->Prop
 | .non,v=>v=.non
 | .bl b,v=>v=.bl b
 | .int i,v=>v=.int i
 | .str s,v=>v=.str s
 | .ty n,v=>v=.ty n
 | .cls k,v=>v=.ref (K.A k)
 | .scr ns,v=>∃ a,v=.ref a/\SqL K.K F a (ns.map V.int)
 | .lst xs,v=>∃ a vs,v=.ref a/\F a=some (.lst vs)/\RepL K F m xs vs
 | .tup xs,v=>∃ a vs,v=.ref a/\TpAt K.K F a vs/\RepL K F m xs vs
 | .ins k ns xs,v=>∃ a dx vs,v=.ref a/\F a=some (.ins (K.A k) dx (ns.zip vs))/\vs.length=ns.length/\RepL K F m xs vs
 | .loc n,v=>∃ a,v=.ref a/\m[n]?=some a
 | .exc n,v=>∃ a,v=.ref a/\F a=some (ExO (xAd K.K n) a)
 | .xcl n,v=>v=.ref (xAd K.K n)
noncomputable def RepL (K:Ck) (F:Hp) (m:List Addr):List PV->List V->Prop
 | [],vs=>vs=[]
 | x::xs,vs=>∃ v r,vs=v::r/\Rep K F m x v/\RepL K F m xs r
end
section
variable {K:Ck}{F F' H H':Hp}{m m':List Addr}
theorem yet {n:Nat}{a:Addr}(p:m <+: m') (h:m[n]?=some a):m'[n]?=some a:=by obtain ⟨r,rfl⟩:=p;rw [getElem?_append_left (List.getElem?_eq_some_iff.mp h).1];exact h
mutual
theorem Rep.mono (s:Same F F') (p:m <+: m'):∀ (x:PV) (v:V),Rep K F m x v->Rep K F' m' x v
 | .non,_,h=>h
 | .bl _,_,h=>h
 | .int _,_,h=>h
 | .str _,_,h=>h
 | .ty _,_,h=>h
 | .cls _,_,h=>h
 | .scr _,_,⟨a,e,h⟩=>⟨a,e,s.seq h⟩
 | .lst xs,_,⟨a,vs,e,h,r⟩=>⟨a,vs,e,s _ _ h,RepL.mono s p xs vs r⟩
 | .tup xs,_,⟨a,vs,e,h,r⟩=>⟨a,vs,e,h.mono s,RepL.mono s p xs vs r⟩
 | .ins _ _ xs,_,⟨a,dx,vs,e,h,l,r⟩=>⟨a,dx,vs,e,s _ _ h,l,RepL.mono s p xs vs r⟩
 | .loc _,_,⟨a,e,h⟩=>⟨a,e,yet p h⟩
 | .exc _,_,⟨a,e,h⟩=>⟨a,e,s _ _ h⟩
 | .xcl _,_,h=>h
theorem RepL.mono (s:Same F F') (p:m <+: m'):∀ (xs:List PV) (vs:List V),RepL K F m xs vs->RepL K F' m' xs vs
 | [],_,h=>h
 | x::xs,_,⟨v,r,e,h,l⟩=>⟨v,r,e,Rep.mono s p x v h,RepL.mono s p xs r l⟩
end
theorem RepL.len:∀ {xs:List PV}{vs:List V},RepL K F m xs vs->vs.length=xs.length
 | [],_,h=>by rw [h];rfl
 | x::xs,_,⟨v,r,e,h,l⟩=>by rw [e,length_cons,length_cons,RepL.len l]
theorem RepL.get:∀ {xs:List PV}{vs:List V}{i:Nat}{x:PV},RepL K F m xs vs->xs[i]?=some x->∃ v,vs[i]?=some v/\Rep K F m x v
 | x::xs,_,0,y,⟨v,r,e,h,l⟩,q=>by simp at q;subst q;subst e;exact ⟨v,rfl,h⟩
 | x::xs,_,i+1,y,⟨v,r,e,h,l⟩,q=>by subst e;obtain ⟨w,h1,h2⟩:=RepL.get (i:=i) l (by simpa using q);exact ⟨w,by simpa using h1,h2⟩
theorem RepL.get' {xs:List PV}{vs:List V}{i:Nat}{v:V}(h:RepL K F m xs vs) (e:vs[i]?=some v):∃ x,xs[i]?=some x/\Rep K F m x v:=by have hl:=h.len;have hi:i<vs.length:=(List.getElem?_eq_some_iff.mp e).1;have hx:xs[i]?=some xs[i]:=List.getElem?_eq_getElem (by omega);obtain ⟨w,h1,h2⟩:=h.get hx;rw [e] at h1;cases h1;exact ⟨_,hx,h2⟩
theorem RepL.app:∀ {xs ys:List PV}{vs us:List V},RepL K F m xs vs->RepL K F m ys us->RepL K F m (xs++ys) (vs++us)
 | [],_,_,_,h,k=>by rw [h];exact k
 | x::xs,ys,_,us,⟨v,r,e,h,l⟩,k=>by subst e;exact ⟨v,_,rfl,h,RepL.app l k⟩
theorem RepL.snoc {xs:List PV}{vs:List V}{x:PV}{v:V}(h:RepL K F m xs vs) (k:Rep K F m x v):RepL K F m (xs++[x]) (vs++[v]):=h.app ⟨v,[],rfl,k,rfl⟩
theorem RepL.drop:∀ {xs:List PV}{vs:List V}(n:Nat),RepL K F m xs vs->RepL K F m (xs.drop n) (vs.drop n)
 | _,_,0,h=>by simpa using h
 | [],_,n+1,h=>by rw [show _=[] from h];rfl
 | x::xs,_,n+1,⟨v,r,e,h,l⟩=>by subst e;simpa using RepL.drop n l
theorem RepL.take:∀ {xs:List PV}{vs:List V} n,RepL K F m xs vs->RepL K F m (xs.take n) (vs.take n)
 | _,_,0,h=>rfl
 | [],_,n+1,h=>by rw [h];rfl
 | x::xs,_,n+1,⟨v,r,e,h,l⟩=>by subst e;exact ⟨v,_,rfl,h,RepL.take n l⟩
theorem RepL.set:∀ {xs:List PV}{vs:List V}{x:PV}{v:V}(i:Nat),RepL K F m xs vs->Rep K F m x v->RepL K F m (xs.set i x) (vs.set i v)
 | [],_,_,_,_,h,_=>by rw [show _=[] from h];rfl
 | y::xs,_,x,v,0,⟨w,r,e,h,l⟩,k=>by subst e;exact ⟨v,r,rfl,k,l⟩
 | y::xs,_,x,v,i+1,⟨w,r,e,h,l⟩,k=>by subst e;exact ⟨w,r.set i v,rfl,h,RepL.set i l k⟩
theorem RepL.of_ints:∀ (ns:List Int),RepL K F m (ns.map PV.int) (ns.map V.int)
 | []=>rfl
 | n::ns=>⟨_,_,rfl,rfl,RepL.of_ints ns⟩
end
noncomputable def NdAt (K:Ck) (F H:Hp) (m:List Addr):Nd->Addr->Prop
 | .dead,a=>∃ o,H a=some o
 | .lst xs,a=>F a=none/\∃ vs,H a=some (.lst vs)/\RepL K F m xs vs
 | .dct ks xs,a=>F a=none/\∃ vs,H a=some (.dK (ks.zip vs))/\vs.length=ks.length/\RepL K F m xs vs
 | .fz ks xs,a=>F a=none/\∃ o vs,H a=some (.frz o (.dK (ks.zip vs)))/\vs.length=ks.length/\RepL K F m xs vs
 | .ins k ns xs,a=>F a=none/\∃ dx vs,H a=some (.ins (K.A k) dx (ns.zip vs))/\vs.length=ns.length/\RepL K F m xs vs
structure Wd where
 F:Hp
 H:Hp
 m:List Addr
 h:AH
structure WOk (K:Ck) (W:Wd):Prop where
 le:Same W.F W.H
 len:W.m.length=W.h.length
 nd:W.m.Nodup
 at_:∀ (n:Nat) (d:Nd) (a:Addr),W.h[n]?=some d->W.m[n]?=some a->NdAt K W.F W.H W.m d a
structure Le (K:Ck) (W W':Wd):Prop where
 ok:WOk K W'
 fs:Same W.F W'.F
 pre:W.m <+: W'.m
 keep:∀ b o,W.H b=some o->b∉W.m->W'.H b=some o
 new:∀ b o,W.H b=some o->b∉W.m->W.F b=none->W'.F b=none
 mn:∀ b∈W'.m,b∉W.m->W.H b=none
 fz:∀ (n:Nat) (ks:List Key) (xs:List PV),W.h[n]?=some (.fz ks xs)->W'.h[n]?=some (.fz ks xs)/\∀ a,W.m[n]?=some a->W'.H a=W.H a
theorem Le.refl {K:Ck}{W:Wd}(h:WOk K W):Le K W W:=⟨h,Same.refl _,prefix_refl _,fun _ _ e _=>e,fun _ _ _ _ e=>e,fun _ h h'=>absurd h h',fun _ _ _ e=>⟨e,fun _ _=>rfl⟩⟩
theorem Le.trans {K:Ck}{W g h:Wd}(a:Le K W g) (b:Le K g h):Le K W h where
 ok:=b.ok
 fs:=a.fs.trans b.fs
 pre:=a.pre.trans b.pre
 keep:=fun c o e n=>b.keep c o (a.keep c o e n) fun z=>by rw [a.mn c z n] at e;cases e
 new:=fun c o e n f=>b.new c o (a.keep c o e n) (fun z=>by rw [a.mn c z n] at e;cases e) (a.new c o e n f)
 mn:=fun c z n=>by
  by_cases i:c∈g.m
  .exact a.mn c i n
  .have:=b.mn c z i
   cases e:W.H c with
   | none=>rfl
   | some o=>rw [a.keep c o e n] at this;cases this
 fz:=fun n ks xs e=>by obtain ⟨p,k⟩:=a.fz n ks xs e;obtain ⟨l,m⟩:=b.fz n ks xs p;exact ⟨l,fun c j=>(m c (yet a.pre j)).trans (k c j)⟩
noncomputable abbrev ycN (K:Ck) (W:Wd) (x:PV) (v:V):Prop:=Rep K W.F W.m x v
noncomputable abbrev ycI (K:Ck) (W:Wd) (x:List PV) (v:List V):Prop:=RepL K W.F W.m x v
theorem Le.rep {K:Ck}{W a:Wd}(l:Le K W a) {x:PV}{v:V}(h:ycN K W x v):ycN K a x v:=Rep.mono l.fs l.pre x v h
theorem Le.repL {K:Ck}{W a:Wd}(l:Le K W a) {x:List PV}{v:List V}(h:ycI K W x v):ycI K a x v:=RepL.mono l.fs l.pre x v h
theorem NdAt.mono {K:Ck}{F F' H H':Hp}{m m':List Addr}(s:Same F F') (p:m <+: m') {d:Nd}{a:Addr}(hH:∀ o,H a=some o->H' a=some o) (hF:F a=none->F' a=none) (h:NdAt K F H m d a):NdAt K F' H' m' d a:=by
 cases d with
 | dead=>obtain ⟨o,e⟩:=h;exact ⟨o,hH _ e⟩
 | lst xs=>obtain ⟨f,vs,e,r⟩:=h;exact ⟨hF f,vs,hH _ e,RepL.mono s p _ _ r⟩
 | dct ks xs=>obtain ⟨f,vs,e,l,r⟩:=h;exact ⟨hF f,vs,hH _ e,l,RepL.mono s p _ _ r⟩
 | fz ks xs=>obtain ⟨f,o,vs,e,l,r⟩:=h;exact ⟨hF f,o,vs,hH _ e,l,RepL.mono s p _ _ r⟩
 | ins C ns xs=>obtain ⟨f,dx,vs,e,l,r⟩:=h;exact ⟨hF f,dx,vs,hH _ e,l,RepL.mono s p _ _ r⟩
theorem NdAt.some {K:Ck}{F H:Hp}{m:List Addr}{d:Nd}{a:Addr}(h:NdAt K F H m d a):∃ o,H a=some o:=by
 cases d with
 | dead=>exact h
 | lst xs=>obtain ⟨f,vs,e,r⟩:=h;exact ⟨_,e⟩
 | dct ks xs=>obtain ⟨f,vs,e,r⟩:=h;exact ⟨_,e⟩
 | fz ks xs=>obtain ⟨f,o,vs,e,r⟩:=h;exact ⟨_,e⟩
 | ins C ns xs=>obtain ⟨f,b,vs,e,r⟩:=h;exact ⟨_,e⟩
structure Good (K:Ck) (W0 W:Wd) (ρ:PSt) (Z:St):Prop where
 le:Le K W0 W
 len:Z.length=ρ.length
 val:∀ (i:Nat) (x:PV),ρ[i]?=some (.val x)->∃ v,Z[i]?=some (some v)/\ycN K W x v
 own:∀ (i:Nat) (d:Nd),ρ[i]?=some (.own d)->∃ p,Z[i]?=some (some (.ref p))/\p∉W.m/\W0.H p=none/\d≠.dead/\NdAt K W.F W.H W.m d p
 ne:∀ (i j:Nat) (d d':Nd),i≠j->ρ[i]?=some (.own d)->ρ[j]?=some (.own d')->Z[i]?≠Z[j]?
theorem Good.ok {K:Ck}{a W:Wd}{ρ:PSt}{Z:St}(g:Good K a W ρ Z):WOk K W:=g.le.ok
theorem Good.step {K:Ck}{W0 W W':Wd}{ρ:PSt}{Z:St}(g:Good K W0 W ρ Z) (l:Le K W W'):Good K W0 W' ρ Z where
 le:=g.le.trans l
 len:=g.len
 val:=fun i x e=>let ⟨v,h1,h2⟩:=g.val i x e;⟨v,h1,l.rep h2⟩
 own:=fun i d e=>by
  obtain ⟨p,h1,h2,h3,h4,h5⟩:=g.own i d e;obtain ⟨o,ho⟩:=h5.some;have n':p∉W'.m:=fun z=>by rw [l.mn p z h2] at ho;cases ho
  refine ⟨p,h1,n',h3,h4,h5.mono l.fs l.pre (fun o e=>l.keep p o e h2) fun f=>l.new p o ho h2 f⟩
 ne:=g.ne
theorem WOk.some {K:Ck}{W:Wd}(w:WOk K W) {a:Addr}(h:a∈W.m):∃ o,W.H a=some o:=by
 obtain ⟨n,c,e⟩:=getElem_of_mem h;have hl:n<W.h.length:=by rw [<- w.len];exact c
 exact (w.at_ n _ a (List.getElem?_eq_getElem hl) (by simp_all)).some
theorem Le.fresh {K:Ck}{W W':Wd}(l:Le K W W') {p:Addr}(h:W'.H p=none):W.H p=none:=by
 cases e:W.H p with
 | none=>rfl
 | some o =>
  by_cases hm:p∈W.m
  .obtain ⟨o,q⟩:=l.ok.some (l.pre.subset hm);rw [h] at q;cases q
  .rw [l.keep p o e hm] at h;cases h
theorem WOk.out {K:Ck}{W:Wd}(w:WOk K W) {p:Addr}(h:W.H p=none):p∉W.m:=fun z=>by obtain ⟨o,q⟩:=w.some z;rw [h] at q;cases q
theorem WOk.ff {K:Ck}{W:Wd}(w:WOk K W) {p:Addr}(h:W.H p=none):W.F p=none:=Same.free w.le h
structure Lf (K:Ck) (W W':Wd):Prop where
 fs:Same W.F W'.F
 pre:W.m <+: W'.m
 fz:∀ (n:Nat) (ks:List Key) (xs:List PV),W.h[n]?=some (.fz ks xs)->W'.h[n]?=some (.fz ks xs)/\∀ a,W.m[n]?=some a->W'.H a=W.H a
theorem Le.lf {K:Ck}{W W':Wd}(l:Le K W W'):Lf K W W':=⟨l.fs,l.pre,l.fz⟩
theorem Lf.refl {K:Ck}{W:Wd}:Lf K W W:=⟨Same.refl _,prefix_refl _,fun _ _ _ e=>⟨e,fun _ _=>rfl⟩⟩
theorem Lf.trans {K:Ck}{W g h:Wd}(a:Lf K W g) (b:Lf K g h):Lf K W h:=⟨a.fs.trans b.fs,a.pre.trans b.pre,fun n ks xs e=>by obtain ⟨j,l⟩:=a.fz n ks xs e;obtain ⟨i,k⟩:=b.fz n ks xs j;exact ⟨i,fun c f=>(k c (yet a.pre f)).trans (l c f)⟩⟩
theorem Lf.rep {K:Ck}{W a:Wd}(l:Lf K W a) {x:PV}{v:V}(h:ycN K W x v):ycN K a x v:=Rep.mono l.fs l.pre x v h
def ybX (K:Ck) (t:TE) (e:XE):Prop:=∀ (W0 W:Wd) (ρ:PSt) (Z:St) (Q:VK) (x:PV) (h':AH),Good K W0 W ρ Z->e ρ W.h=some (x,h') ->
 (∀ v W',W'.h=h'->Le K W W'->ycN K W' x v->Q v W'.H)->t Z W.H Q
def ymF (K:Ck) (t:TT) (e:XT):Prop:=∀ (W0 W:Wd) (ρ:PSt) (Z:St) (Q:Bool->Hp->Prop) (x:Bool) (h':AH),Good K W0 W ρ Z->e ρ W.h=some (x,h') ->
 (∀ W',W'.h=h'->Le K W W'->Q x W'.H)->t Z W.H Q
def ymG (K:Ck) (t:TA) (e:XA):Prop:=∀ (W0 W:Wd) (ρ:PSt) (Z:St) (Q:List V->Hp->Prop) (x:List PV) (h':AH),Good K W0 W ρ Z->e ρ W.h=some (x,h') ->
 (∀ v W',W'.h=h'->Le K W W'->ycI K W' x v->Q v W'.H)->t Z W.H Q
def ymH (K:Ck) (t:TE) (e:XO):Prop:=∀ (W0 W:Wd) (ρ:PSt) (Z:St) (Q:VK) (d:Nd) (h':AH),Good K W0 W ρ Z->e ρ W.h=some (d,h') ->
 (∀ p W',W'.h=h'->Le K W W'->p∉W'.m->W.H p=none->d≠.dead->NdAt K W'.F W'.H W'.m d p->Q (.ref p) W'.H)->t Z W.H Q
noncomputable def Ends.Ok (K:Ck) (W0 W:Wd) (D:Ends) (h':AH):Out->Prop
 | .nx ρ'=>∀ W' Z',W'.h=h'->Lf K W W'->Good K W0 W' ρ' Z'->D.nx Z' W'.H
 | .bk ρ'=>∀ W' Z',W'.h=h'->Lf K W W'->Good K W0 W' ρ' Z'->D.bk Z' W'.H
 | .ct ρ'=>∀ W' Z',W'.h=h'->Lf K W W'->Good K W0 W' ρ' Z'->D.ct Z' W'.H
 | .rt x=>∀ W' v,W'.h=h'->Le K W0 W'->ycN K W' x v->D.rt v W'.H
def yfr (K:Ck) (t:TS) (s:XS):Prop:=∀ (W0 W:Wd) (ρ:PSt) (Z:St) (D:Ends) (o:Out) (h':AH),Good K W0 W ρ Z->s ρ W.h=some (o,h')->Ends.Ok K W0 W D h' o->t D Z W.H
noncomputable def ob {Z Y:Type}(o:Option (Z×AH)) (f:Z->AH->Option Y):Option Y:=o.bind fun q=>f q.1 q.2
theorem yj {Z Y:Type}{o:Option (Z×AH)}{f:Z->AH->Option Y}{b:Y}(h:ob o f=some b):∃ x h',o=some (x,h')/\f x h'=some b:=by obtain ⟨⟨x,h'⟩,e,k⟩:=Option.bind_eq_some_iff.mp h;exact ⟨x,h',e,k⟩
variable {K:Ck}
noncomputable def ye (i:Nat):XE:=fun ρ h=>match ρ[i]? with|some (.val x)=>some (x,h)|_=>none
def xC (x:PV):XE:=fun _ h=>some (x,h)
noncomputable abbrev P2:=PV->PV->AH->Option (PV×AH)
noncomputable abbrev P2O:=PV->PV->AH->Option (Nd×AH)
noncomputable def xOp (p:P2) (a b:XE):XE:=fun ρ h=>ob (a ρ h) fun x h1=>ob (b ρ h1) fun y h2=>p x y h2
noncomputable def ynm (p:P2O) (a b:XE):XO:=fun ρ h=>ob (a ρ h) fun x h1=>ob (b ρ h1) fun y h2=>p x y h2
noncomputable def xUn (p:PV->AH->Option (PV×AH)) (a:XE):XE:=fun ρ h=>ob (a ρ h) fun x h1=>p x h1
noncomputable def oB (x:PV) (h:AH):Option (Bool×AH):=match x with|.bl b=>some (b,h)|_=>none
noncomputable def yei (p p':P2) (a b c:XE):XE:=fun ρ h=>ob (a ρ h) fun x h1=>ob (b ρ h1) fun y h2=>ob (p x y h2) fun z h3=>ob (oB z h3) fun k h3=>if k=true then ob (c ρ h3) fun w h4=>p' y w h4 else some (.bl false,h3)
def yn (a:XE):XT:=fun ρ h=>ob (a ρ h) oB
noncomputable def yfW (a b:XE):XE:=fun ρ h=>ob (a ρ h) fun x h1=>ob (oB x h1) fun k h1=>if k=true then b ρ h1 else some (.bl false,h1)
noncomputable def yuh (a:XE):XE:=fun ρ h=>ob (a ρ h) fun x h1=>ob (oB x h1) fun k h1=>some (.bl (!k),h1)
noncomputable def yui (a b:XT):XT:=fun ρ h=>ob (a ρ h) fun k h1=>if k=true then b ρ h1 else some (false,h1)
noncomputable def xOr (a b:XT):XT:=fun ρ h=>ob (a ρ h) fun k h1=>if k=true then some (true,h1) else b ρ h1
def yfE (a:XT):XT:=fun ρ h=>ob (a ρ h) fun k h1=>some (!k,h1)
noncomputable def xIf (c:XT) (a b:XE):XE:=fun ρ h=>ob (c ρ h) fun k h1=>if k=true then a ρ h1 else b ρ h1
def yi:XA:=fun _ h=>some ([],h)
noncomputable def yc (a:XE) (r:XA):XA:=fun ρ h=>ob (a ρ h) fun x h1=>ob (r ρ h1) fun xs h2=>some (x::xs,h2)
noncomputable def ygz (a:XA):XE:=fun ρ h=>ob (a ρ h) fun xs h1=>if xs.length<=1000 then some (.tup xs,h1) else none
noncomputable def yeg (a:XA):XO:=fun ρ h=>ob (a ρ h) fun xs h1=>if xs.length<=1000 then some (.lst xs,h1) else none
noncomputable def xFz (e:XO):XE:=fun ρ h=>ob (e ρ h) fun d h1=>match d with|.lst xs=>some (.lst xs,h1)|.ins k ns xs=>some (.ins k ns xs,h1)|_=>none
noncomputable def yiQ (e:XO):XE:=fun ρ h=>ob (e ρ h) fun d h1=>some (.loc h1.length,h1++[d])
def yT (f:Fn) (a:XA):XE:=fun ρ h=>ob (a ρ h) f
def xCB (p:List PV->AH->Option (PV×AH)) (a:XA):XE:=fun ρ h=>ob (a ρ h) p
def ygA (p:List PV->AH->Option (Nd×AH)) (a:XA):XO:=fun ρ h=>ob (a ρ h) p
noncomputable abbrev PM:=PV->List PV->AH->Option (PV×AH)
noncomputable def xBM (c:PV->AH->Bool) (p:PM) (o:XE) (a:XA):XE:=fun ρ h=>ob (o ρ h) fun x h1=>if c x h1=true then ob (a ρ h1) fun xs h2=>p x xs h2 else none
noncomputable def ygC (e:XE):PSt->AH->Option (Option Int×AH):=fun ρ h=>ob (e ρ h) fun x h1=>match x with|.int i=>some (some i,h1)|_=>none
noncomputable def yhR:PSt->AH->Option (Option Int×AH):=fun _ h=>some (none,h)
noncomputable def ytz (p:PV->Option Int->Option Int->AH->Option (Nd×AH)) (e:XE) (lo hi:PSt->AH->Option (Option Int×AH)):XO:=fun ρ h=>ob (e ρ h) fun x h1=>ob (lo ρ h1) fun l h2=>ob (hi ρ h2) fun u h3=>p x l u h3
def yco (K:Ck) (r:R2) (p:P2):Prop:=∀ (W:Wd) (x y:PV) (v u:V) (Q:VK) (z:PV) (h':AH),WOk K W->ycN K W x v->ycN K W y u->p x y W.h=some (z,h')->(∀ w W',W'.h=h'->Le K W W'->ycN K W' z w->Q w W'.H)->r v u W.H Q
def ypD (K:Ck) (W:Wd) (d:Nd) (h':AH) (Q:VK):Prop:=∀ p W',W'.h=h'->Le K W W'->p∉W'.m->W.H p=none->d≠.dead->NdAt K W'.F W'.H W'.m d p->Q (.ref p) W'.H
def yop (K:Ck) (r:R2) (p:P2O):Prop:=∀ (W:Wd) (x y:PV) (v u:V) (Q:VK) (d:Nd) (h':AH),WOk K W->ycN K W x v->ycN K W y u->p x y W.h=some (d,h')->ypD K W d h' Q->r v u W.H Q
def yxR (K:Ck) (r:V->Hp->VK->Prop) (p:PV->AH->Option (PV×AH)):Prop:=∀ (W:Wd) (x:PV) (v:V) (Q:VK) (z:PV) (h':AH),WOk K W->ycN K W x v->p x W.h=some (z,h')->(∀ w W',W'.h=h'->Le K W W'->ycN K W' z w->Q w W'.H)->r v W.H Q
def yhS (K:Ck) (r:List V->Hp->VK->Prop) (p:List PV->AH->Option (PV×AH)):Prop:=∀ (W:Wd) (xs:List PV) (vs:List V) (Q:VK) (z:PV) (h':AH),WOk K W->ycI K W xs vs->p xs W.h=some (z,h')->(∀ w W',W'.h=h'->Le K W W'->ycN K W' z w->Q w W'.H)->r vs W.H Q
def yqV (K:Ck) (r:List V->Hp->VK->Prop) (p:List PV->AH->Option (Nd×AH)):Prop:=∀ (W:Wd) (xs:List PV) (vs:List V) (Q:VK) (d:Nd) (h':AH),WOk K W->ycI K W xs vs->p xs W.h=some (d,h')->ypD K W d h' Q->r vs W.H Q
def yiT (K:Ck) (T:String) (c:PV->AH->Bool) (r:V->List V->Hp->VK->Prop) (p:PM):Prop :=
 (∀ (W:Wd) (x:PV) (v:V),WOk K W->ycN K W x v->c x W.h=true->tyV K.K T v W.H) /\
 ∀ (W:Wd) (x:PV) (v:V) (xs:List PV) (vs:List V) (Q:VK) (z:PV) (h':AH),WOk K W->ycN K W x v->ycI K W xs vs->p x xs W.h=some (z,h')->(∀ w W',W'.h=h'->Le K W W'->ycN K W' z w->Q w W'.H)->r v vs W.H Q
theorem yxS (i:Nat):ybX K (yqh i) (ye i):=by
 intro W0 W ρ Z Q x h' g e q;unfold ye at e;split at e
 .rename_i y hy;cases e;obtain ⟨v,h1,h2⟩:=g.val i _ hy;exact ⟨v,h1,q v W rfl (.refl g.ok) h2⟩
 .cases e
theorem ypE {v:V}{x:PV}(h:∀ W,ycN K W x v):ybX K (tC v) (xC x):=by intro b W ρ Z Q y h' g e q;cases e;exact q v W rfl (.refl g.ok) (h W)
theorem yqW {i:Int}:ybX K (tC (.int i)) (xC (.int i)):=ypE fun _=>rfl
theorem yqX {i:Str}:ybX K (tC (.str i)) (xC (.str i)):=ypE fun _=>rfl
theorem yAO {i:Bool}:ybX K (tC (.bl i)) (xC (.bl i)):=ypE fun _=>rfl
theorem yxT:ybX K (tC .non) (xC .non):=ypE fun _=>rfl
theorem yAP {n:String}:ybX K (tC (.ty n)) (xC (.ty n)):=ypE fun _=>rfl
theorem yxU {k:Nat}:ybX K (tC (.ref (K.A k))) (xC (.cls k)):=ypE fun _=>rfl
section
variable {ta tb tc:TE}{ea eb ec:XE}{t:TA}{e:XA}
theorem yoq {r:R2}{p:P2}(o:yco K r p) (a:ybX K ta ea) (b:ybX K tb eb):ybX K (tOp r ta tb) (xOp p ea eb):=by
 intro h W ρ Z Q z h' g e q;obtain ⟨x,h1,A,D⟩:=yj e;obtain ⟨y,h2,l,E⟩:=yj D;refine a h W ρ Z _ x h1 g A fun v F j f m=>?_
 subst j;refine b h F ρ Z _ y h2 (g.step f) l fun u s k d r2=>?_
 subst k;exact o s x y v u Q z h' d.ok (d.rep m) r2 E fun w B C i n=>q w B C (f.trans (d.trans i)) n
theorem ygD {W b:Wd}{d:Nd}{h':AH}{Q:VK}(l:Le K W b) (q:ypD K W d h' Q):ypD K b d h' Q:=fun p c e l' n f=>q p c e (l.trans l') n (l.fresh f)
theorem yxV {r:R2}{p:P2O}(o:yop K r p) (a:ybX K ta ea) (b:ybX K tb eb):ymH K (tOp r ta tb) (ynm p ea eb):=by
 intro W0 W ρ Z Q z h' g e q;obtain ⟨x,h1,e1,f1⟩:=yj e;obtain ⟨y,h2,e2,f2⟩:=yj f1;refine a W0 W ρ Z _ x h1 g e1 fun v W1 w1 l1 r1=>?_
 subst w1;refine b W0 W1 ρ Z _ y h2 (g.step l1) e2 fun u W2 w2 l2 r2=>?_
 subst w2;exact o W2 x y v u Q z h' l2.ok (l2.rep r1) r2 f2 (ygD (l1.trans l2) q)
theorem yAQ {r} {p} (o:yxR K r p) (a:ybX K ta ea):ybX K (tUn r ta) (xUn p ea):=by
 intro i W ρ Z Q z h' g e q;obtain ⟨x,h1,s,m⟩:=yj e;refine a i W ρ Z _ x h1 g s fun v k n c d=>?_
 subst n;exact o k x v Q z h' c.ok d m fun w f h j l=>q w f h (c.trans j) l
theorem yjX {x:PV}{h:AH}{k:Bool}{h':AH}(e:oB x h=some (k,h')):x=.bl k/\h'=h:=by unfold oB at e;grind
theorem ylO {r s:R2}{p D:P2}(o:yco K r p) (X:yco K s D) (a:ybX K ta ea) (b:ybX K tb eb) (c:ybX K tc ec):ybX K (yqD r s ta tb tc) (yei p D ea eb ec):=by
 intro m W ρ d Q z h' g e q;obtain ⟨x,h1,T,F⟩:=yj e;obtain ⟨y,h2,e2,f2⟩:=yj F;obtain ⟨z',h3,e3,f3⟩:=yj f2;obtain ⟨k,I,j,i⟩:=yj f3;obtain ⟨rfl,rfl⟩:=yjX j;refine a m W ρ d _ x h1 g T fun v W1 G C J=>?_
 subst G;refine b m W1 ρ d _ y h2 (g.step C) e2 fun u O H h r2=>?_
 subst H;refine o O x y v u _ _ _ h.ok (h.rep J) r2 e3 fun w n R A N=>⟨k,N,?_⟩
 subst R;have l:=C.trans (h.trans A);cases k with
 | false =>
  rw [if_neg (by decide)] at i ⊢;cases i;exact q _ n rfl l rfl
 | true =>
  obtain ⟨B,S,Z,M⟩:=yj i;refine c m n ρ d _ B S (g.step l) Z fun Y P w4 f r4=>?_
  subst w4;exact X P y B u Y Q z h' f.ok ((A.trans f).rep r2) r4 M fun w W5 E L U=>q w W5 E (l.trans (f.trans L)) U
theorem yhD (a:ybX K ta ea):ymF K (yxA ta) (yn ea):=by intro d W ρ Z Q k h' g e q;obtain ⟨x,h1,l,i⟩:=yj e;obtain ⟨rfl,rfl⟩:=yjX i;exact a d W ρ Z _ _ _ g l fun v f j h c=>⟨k,c,q f j h⟩
theorem yAR (a:ybX K ta ea):ymF K (tB ta) (yn ea):=yhD a
theorem yuj (a:ybX K ta ea) (b:ybX K tb eb):ybX K (yAq ta tb) (yfW ea eb):=by
 intro i W ρ Z Q z h' g e q;obtain ⟨x,h1,u,p⟩:=yj e;obtain ⟨k,n,f,h⟩:=yj p;obtain ⟨rfl,rfl⟩:=yjX f;refine a i W ρ Z _ _ _ g u fun v j r d l=>⟨k,l,?_⟩
 subst r;cases k with
 | false =>
  cases h;exact q _ j rfl d rfl
 | true =>
  exact b i j ρ Z _ z h' (g.step d) h fun v o s m r2=>q v o s (d.trans m) r2
theorem yuk (a:ybX K ta ea):ybX K (yAr ta) (yuh ea):=by intro W0 W ρ Z Q z h' g e q;obtain ⟨x,h1,e1,f1⟩:=yj e;obtain ⟨k,h1',e1',f2⟩:=yj f1;obtain ⟨rfl,rfl⟩:=yjX e1';cases f2;exact a W0 W ρ Z _ _ _ g e1 fun v W1 w1 l1 r1=>⟨k,r1,q _ W1 w1 l1 rfl⟩
section
variable {tA tB':TT}{eA eB:XT}
theorem yxW (a:ymF K tA eA) (b:ymF K tB' eB):ymF K (yFf tA tB') (yui eA eB):=by
 intro d W ρ Z Q z h' g e q;obtain ⟨k,h1,l,m⟩:=yj e;refine a d W ρ Z _ _ _ g l fun j n f=>?_
 subst n;cases k with
 | false =>
  grind
 | true =>
  exact b d j ρ Z _ z h' (g.step f) m fun i o h=>q i o (f.trans h)
theorem yAS (a:ymF K tA eA) (b:ymF K tB' eB):ymF K (tOr tA tB') (xOr eA eB):=by
 intro d W ρ Z Q z h' g e q;obtain ⟨k,h1,l,m⟩:=yj e;refine a d W ρ Z _ _ _ g l fun j n f=>?_
 subst n;cases k with
 | true =>
  grind
 | false =>
  exact b d j ρ Z _ z h' (g.step f) m fun i o h=>q i o (f.trans h)
theorem yxX (a:ymF K tA eA):ymF K (yDn tA) (yfE eA):=by intro W0 W ρ Z Q z h' g e q;obtain ⟨k,h1,e1,f1⟩:=yj e;cases f1;exact a W0 W ρ Z _ _ _ g e1 fun W1 w1 l1=>q W1 w1 l1
theorem yAT (c:ymF K tA eA) (a:ybX K ta ea) (b:ybX K tb eb):ybX K (tIf tA ta tb) (xIf eA ea eb):=by
 intro j W ρ Z Q z h' g e q;obtain ⟨k,h1,o,m⟩:=yj e;refine c j W ρ Z _ _ _ g o fun n p f=>?_
 subst p;cases k with
 | true =>
  exact a j n ρ Z _ z h' (g.step f) m fun v i l h r2=>q v i l (f.trans h) r2
 | false =>
  exact b j n ρ Z _ z h' (g.step f) m fun v i l h r2=>q v i l (f.trans h) r2
end
theorem yjY:ymG K ywv yi:=by intro b W ρ Z Q z h' g e q;cases e;exact q [] W rfl (.refl g.ok) rfl
theorem yul (a:ybX K ta ea) (r:ymG K t e):ymG K (ymR ta t) (yc ea e):=by
 intro W0 W ρ Z Q z h' g e q;obtain ⟨x,h1,e1,f1⟩:=yj e;obtain ⟨xs,h2,e2,f2⟩:=yj f1;cases f2;refine a W0 W ρ Z _ x h1 g e1 fun v W1 w1 l1 r1=>?_
 subst w1;exact r W0 W1 ρ Z _ xs _ (g.step l1) e2 fun vs W2 w2 l2 r2=>q (v::vs) W2 w2 (l1.trans l2) ⟨v,vs,rfl,l2.rep r1,r2⟩
def yxY (W:Wd) (p:Addr) (o:HO):Wd:=⟨upd W.F p o,upd W.H p o,W.m,W.h⟩
theorem yqY {W:Wd}{p:Addr}{o:HO}(w:WOk K W) (h:W.H p=none):Le K W (yxY W p o):=by
 have k:=w.out h;have q:=w.ff h;have m:=ydR q o;refine ⟨⟨?_,w.len,w.nd,fun n d a i g=>?_⟩,m,prefix_refl _,fun b u e _=>ydR h o b u e,fun b u e _ f=>?_,fun b z n=>absurd z n,fun n ks xs i=>⟨i,fun a g=>yO fun z=>k (z ▸ mem_of_getElem? g)⟩⟩
 .intro b u e;show upd W.H p o b=some u
  by_cases j:b=p
  .subst j;rw [show (yxY W b o).F b=upd W.F b o b from rfl,yK] at e;rw [yK];exact e
  .rw [show (yxY W p o).F b=upd W.F p o b from rfl,yO j] at e;rw [yO j];exact w.le _ _ e
 .have l:a≠p:=fun z=>k (z ▸ mem_of_getElem? g)
  exact (w.at_ n d a i g).mono m (prefix_refl _) (fun u e=>by rw [show (yxY W p o).H a=upd W.H p o a from rfl,yO l];exact e) fun f=>(yO l).trans f
 .have:=ybB e h
  rw [show (yxY W p o).F b=upd W.F p o b from rfl,yO this];exact f
def yhE (W:Wd) (p:Addr) (o:HO):Wd:=⟨W.F,upd W.H p o,W.m,W.h⟩
theorem ycQ {W:Wd}{p:Addr}{o:HO}(w:WOk K W) (h:W.H p=none):Le K W (yhE W p o):=by
 have j:=w.out h;refine ⟨⟨?_,w.len,w.nd,fun n d a g i=>?_⟩,Same.refl _,prefix_refl _,fun b u e _=>ydR h o b u e,fun b u e _ f=>f,fun b z n=>absurd z n,fun n ks xs g=>⟨g,fun a i=>yO fun z=>j (z ▸ mem_of_getElem? i)⟩⟩
 .exact fun b u e=>ydR h o b u (w.le _ _ e)
 .exact (w.at_ n d a g i).mono (Same.refl _) (prefix_refl _) (fun u e=>ydR h o _ _ e) id
theorem small {n:Nat}(h:n<=1000):n<=sizeLine:=le_of_lt (ylv h)
theorem yxZ (a:ymG K t e):ybX K (yFp t) (ygz e):=by
 intro i W ρ Z Q z h' g e q;obtain ⟨xs,h1,l,c⟩:=yj e;split at c
 .rename_i hl;cases c;refine a i W ρ Z _ xs _ g l fun vs j k f d=>⟨small (by rw [d.len];exact hl),fun p hp=>?_⟩
  have h:=yqY (o:=.tup vs) f.ok hp;exact q _ (yxY j p _) k (f.trans h) ⟨p,vs,rfl,.inl yK,h.repL d⟩
 .cases c
theorem yya (a:ymG K t e):ymH K (yFq t) (yeg e):=by
 intro l W ρ Z Q z h' g e q;obtain ⟨xs,h1,j,d⟩:=yj e;split at d
 .rename_i hl;cases d;refine a l W ρ Z _ xs _ g j fun vs h k c f=>⟨small (by rw [f.len];exact hl),fun p hp=>?_⟩
  have i:=ycQ (o:=.lst vs) c.ok hp;exact q p (yhE h p _) k (c.trans i) (c.ok.out hp) (c.fresh hp) (fun z=>by cases z) ⟨c.ok.ff hp,vs,yK,f⟩
 .cases d
def yum (W:Wd) (p:Addr) (o:HO):Wd:=⟨upd W.F p o,W.H,W.m,W.h⟩
theorem yqZ {W:Wd}{p:Addr}{o:HO}(w:WOk K W) (h:W.H p=some o) (l:p∉W.m) (m:W.F p=none):WOk K (yum W p o)/\Same W.F (upd W.F p o):=by
 have i:=ydR m o;refine ⟨⟨?_,w.len,w.nd,fun n d a q j=>?_⟩,i⟩
 .intro b u e
  by_cases g:b=p
  .subst g;rw [show (yum W b o).F b=upd W.F b o b from rfl,yK] at e;cases e;exact h
  .rw [show (yum W p o).F b=upd W.F p o b from rfl,yO g] at e;exact w.le _ _ e
 .have k:a≠p:=fun z=>l (z ▸ mem_of_getElem? j)
  exact (w.at_ n d a q j).mono i (prefix_refl _) (fun u e=>e) fun f=>(yO k).trans f
theorem ynn {W c:Wd}{p:Addr}{o:HO}(l:Le K W c) (h:c.H p=some o) (j:p∉c.m) (g:c.F p=none) (d:W.H p=none):Le K W (yum c p o):=by obtain ⟨k,i⟩:=yqZ l.ok h j g;refine ⟨k,l.fs.trans i,l.pre,l.keep,fun b u e n f=>?_,l.mn,l.fz⟩;have:=ybB e d;rw [show (yum c p o).F b=upd c.F p o b from rfl,yO this];exact l.new b u e n f
theorem ywB {o:XO}(a:ymH K ta o):ybX K ta (xFz o):=by
 intro u W ρ Z Q z h' g e q;obtain ⟨d,h1,v,h⟩:=yj e;refine a u W ρ Z _ d h1 g v fun p l m k n j w f=>?_
 split at h
 .cases h;obtain ⟨c,vs,hp,r⟩:=f;have i:=ynn k hp n c j;exact q _ (yum l p _) m i ⟨p,vs,rfl,yK,RepL.mono (ydR c _) (prefix_refl _) _ _ r⟩
 .cases h;obtain ⟨c,s,vs,hp,hl,r⟩:=f;have i:=ynn k hp n c j;exact q _ (yum l p _) m i ⟨p,s,vs,rfl,yK,hl,RepL.mono (ydR c _) (prefix_refl _) _ _ r⟩
 .cases h
theorem yyb {o:XO}(a:ymH K ta o):ybX K ta (yiQ o):=by
 intro W0 W ρ Z Q z h' g e q;obtain ⟨d,h1,e1,f1⟩:=yj e;cases f1;refine a W0 W ρ Z _ d h1 g e1 fun p W1 w1 l1 hm hn hd at_=>?_
 subst w1;have pre:W1.m <+: W1.m++[p]:=List.prefix_append _ _;refine q (.ref p) ⟨W1.F,W1.H,W1.m++[p],W1.h++[d]⟩ rfl ⟨⟨l1.ok.le,?_,?_,fun n d' a e1 e2=>?_⟩,l1.fs,l1.pre.trans pre,l1.keep,l1.new,fun b z n=>?_,fun n ks xs e1=>⟨by have:=(l1.fz n ks xs e1).1;show (W1.h++[d])[n]?=_;rw [getElem?_append_left (List.getElem?_eq_some_iff.mp this).1];exact this,(l1.fz n ks xs e1).2⟩⟩ ⟨p,rfl,?_⟩
 .show (W1.m++[p]).length=(W1.h++[d]).length;rw [length_append,length_append,l1.ok.len];rfl
 .show (W1.m++[p]).Nodup;rw [List.nodup_append];refine ⟨l1.ok.nd,by simp,?_⟩;intro a ha b hb;simp at hb;subst hb;exact fun z=>hm (z ▸ ha)
 .have e1:(W1.h++[d])[n]?=some d':=e1;have e2:(W1.m++[p])[n]?=some a:=e2
  by_cases hlt:n<W1.h.length
  .rw [getElem?_append_left hlt] at e1;rw [getElem?_append_left (by rw [l1.ok.len];exact hlt)] at e2;exact (l1.ok.at_ n d' a e1 e2).mono (Same.refl _) pre (fun _ f1=>f1) id
  .rw [getElem?_append_right (by omega)] at e1;rw [getElem?_append_right (by rw [l1.ok.len];omega)] at e2;rw [l1.ok.len] at e2;cases hk:n-W1.h.length with
   | zero =>
    rw [hk] at e1 e2;simp at e1 e2;subst e1 e2;exact at_.mono (Same.refl _) pre (fun _ f1=>f1) id
   | succ k=>rw [hk] at e1;simp at e1
 .have z:b∈W1.m++[p]:=z;rcases List.mem_append.mp z with z|z
  .exact l1.mn b z n
  .simp at z;subst z;exact hn
 .show (W1.m++[p])[W1.h.length]?=some p;rw [<- l1.ok.len];simp
noncomputable def spE (K:Ck) (n:Nat) (f:Fn):Sp:=fun vs H Q _=>∃ (W:Wd) (xs:List PV) (x:PV) (h':AH),W.H=H/\WOk K W/\ycI K W xs vs/\xs.length=n/\f xs W.h=some (x,h')/\∀ v W',W'.h=h'->Le K W W'->ycN K W' x v->Q v W'.H
theorem yun {n:Nat}{f:Fn}{r:XK}(a:ymG K t e) (l:∀ ρ h xs h',e ρ h=some (xs,h')->xs.length=n):ybX K (ytV (spE K n f) [] r t) (yT f e):=by
 intro o W ρ Z Q z h' g j q;obtain ⟨xs,h1,d,m⟩:=yj j;refine a o W ρ Z _ xs h1 g d fun vs p s c i=>?_
 subst s;rw [append_nil];exact ⟨p,xs,z,h',rfl,c.ok,i,l _ _ _ _ d,m,fun v w u k r2=>q v w u (c.trans k) r2⟩
theorem yno:∀ ρ h xs h',yi ρ h=some (xs,h')->xs.length=0:=fun ρ h xs h' e=>by cases e;rfl
theorem yuo {n:Nat}(l:∀ ρ h xs h',e ρ h=some (xs,h')->xs.length=n):∀ ρ h xs h',yc ea e ρ h=some (xs,h')->xs.length=n+1:=fun ρ h xs h' q=>by obtain ⟨x,h1,c,q⟩:=yj q;obtain ⟨ys,h2,b,q⟩:=yj q;grind
theorem ywC {r} {p} (o:yhS K r p) (a:ymG K t e):ybX K (tCB r t) (xCB p e):=by
 intro j W ρ Z Q z h' g f q;obtain ⟨xs,h1,h,i⟩:=yj f;refine a j W ρ Z _ xs h1 g h fun vs k m c d=>?_
 subst m;exact o k xs vs Q z h' c.ok d i fun v s n l r2=>q v s n (c.trans l) r2
theorem yyc {r} {p} (o:yqV K r p) (a:ymG K t e):ymH K (tCB r t) (ygA p e):=by
 intro h W ρ Z Q z h' g j q;obtain ⟨xs,h1,l,f⟩:=yj j;refine a h W ρ Z _ xs h1 g l fun vs i k c d=>?_
 subst k;exact o i xs vs Q z h' c.ok d f (ygD c q)
theorem ywD {T:String}{c} {r} {p} (o:yiT K T c r p) (b:ybX K ta ea) (a:ymG K t e):ybX K (tBM K.K T r ta t) (xBM c p ea e):=by
 intro l W ρ Z Q z h' g n q;obtain ⟨x,h1,A,i⟩:=yj n;split at i
 .rename_i D;obtain ⟨xs,h2,G,F⟩:=yj i;refine b l W ρ Z _ x h1 g A fun v m k f j=>⟨o.1 m x v f.ok j (by rw [k];exact D),?_⟩
  subst k;refine a l m ρ Z _ xs h2 (g.step f) G fun vs y E h r2=>?_
  subst E;exact o.2 y x v xs vs Q z h' h.ok (h.rep j) r2 F fun w B C s u=>q w B C (f.trans (h.trans s)) u
 .cases i
theorem yyd {T:String}{c} {r} {p} (o:yiT K T c r p) (b:ybX K ta ea):ybX K (yDC K.K T r ta) (xBM c p ea yi):=ywD o b yjY
end
def yzX (K:Ck) (t:TO) (e:PSt->AH->Option (Option Int×AH)):Prop:=∀ (W0 W:Wd) (ρ:PSt) (Z:St) (Q:Option Int->Hp->Prop) (x:Option Int) (h':AH),Good K W0 W ρ Z->e ρ W.h=some (x,h') ->
 (∀ W',W'.h=h'->Le K W W'->Q x W'.H)->t Z W.H Q
theorem ypF:yzX K yqJ yhR:=by intro b W ρ Z Q z h' g e q;cases e;exact q W rfl (.refl g.ok)
theorem yup {ta:TE}{ea:XE}(a:ybX K ta ea):yzX K (yAG ta) (ygC ea):=by
 intro W0 W ρ Z Q z h' g e q;obtain ⟨x,h1,e1,f1⟩:=yj e;split at f1
 .rename_i i;cases f1;exact a W0 W ρ Z _ _ _ g e1 fun v W1 w1 l1 r1=>⟨i,r1,q W1 w1 l1⟩
 .cases f1
def yor (K:Ck) (r:V->Option Int->Option Int->Hp->VK->Prop) (p:PV->Option Int->Option Int->AH->Option (Nd×AH)):Prop:=∀ (W:Wd) (x:PV) (v:V) (lo hi:Option Int) (Q:VK) (d:Nd) (h':AH),WOk K W->ycN K W x v->p x lo hi W.h=some (d,h')->ypD K W d h' Q->r v lo hi W.H Q
theorem yra {r} {p} {ta:TE}{ea:XE}{tl th:TO}{el eh} (o:yor K r p) (a:ybX K ta ea) (b:yzX K tl el) (c:yzX K th eh):ymH K (tSl r ta tl th) (ytz p ea el eh):=by
 intro W0 W ρ Z Q z h' g e q;obtain ⟨x,h1,e1,f1⟩:=yj e;obtain ⟨l,h2,e2,f2⟩:=yj f1;obtain ⟨u,h3,e3,f3⟩:=yj f2;refine a W0 W ρ Z _ x h1 g e1 fun v W1 w1 l1 r1=>?_
 subst w1;refine b W0 W1 ρ Z _ l h2 (g.step l1) e2 fun W2 w2 l2=>?_
 subst w2;refine c W0 W2 ρ Z _ u h3 (g.step (l1.trans l2)) e3 fun W3 w3 l3=>?_
 subst w3;exact o W3 x v l u Q z h' l3.ok ((l2.trans l3).rep r1) f3 (ygD (l1.trans (l2.trans l3)) q)
end PX
namespace PX
open PySem L2
variable {K:Ck}
def yM:XS:=fun ρ h=>some (.nx ρ,h)
noncomputable def yl (s u:XS):XS:=fun ρ h=>ob (s ρ h) fun o h1=>match o with|.nx ρ'=>u ρ' h1|.rt x=>some (.rt x,h1)|.bk ρ'=>some (.bk ρ',h1)|.ct ρ'=>some (.ct ρ',h1)
def ybk (e:XE):XS:=fun ρ h=>ob (e ρ h) fun _ h1=>some (.nx ρ,h1)
def yN (e:XE):XS:=fun ρ h=>ob (e ρ h) fun x h1=>some (.rt x,h1)
noncomputable def ybr (c:XT) (s u:XS):XS:=fun ρ h=>ob (c ρ h) fun k h1=>if k=true then s ρ h1 else u ρ h1
abbrev XG:=PV->PSt->Option PSt
noncomputable abbrev XGs:=List PV->PSt->Option PSt
noncomputable def yr (i:Nat):XG:=fun x ρ=>some (ρ.set i (.val x))
def ywE:XGs:=fun xs ρ=>match xs with|[]=>some ρ|_=>none
noncomputable def yfX (g:XG) (r:XGs):XGs:=fun xs ρ=>match xs with|[]=>none|x::xs=>(g x ρ).bind fun ρ'=>r xs ρ'
noncomputable def yuq (n:Nat) (g:XGs):XG:=fun x ρ=>match x with|.tup xs=>if xs.length=n then g xs ρ else none|_=>none
noncomputable def ybL (e:XE) (g:XG):XS:=fun ρ h=>ob (e ρ h) fun x h1=>(g x ρ).bind fun ρ'=>some (.nx ρ',h1)
noncomputable def yhT (e:XO) (i:Nat):XS:=fun ρ h=>ob (e ρ h) fun d h1=>some (.nx (ρ.set i (.own d)),h1)
noncomputable def yur:PVar->PVar
 | .own (.lst xs)=>.val (.lst xs)
 | .own (.ins k ns xs)=>.val (.ins k ns xs)
 | v=>v
def ynp (i:Nat) (ρ:PSt):PSt:=ρ.modify i yur
def ytA (i:Nat) (s:XS):XS:=fun ρ h=>s (ynp i ρ) h
noncomputable def yhm (i:Nat) (e:XE):XS:=fun ρ h=>match ρ[i]? with
 | some (.own (.lst xs))=>ob (e ρ h) fun x h1=>if xs.length<100000 then some (.nx (ρ.set i (.own (.lst (xs++[x])))),h1) else none
 | _=>none
noncomputable def yeR (g:XG) (s:XS):List PV->PSt->AH->Option (Out×AH)
 | [],ρ,h=>some (.nx ρ,h)
 | x::xs,ρ,h=>(g x ρ).bind fun ρ1=>ob (s ρ1 h) fun o h1=>match o with|.nx ρ'=>yeR g s xs ρ' h1|.ct ρ'=>yeR g s xs ρ' h1|.bk ρ'=>some (.nx ρ',h1)|.rt y=>some (.rt y,h1)
noncomputable def yhF (it:XA) (g:XG) (s:XS):XS:=fun ρ h=>ob (it ρ h) fun xs h1=>yeR g s xs ρ h1
noncomputable def whl (c:XT) (s:XS):Nat->PSt->AH->Option (Out×AH)
 | 0,_,_=>none
 | n+1,ρ,h=>ob (c ρ h) fun k h1=>if k=true then ob (s ρ h1) fun o h2=>(match o with|.nx ρ'=>whl c s n ρ' h2|.ct ρ'=>whl c s n ρ' h2|.bk ρ'=>some (.nx ρ',h2)|.rt y=>some (.rt y,h2)) else some (.nx ρ,h1)
def yfs (fuel:Nat) (c:XT) (s:XS):XS:=fun ρ h=>whl c s fuel ρ h
noncomputable def ybs (N:Nat) (s:XS):Fn:=fun xs h=>ob (s (xs.map .val++replicate (N-xs.length) .no) h) fun o h1=>match o with|.rt x=>some (x,h1)|.nx _=>some (.non,h1)|_=>none
noncomputable def yye (ρ:PSt) (i:Nat):PVar:=match ρ[i]? with|some (.val y)=>.val y|_=>.no
def ygW (ix:List Nat) (ρ:PSt) (x:PV):PSt:=.val x::ix.map (yye ρ)
noncomputable def yjp (e:XE) (inn:PV->PSt):List PV->AH->Option (List PV×AH)
 | [],h=>some ([],h)
 | x::xs,h=>ob (e (inn x) h) fun y h1=>ob (yjp e inn xs h1) fun ys h2=>some (y::ys,h2)
noncomputable def yfY (it:XA) (ix:List Nat) (e:XE):XO:=fun ρ h=>ob (it ρ h) fun xs h1=>if xs.length<=100000 then ob (yjp e (ygW ix ρ) xs h1) fun ys h2=>some (.lst ys,h2) else none
theorem Ends.Ok.from_ {d W f:Wd}{D:Ends}{h':AH}{o:Out}(l:Lf K W f) (k:Ends.Ok K d W D h' o):Ends.Ok K d f D h' o:=by
 cases o with
 | nx ρ=>exact fun c b e l' g=>k c b e (l.trans l') g
 | bk ρ=>exact fun c b e l' g=>k c b e (l.trans l') g
 | ct ρ=>exact fun c b e l' g=>k c b e (l.trans l') g
 | rt x=>exact k
section
variable {ta tb:TE}{ea eb:XE}{t u:TS}{s s':XS}{tA:TT}{eA:XT}
theorem yus:yfr K yAv yM:=by intro a W ρ Z D o h' g e q;cases e;exact q W Z rfl .refl g
theorem yyf (a:yfr K t s) (b:yfr K u s'):yfr K (yDp t u) (yl s s'):=by
 intro h W ρ Z D o h' g e q;obtain ⟨o1,h1,i,d⟩:=yj e;refine a h W ρ Z _ o1 h1 g i ?_;cases o1 with
 | nx ρ'=>exact fun j f w l g'=>b h j ρ' f D o h' g' (by rw [w];exact d) (q.from_ l)
 | rt x=>cases d;exact q
 | bk ρ'=>cases d;exact q
 | ct ρ'=>cases d;exact q
theorem yut (a:ybX K ta ea):yfr K (yqr ta) (ybk ea):=by intro j W ρ Z D o h' g e q;obtain ⟨x,h1,d,i⟩:=yj e;cases i;exact a j W ρ Z _ x _ g d fun v f h c k=>q f Z h c.lf (g.step c)
theorem yyg (a:ybX K ta ea):yfr K (yFg ta) (yN ea):=by intro d W ρ Z D o h' g e q;obtain ⟨x,h1,k,i⟩:=yj e;cases i;exact a d W ρ Z _ x _ g k fun v f j h c=>q f v j (g.le.trans h) c
theorem yyh (c:ymF K tA eA) (a:yfr K t s) (b:yfr K u s'):yfr K (yFh tA t u) (ybr eA s s'):=by
 intro h W ρ Z D o h' g e q;obtain ⟨k,h1,l,j⟩:=yj e;refine c h W ρ Z _ k h1 g l fun i m f=>?_
 subst m;cases k with
 | true =>
  exact a h i ρ Z D o h' (g.step f) j (q.from_ f.lf)
 | false =>
  exact b h i ρ Z D o h' (g.step f) j (q.from_ f.lf)
theorem Good.set {W0 W:Wd}{ρ:PSt}{Z:St}(g:Good K W0 W ρ Z) (i:Nat) {x:PV}{v:V}(r:ycN K W x v):Good K W0 W (ρ.set i (.val x)) (Z.set i (some v)) where
 le:=g.le
 len:=by simp [g.len]
 val:=fun j y e=>by
  by_cases hj:i=j
  .subst hj
   by_cases hl:i<ρ.length
   .rw [getElem?_set_self hl] at e;cases e;exact ⟨v,getElem?_set_self (by rw [g.len];exact hl),r⟩
   .rw [getElem?_eq_none (by simp;omega)] at e;cases e
  .rw [getElem?_set_ne hj] at e;obtain ⟨w,h1,h2⟩:=g.val j y e;exact ⟨w,by rw [getElem?_set_ne hj];exact h1,h2⟩
 own:=fun j d e=>by
  by_cases hj:i=j
  .subst hj
   by_cases hl:i<ρ.length
   .rw [getElem?_set_self hl] at e;cases e
   .rw [getElem?_eq_none (by simp;omega)] at e;cases e
  .rw [getElem?_set_ne hj] at e;obtain ⟨p,h1,h2⟩:=g.own j d e;exact ⟨p,by rw [getElem?_set_ne hj];exact h1,h2⟩
 ne:=fun j k d d' hjk e1 e2=>by
  have f:∀ {j:Nat}{d:Nd},(ρ.set i (.val x))[j]?=some (.own d)->i≠j/\ρ[j]?=some (.own d):=fun {j d} e=>by
   by_cases hj:i=j
   .subst hj
    by_cases hl:i<ρ.length
    .rw [getElem?_set_self hl] at e;cases e
    .rw [getElem?_eq_none (by simp;omega)] at e;cases e
   .rw [getElem?_set_ne hj] at e;exact ⟨hj,e⟩
  obtain ⟨a1,a2⟩:=f e1;obtain ⟨b1,b2⟩:=f e2;rw [getElem?_set_ne a1,getElem?_set_ne b1];exact g.ne j k d d' hjk a2 b2
theorem Good.setO {W0 W:Wd}{ρ:PSt}{Z:St}(g:Good K W0 W ρ Z) (i:Nat) {d:Nd}{p:Addr}(hm:p∉W.m) (h0:W0.H p=none) (hd:d≠.dead) (at_:NdAt K W.F W.H W.m d p)
  (ne:∀ j d',i≠j->ρ[j]?=some (.own d')->Z[j]?≠some (some (.ref p))):Good K W0 W (ρ.set i (.own d)) (Z.set i (some (.ref p))) where
 le:=g.le
 len:=by simp [g.len]
 val:=fun j y e=>by
  by_cases hj:i=j
  .subst hj
   by_cases hl:i<ρ.length
   .rw [getElem?_set_self hl] at e;cases e
   .rw [getElem?_eq_none (by simp;omega)] at e;cases e
  .rw [getElem?_set_ne hj] at e;obtain ⟨w,h1,h2⟩:=g.val j y e;exact ⟨w,by rw [getElem?_set_ne hj];exact h1,h2⟩
 own:=fun j d' e=>by
  by_cases hj:i=j
  .subst hj
   by_cases hl:i<ρ.length
   .rw [getElem?_set_self hl] at e;cases e;exact ⟨p,getElem?_set_self (by rw [g.len];exact hl),hm,h0,hd,at_⟩
   .rw [getElem?_eq_none (by simp;omega)] at e;cases e
  .rw [getElem?_set_ne hj] at e;obtain ⟨p,h1,h2⟩:=g.own j d' e;exact ⟨p,by rw [getElem?_set_ne hj];exact h1,h2⟩
 ne:=fun j k d1 d2 hjk e1 e2=>by
  have self:∀ {j:Nat}{d':Nd},i=j->(ρ.set i (.own d))[j]?=some (.own d')->(Z.set i (some (.ref p)))[j]?=some (some (.ref p)):=fun {j d'} hj e=>by
   subst hj
   by_cases hl:i<ρ.length
   .exact getElem?_set_self (by rw [g.len];exact hl)
   .rw [getElem?_eq_none (by simp;omega)] at e;cases e
  by_cases hj:i=j
  .have hk:i≠k:=fun z=>hjk (hj.symm.trans z)
   rw [self hj e1,getElem?_set_ne hk];rw [getElem?_set_ne hk] at e2;exact (ne k d2 hk e2).symm
  .rw [getElem?_set_ne hj];rw [getElem?_set_ne hj] at e1
   by_cases hk:i=k
   .rw [self hk e2];exact ne j d1 hj e1
   .rw [getElem?_set_ne hk] at e2 ⊢;exact g.ne j k d1 d2 hjk e1 e2
def ytB (K:Ck) (g:TG) (y:XG):Prop:=∀ (W0 W:Wd) (ρ ρ':PSt) (Z:St) (x:PV) (v:V) (Q:St->Hp->Prop),Good K W0 W ρ Z->ycN K W x v->y x ρ=some ρ'->(∀ Z',Good K W0 W ρ' Z'->Q Z' W.H)->g v Z W.H Q
def ypG (K:Ck) (g:TGs) (y:XGs):Prop:=∀ (W0 W:Wd) (ρ ρ':PSt) (Z:St) (x:List PV) (v:List V) (Q:St->Hp->Prop),Good K W0 W ρ Z->ycI K W x v->y x ρ=some ρ'->(∀ Z',Good K W0 W ρ' Z'->Q Z' W.H)->g v Z W.H Q
theorem yhU i:ytB K (yqs i) (yr i):=by intro b W ρ ρ' Z x v Q g r e q;cases e;exact q _ (g.set i r)
theorem yuu:ypG K yFj ywE:=by
 intro W0 W ρ ρ' Z x v Q g r e q;cases x with
 | nil=>cases e;exact ⟨r,q _ g⟩
 | cons _ _=>cases e
theorem yrb {g:TG}{f:TGs}{y:XG}{ys:XGs}(a:ytB K g y) (b:ypG K f ys):ypG K (yAx g f) (yfX y ys):=by
 intro h W ρ ρ' Z x v Q j r e q;cases x with
 | nil=>cases e
 | cons x xs =>
  obtain ⟨v1,vs,rfl,i,r2⟩:=r;obtain ⟨ρ1,l,k⟩:=Option.bind_eq_some_iff.mp e;exact ⟨v1,vs,rfl,a h W ρ ρ1 Z x v1 _ j i l fun d g'=>b h W ρ1 ρ' d xs vs Q g' r2 k q⟩
theorem yuv {n:Nat}{gs:TGs}{ys:XGs}(b:ypG K gs ys):ytB K (yFk K.K n gs) (yuq n ys):=by
 intro W0 W ρ ρ' Z x v Q g r e q;unfold yuq at e;split at e
 .rename_i xs;split at e
  .rename_i hl;obtain ⟨a,vs,rfl,hs,rs⟩:=r;exact ⟨a,vs,rfl,(hs.elim (fun h=>SqT.of (g.ok.le _ _ h)) .inr),by rw [rs.len];exact hl,b W0 W ρ ρ' Z xs vs Q g rs e q⟩
  .cases e
 .cases e
theorem yrc {g:TG}{y:XG}(a:ybX K ta ea) (b:ytB K g y):yfr K (ywp ta g) (ybL ea y):=by intro W0 W ρ Z D o h' gd e q;obtain ⟨x,h1,e1,f1⟩:=yj e;obtain ⟨ρ',e2,f2⟩:=Option.bind_eq_some_iff.mp f1;cases f2;exact a W0 W ρ Z _ x _ gd e1 fun v W1 w1 l1 r1=>b W0 W1 ρ ρ' Z x v _ (gd.step l1) r1 e2 fun Z' g'=>q W1 Z' w1 l1.lf g'
theorem yuw {o:XO} i (a:ymH K ta o):yfr K (ywp ta (yqs i)) (yhT o i):=by
 intro l W ρ Z D o h' c e q;obtain ⟨d,h1,n,v⟩:=yj e;cases v;refine a l W ρ Z _ d _ c n fun p r w g h x m f=>q r _ w g.lf ((c.step g).setO i h (c.le.fresh x) m f fun j d' y e hs=>?_)
 obtain ⟨z,h1,h2,_,_,k⟩:=c.own j d' e;rw [h1] at hs;have ⟨o,A⟩:=k.some;grind
theorem Good.frz {W0 W:Wd}{ρ:PSt}{Z:St}(g:Good K W0 W ρ Z) (i:Nat):∃ W',W'.h=W.h/\W'.H=W.H/\Lf K W W'/\Good K W0 W' (ynp i ρ) Z:=by
 unfold ynp;cases e:ρ[i]? with
 | none=>exact ⟨W,rfl,rfl,.refl,by rw [List.modify_eq_self (by simpa using e)];exact g⟩
 | some v =>
  have hl:i<ρ.length:=(List.getElem?_eq_some_iff.mp e).1;have em:ρ.modify i yur=ρ.set i (yur v):=by
   apply List.ext_getElem?;intro j;rw [List.getElem?_modify,List.getElem?_set]
   by_cases hj:i=j
   .subst hj;obtain ⟨_,ev⟩:=List.getElem?_eq_some_iff.mp e;simp [hl,ev]
   .simp [hj]
  have same:yur v=v->∃ W',W'.h=W.h/\W'.H=W.H/\Lf K W W'/\Good K W0 W' (ρ.modify i yur) Z:=fun z=>⟨W,rfl,rfl,.refl,by
   rw [em,z];have:ρ.set i v=ρ:=by
    apply List.ext_getElem?;intro j
    by_cases hj:i=j
    .subst hj;rw [getElem?_set_self hl,e]
    .rw [getElem?_set_ne hj]
   rw [this];exact g⟩
  have go:∀ (d:Nd) (x:PV) (p:Addr) (o:HO),v=.own d->yur v=.val x->Z[i]?=some (some (.ref p))->p∉W.m->W0.H p=none->W.H p=some o->W.F p=none->(∀ (F':Hp),Same W.F F'->F' p=some o->Rep K F' W.m x (.ref p)) ->
    ∃ W',W'.h=W.h/\W'.H=W.H/\Lf K W W'/\Good K W0 W' (ρ.modify i yur) Z:=fun d x p o hv hx hs hm h0 hp hf hr=>by
   obtain ⟨k,sF⟩:=yqZ (K:=K) g.ok hp hm hf;have lf:Lf K W (yum W p o):=⟨sF,prefix_refl _,fun _ _ _ e=>⟨e,fun _ _=>rfl⟩⟩
   refine ⟨yum W p o,rfl,rfl,lf,⟨ynn g.le hp hm hf h0,by rw [List.length_modify];exact g.len,fun j y e'=>?_,fun j d' e'=>?_,fun j1 j2 d1 d2 hj e1 e2=>?_⟩⟩
   .rw [em,hx] at e'
    by_cases hj:i=j
    .subst hj;rw [getElem?_set_self hl] at e';cases e';exact ⟨_,hs,hr _ sF yK⟩
    .rw [getElem?_set_ne hj] at e';obtain ⟨w,a1,a2⟩:=g.val j y e';exact ⟨w,a1,lf.rep a2⟩
   .rw [em,hx] at e'
    by_cases hj:i=j
    .subst hj;rw [getElem?_set_self hl] at e';cases e'
    .rw [getElem?_set_ne hj] at e';obtain ⟨q,a1,a2,a3,a4,a5⟩:=g.own j d' e';have hq:q≠p:=fun z=>g.ne j i d' d (fun z=>hj z.symm) e' (hv ▸ e) (by rw [a1,hs,z])
     exact ⟨q,a1,a2,a3,a4,a5.mono sF (prefix_refl _) (fun _ e=>e) fun f=>(yO hq).trans f⟩
   .rw [em,hx] at e1 e2;have f:∀ {j:Nat}{d:Nd},(ρ.set i (.val x))[j]?=some (.own d)->ρ[j]?=some (.own d):=fun {j d} e=>by
     by_cases hj:i=j
     .subst hj;rw [getElem?_set_self hl] at e;cases e
     .rw [getElem?_set_ne hj] at e;exact e
    exact g.ne j1 j2 d1 d2 hj (f e1) (f e2)
  cases v with
  | no=>exact same rfl
  | val x=>exact same rfl
  | own d =>
   obtain ⟨p,a1,a2,a3,a4,a5⟩:=g.own i d e;cases d with
   | lst xs =>
    obtain ⟨hf,vs,hp,r⟩:=a5;exact go _ (.lst xs) p _ rfl rfl a1 a2 a3 hp hf fun F' s hF=>⟨p,vs,rfl,hF,RepL.mono s (prefix_refl _) _ _ r⟩
   | dct ks xs=>exact same rfl
   | fz ks xs=>exact same rfl
   | ins k ns xs =>
    obtain ⟨hf,dx,vs,hp,hl,r⟩:=a5;exact go _ (.ins k ns xs) p _ rfl rfl a1 a2 a3 hp hf fun F' s hF=>⟨p,dx,vs,rfl,hF,hl,RepL.mono s (prefix_refl _) _ _ r⟩
   | dead=>exact same rfl
theorem yyi i (a:yfr K t s):yfr K t (ytA i s):=by intro d W ρ Z D o h' g e q;obtain ⟨h,f,c,l,g'⟩:=g.frz i;rw [<- c];exact a d h _ Z D o h' g' (by rw [f];exact e) (q.from_ l)
end
end PX
namespace PX
open PySem L2
variable {K:Ck}
section
variable {ta tb:TE}{ea eb:XE}{t u:TS}{s s':XS}{tA:TT}{eA:XT}
def yux (W:Wd) (p:Addr) (o:HO):Wd:=⟨W.F,upd W.H p o,W.m,W.h⟩
theorem yyj {W:Wd}{p:Addr}{o:HO}(w:WOk K W) (h:p∉W.m) (j:W.F p=none):WOk K (yux W p o):=by
 refine ⟨fun b u e=>?_,w.len,w.nd,fun n d a g f=>?_⟩
 .have:=ybB e j
  exact (yO this).trans (w.le _ _ e)
 .have i:a≠p:=fun z=>h (z ▸ mem_of_getElem? f)
  exact (w.at_ n d a g f).mono (Same.refl _) (prefix_refl _) (fun u e=>(yO i).trans e) id
theorem yjZ {W d:Wd}{p:Addr}{o:HO}(l:Le K W d) (g:p∉d.m) (i:d.F p=none) (j:W.H p=none):Le K W (yux d p o) :=
 ⟨yyj l.ok g i,l.fs,l.pre,fun b u e n=>(yO (ybB e j)).trans (l.keep b u e n),l.new,l.mn,fun n ks xs f=>⟨(l.fz n ks xs f).1,fun a h=>(yO fun (z:a=p)=>g (z ▸ mem_of_getElem? (yet l.pre h))).trans ((l.fz n ks xs f).2 a h)⟩⟩
theorem yrd {W c:Wd}{p:Addr}{o:HO}(l:Le K W c) (f:p∉c.m):Lf K W (yux c p o) :=
 ⟨l.fs,l.pre,fun n ks xs e=>⟨(l.fz n ks xs e).1,fun a d=>(yO fun (z:a=p)=>f (z ▸ mem_of_getElem? (yet l.pre d))).trans ((l.fz n ks xs e).2 a d)⟩⟩
theorem Good.mut {W0 W:Wd}{ρ:PSt}{Z:St}(g:Good K W0 W ρ Z) {i:Nat}{d d':Nd}{p:Addr}{o:HO}(e:ρ[i]?=some (.own d)) (hs:Z[i]?=some (some (.ref p))) (hm:p∉W.m) (h0:W0.H p=none) (hf:W.F p=none) (hd:d'≠.dead)
  (at_:NdAt K W.F (upd W.H p o) W.m d' p):Good K W0 (yux W p o) (ρ.set i (.own d')) Z:=by
 have hl:i<ρ.length:=(List.getElem?_eq_some_iff.mp e).1;refine ⟨yjZ g.le hm hf h0,by rw [length_set];exact g.len,fun j y e'=>?_,fun j d1 e'=>?_,fun j1 j2 d1 d2 hj e1 e2=>?_⟩
 .by_cases hj:i=j
  .subst hj;rw [getElem?_set_self hl] at e';cases e'
  .rw [getElem?_set_ne hj] at e';exact g.val j y e'
 .by_cases hj:i=j
  .subst hj;rw [getElem?_set_self hl] at e';cases e';exact ⟨p,hs,hm,h0,hd,at_⟩
  .rw [getElem?_set_ne hj] at e';obtain ⟨q,a1,a2,a3,a4,a5⟩:=g.own j d1 e';have hq:q≠p:=fun z=>g.ne j i d1 d (fun z=>hj z.symm) e' e (by rw [a1,hs,z])
   exact ⟨q,a1,a2,a3,a4,a5.mono (Same.refl _) (prefix_refl _) (fun u e=>(yO hq).trans e) id⟩
 .have f:∀ {j:Nat}{d1:Nd},(ρ.set i (.own d'))[j]?=some (.own d1)->∃ d2,ρ[j]?=some (.own d2):=fun {j d1} e'=>by
   by_cases hj:i=j
   .subst hj;exact ⟨d,e⟩
   .rw [getElem?_set_ne hj] at e';exact ⟨_,e'⟩
  obtain ⟨_,f1⟩:=f e1;obtain ⟨_,f2⟩:=f e2;exact g.ne j1 j2 _ _ hj f1 f2
theorem big {n:Nat}(h:n<100000):n<sizeLine:=lt_of_lt_of_le h (by decide)
theorem yyk {n:Nat}(h:n<=100000):n<=sizeLine:=Nat.le_trans h (by decide)
theorem yuy (i:Nat) (a:ybX K ta ea):yfr K (yqr (tBM K.K "list" ymV (yqh i) (ymR ta ywv))) (yhm i ea):=by
 intro W0 W ρ Z D o h' g e q;unfold yhm at e;split at e
 .rename_i xs0 hx;obtain ⟨x,h1,e1,f1⟩:=yj e;split at f1
  .rename_i hlen;cases f1;obtain ⟨p,a1,a2,a3,a4,hf,vs,hp,r⟩:=g.own i _ hx;refine ⟨.ref p,a1,.inl ⟨rfl,_,SqL.of hp⟩,?_⟩;refine a W0 W ρ Z _ x _ g e1 fun v W1 w1 l1 r1=>⟨p,vs,v,rfl,rfl,l1.keep _ _ hp a2,by rw [r.len];exact big hlen,?_⟩
   have g1:=g.step l1;obtain ⟨p',b1,b2,b3,b4,b5,vs',b6,b7⟩:=g1.own i _ hx;rw [a1] at b1;cases b1;rw [l1.keep _ _ hp a2] at b6;cases b6;exact q (yux W1 p (.lst (vs++[v]))) Z w1 (yrd l1 b2) (g1.mut hx a1 b2 b3 b5 (fun z=>by cases z) ⟨b5,_,yK,b7.snoc r1⟩)
  .cases f1
 .cases e
structure yDQ (K:Ck) (W:Wd) (J:It) (xs:List PV):Prop where
 go:∀ (i:Nat) (W':Wd),Lf K W W'->WOk K W'->i<xs.length->J.go i W'.H
 yld:∀ (i:Nat) (W':Wd) (v:V) (H2:Hp),Lf K W W'->WOk K W'->i<xs.length->J.yld i W'.H v H2->H2=W'.H/\∃ x,xs[i]?=some x/\ycN K W' x v
 stop:∀ (W':Wd),Lf K W W'->WOk K W'->J.stop xs.length W'.H
def yyl (K:Ck) (wi:TI) (e:XA):Prop:=∀ (W0 W:Wd) (ρ:PSt) (Z:St) (R:It->Hp->Prop) (xs:List PV) (h':AH),Good K W0 W ρ Z->e ρ W.h=some (xs,h')->(∀ J W',W'.h=h'->Le K W W'->yDQ K W' J xs->R J W'.H)->wi Z W.H R
noncomputable def xIL (e:XE):XA:=fun ρ h=>ob (e ρ h) fun x h1=>match x with|.lst xs=>some (xs,h1)|.scr ns=>some (ns.map .int,h1)|_=>none
noncomputable def sgn (c:Nat):PV:=.str ⟨#[c]⟩
noncomputable def xIS (e:XE):XA:=fun ρ h=>ob (e ρ h) fun x h1=>match x with|.str z=>if z.length<=100000 then some (z.cps.toList.map sgn,h1) else none|_=>none
noncomputable def ypH (lo:Int) (n:Nat):List PV:=(List.range n).map fun (k:Nat)=>.int (lo+(k:Int))
noncomputable def yre (a:XA):XA:=fun ρ h=>ob (a ρ h) fun xs h1=>match xs with|[.int j]=>if -1000000000<=j/\j<=1000000000 then some (ypH 0 j.toNat,h1) else none|_=>none
theorem yfF {W:Wd}(w:WOk K W) {a:Addr}{vs:List V}(h:SqL K.K W.F a vs):SqL K.K W.H a vs:=Same.seq w.le h
theorem ydu {W:Wd}(w:WOk K W) {a:Addr}{vs:List V}(h:TpAt K.K W.F a vs):SqT K.K W.H a vs:=h.elim (fun h=>SqT.of (w.le _ _ h)) .inr
theorem yrf (a:ybX K ta ea):yyl K (ytP K.K ta) (xIL ea):=by
 intro W0 W ρ Z R xs h' g e q;obtain ⟨x,h1,e1,f1⟩:=yj e;refine a W0 W ρ Z _ x h1 g e1 fun v W1 w1 l1 r1=>?_
 have key:∀ (a:Addr) (vs:List V),v=.ref a->SqL K.K W1.F a vs->RepL K W1.F W1.m xs vs->h1=h'->∃ a,v=.ref a/\(∃ xs,SqL K.K W1.H a xs)/\R (Itl K.K a) W1.H:=fun a vs ev hs rs eh=>by
  subst eh;refine ⟨a,ev,⟨vs,yfF l1.ok hs⟩,q _ W1 w1 l1 ⟨fun i W' l w hi=>?_,fun i W' v' H2 l w hi hy=>?_,fun W' l w=>?_⟩⟩
  .obtain ⟨v',h1,_⟩:=rs.get (List.getElem?_eq_getElem hi);exact ⟨vs,v',yfF w (Same.seq l.fs hs),h1⟩
  .obtain ⟨h1,h2⟩:=hy;have:=h2 vs (yfF w (Same.seq l.fs hs));obtain ⟨x,h3,h4⟩:=rs.get' this;exact ⟨h1,x,h3,l.rep h4⟩
  .exact ⟨vs,yfF w (Same.seq l.fs hs),by rw [rs.len];exact Nat.le_refl _⟩
 split at f1
 .cases f1;obtain ⟨a,vs,ev,hs,rs⟩:=r1;exact key a vs ev (SqL.of hs) rs rfl
 .rename_i ns;cases f1;obtain ⟨a,ev,hs⟩:=r1;exact key a _ ev hs (RepL.of_ints ns) rfl
 .cases f1
theorem yuz (a:ybX K ta ea):yyl K (yFz ta) (xIS ea):=by
 intro W0 W ρ Z R xs h' g e q;obtain ⟨x,h1,e1,f1⟩:=yj e;refine a W0 W ρ Z _ x h1 g e1 fun v W1 w1 l1 r1=>?_
 split at f1
 .rename_i z;split at f1
  .rename_i hz;cases f1;have hl:z.length=z.cps.toList.length:=by simp [Str.length]
   refine ⟨z,r1,yyk hz,q _ W1 w1 l1 ⟨fun i W' l w hi=>?_,fun i W' v' H2 l w hi hy=>?_,fun W' l w=>?_⟩⟩
   .show i<z.length;rw [hl];simpa using hi
   .obtain ⟨h1,c,h2,h3⟩:=hy;exact ⟨h1,sgn c,by rw [getElem?_map,h2];rfl,h3⟩
   .show _=z.length;rw [hl];simp
  .cases f1
 .cases f1
theorem yAU W d n:yDQ K W (Itr d n) (ypH d n):=by
 refine ⟨fun i c l w b=>?_,fun i c f g l w b e=>?_,fun c l w=>?_⟩
 .show i<n;simpa [ypH] using b
 .obtain ⟨h1,h2⟩:=e;have b:=by simpa [ypH] using b
  exact ⟨h1,.int _,by simp [ypH,b],h2⟩
 .show n<=_;simp [ypH]
theorem yrg {t:TA}{e:XA}(a:ymG K t e):yyl K (yAB t) (yre e):=by
 intro n W ρ Z R xs h' g e q;obtain ⟨ys,h1,h,c⟩:=yj e;split at c
 .rename_i j;split at c
  .cases c;refine a n W ρ Z _ _ _ g h fun vs d l i f=>?_
   obtain ⟨v,r,rfl,m,k⟩:=f;obtain rfl:r=[]:=k;exact ⟨j,by rw [m],by omega,by omega,q _ d l i (yAU d 0 _)⟩
  .cases c
 .cases c
theorem yym {wi:TI}{it:XA}{g:TG}{y:XG}(a:yyl K wi it) (b:ytB K g y) (c:yfr K t s):yfr K (yCX wi g t) (yhF it y s):=by
 intro W0 W ρ Z D o h' gd e q;obtain ⟨xs,h1,e1,f1⟩:=yj e;refine a W0 W ρ Z _ xs h1 gd e1 fun J W1 w1 l1 J1=>?_
 subst w1;have q1:=q.from_ l1.lf;refine ⟨fun i m Z H=>m=xs.length-i/\i<=xs.length/\∃ W' ρ',W'.H=H/\Lf K W1 W'/\Good K W0 W' ρ' Z/\yeR y s (xs.drop i) ρ' W'.h=some (o,h'),⟨_,rfl,zero_le _,W1,ρ,rfl,.refl,gd.step l1,by simpa using f1⟩,?_⟩;rintro i m Z _ ⟨rfl,hi,W',ρ',rfl,l,g',f⟩
 by_cases hlt:i<xs.length
 .rw [List.drop_eq_getElem_cons hlt] at f;obtain ⟨ρ1,k1,f⟩:=Option.bind_eq_some_iff.mp f;obtain ⟨o1,h2,k2,f3⟩:=yj f;refine .inr ⟨J1.go i W' l g'.ok hlt,fun Z2 H2=>i+1<=xs.length/\∃ W2 ρ2,W2.H=H2/\Lf K W1 W2/\Good K W0 W2 ρ2 Z2/\yeR y s (xs.drop (i+1)) ρ2 W2.h=some (o,h'),fun Z2 H2 ⟨n1,n2⟩=>⟨xs.length-(i+1),by omega,rfl,n1,n2⟩,fun v H2 hy=>?_⟩;obtain ⟨rfl,x,hx,rx⟩:=J1.yld i W' v H2 l g'.ok hlt hy;rw [List.getElem?_eq_getElem hlt] at hx;cases hx;refine b W0 W' ρ' ρ1 Z _ v _ g' rx k1 fun Z2 g2=>?_
  refine c W0 W' ρ1 Z2 _ o1 h2 g2 k2 ?_;cases o1 with
  | nx ρ2=>exact fun W2 Z3 w2 l2 g3=>⟨hlt,W2,ρ2,rfl,l.trans l2,g3,by rw [w2];exact f3⟩
  | ct ρ2=>exact fun W2 Z3 w2 l2 g3=>⟨hlt,W2,ρ2,rfl,l.trans l2,g3,by rw [w2];exact f3⟩
  | bk ρ2=>cases f3;exact fun W2 Z3 w2 l2 g3=>q1 W2 Z3 w2 (l.trans l2) g3
  | rt x=>cases f3;exact q1
 .have ei:i=xs.length:=by omega
  subst ei;refine .inl ⟨J1.stop W' l g'.ok,?_⟩;rw [List.drop_length] at f;cases f;exact q1 W' Z rfl l g'
theorem yrh n (c:ymF K tA eA) (a:yfr K t s):yfr K (ywr tA t) (yfs n eA s):=by
 intro y W ρ Z D o h' F e q;refine ⟨fun m Z H=>∃ g ρ',g.H=H/\Lf K W g/\Good K y g ρ' Z/\whl eA s m ρ' g.h=some _,⟨n,W,ρ,rfl,.refl,F,e⟩,?_⟩;rintro m Z _ ⟨g,ρ',rfl,l,g',f⟩;cases m with
 | zero=>cases f
 | succ m =>
  obtain ⟨k,h1,E,r⟩:=yj f;refine c y g ρ' Z _ k h1 g' E fun A C v=>?_
  subst C;cases k with
  | false =>
   rw [if_neg (by decide)] at r ⊢;cases r;exact q A Z rfl (l.trans v.lf) (g'.step v)
  | true =>
   rw [if_pos rfl] at r ⊢;obtain ⟨o1,h2,k2,w⟩:=yj r;refine ⟨_,fun B G z=>⟨m,Nat.lt_succ_self _,z⟩,?_⟩;refine a y A ρ' Z _ o1 h2 (g'.step v) k2 ?_;have l':=l.trans v.lf;cases o1 with
   | nx ρ2=>exact fun h d i p j=>⟨h,ρ2,rfl,l'.trans p,j,by rw [i];exact w⟩
   | ct ρ2=>exact fun h d i p j=>⟨h,ρ2,rfl,l'.trans p,j,by rw [i];exact w⟩
   | bk ρ2=>cases w;exact fun h d i p j=>q h d i (l'.trans p) j
   | rt x=>cases w;exact q
theorem yri {e:XE}{inn:PV->PSt}:∀ {xs:List PV}{h:AH}{ys:List PV}{h':AH},yjp e inn xs h=some (ys,h')->ys.length=xs.length
 | [],_,_,_,e=>by cases e;rfl
 | x::xs,_,_,_,e=>by obtain ⟨y,h1,e1,f1⟩:=yj e;obtain ⟨ys,h2,e2,f2⟩:=yj f1;cases f2;rw [length_cons,length_cons,yri e2]
theorem yka {c W b:Wd}{ρ:PSt}{Z:St}(g:Good K c W ρ Z) (l:Le K W b) ix {x:PV}{v:V}(r:ycN K b x v):Good K b b (ygW ix ρ x) (inner ix Z v) where
 le:=.refl l.ok
 len:=by simp [ygW,inner]
 val:=fun j y e=>by
  cases j with
  | zero=>simp [ygW] at e;subst e;exact ⟨v,rfl,r⟩
  | succ j =>
   have e:(ix.map (yye ρ))[j]?=some _:=e;rw [getElem?_map] at e;cases ei:ix[j]? with
   | none=>simp_all
   | some i =>
    rw [ei] at e;have e:=Option.some.inj e;unfold yye at e;split at e
    .rename_i z hz;cases e;obtain ⟨w,h1,h2⟩:=g.val i _ hz;exact ⟨w,by show (ix.map _)[j]?=_;simp_all,l.rep h2⟩
    .cases e
 own:=fun j d e=>by
  cases j with
  | zero=>simp [ygW] at e
  | succ j =>
   have e:(ix.map (yye ρ))[j]?=some _:=e;rw [getElem?_map] at e;cases ei:ix[j]? with
   | none=>simp_all
   | some i =>
    rw [ei] at e;have e:=Option.some.inj e;unfold yye at e;split at e<;>cases e
 ne:=fun j k d d' _ e _=>by
  cases j with
  | zero=>simp [ygW] at e
  | succ j =>
   have e:(ix.map (yye ρ))[j]?=some _:=e;rw [getElem?_map] at e;cases ei:ix[j]? with
   | none=>simp_all
   | some i =>
    rw [ei] at e;have e:=Option.some.inj e;unfold yye at e;split at e<;>cases e
theorem yos {P:TI}{S:XA} ix (a:yyl K P S) (b:ybX K ta ea):ymH K (ypA P ix ta) (yfY S ix ea):=by
 intro W0 W ρ c Q d h' M e q;obtain ⟨xs,h1,e1,G⟩:=yj e;split at G
 .obtain ⟨O,h2,U,f2⟩:=yj G;cases f2;refine a W0 W ρ c _ xs h1 M e1 fun J Z w1 n E=>?_
  subst w1;intro D p;have nm:=n.ok.out p;have T:=n.ok.ff p;refine ⟨fun i m H=>m=xs.length-i/\i<=xs.length/\∃ h k g rest,h.H=H/\Le K Z h/\D∉h.m/\h.F D=none/\H D=some (.lst k)/\ycI K h g k/\g.length=i/\O=g++rest/\yjp ea _ (xs.drop i) h.h=some (rest,h'),⟨_,rfl,zero_le _,_,[],[],O,rfl,ycQ n.ok p,nm,T,yK,rfl,rfl,rfl,by exact U⟩,?_⟩;rintro i m _ ⟨rfl,hi,h,k,g,rest,rfl,l,C,R,o,F,ld,I,f⟩
  by_cases j:i<xs.length
  .rw [List.drop_eq_getElem_cons j] at f;obtain ⟨y,Y,k1,f3⟩:=yj f;obtain ⟨ys,h4,k2,f4⟩:=yj f3;cases f4;refine .inr ⟨E.go i h l.lf l.ok j,fun v H2 X=>?_⟩;obtain ⟨rfl,x,N,rx⟩:=E.yld i h v H2 l.lf l.ok j X;rw [List.getElem?_eq_getElem j] at N;cases N;refine b h h _ _ _ y Y (yka M (n.trans l) ix rx) k1 fun w L w2 r r2=>?_
   have B:D∉L.m:=fun z=>by rw [r.mn D z C] at o;cases o
   have A:=r.new D _ o C R;refine ⟨k,r.keep _ _ o C,?_,_,by omega,rfl,j,_,_,_,ys,rfl,yjZ (l.trans r) B A p,B,A,yK,(r.repL F).snoc r2,by simp [ld],by simp [I],?_⟩
   .rw [F.len];exact big (by omega)
   .show yjp ea _ _ L.h=some _;rw [w2];exact k2
  .have ei:i=xs.length:=by omega
   subst ei;rw [List.drop_length] at f;cases f;refine .inl ⟨E.stop h l.lf l.ok,?_⟩;rw [append_nil] at I;subst I;exact q D h rfl (n.trans l) C (n.fresh p) (fun z=>by cases z) ⟨R,k,o,F⟩
 .cases G
theorem ygE {W:Wd}(w:WOk K W) {N:List Str}{xs:List PV}{vs:List V}(r:ycI K W xs vs):Good K W W (xs.map .val++replicate (N.length-xs.length) .no) (L2.start N vs) where
 le:=.refl w
 len:=by simp [L2.start,r.len]
 val:=fun j y e=>by
  by_cases b:j<xs.length
  .rw [getElem?_append_left (by simpa using b),getElem?_map,List.getElem?_eq_getElem b] at e;cases e;obtain ⟨v,h1,h2⟩:=r.get (List.getElem?_eq_getElem b);refine ⟨v,?_,h2⟩;unfold L2.start;rw [getElem?_append_left (by simp [r.len,b]),getElem?_map,h1];rfl
  .rw [getElem?_append_right (by simp;omega),getElem?_replicate] at e;split at e<;>cases e
 own:=fun j d e=>by
  by_cases b:j<xs.length
  .rw [getElem?_append_left (by simpa using b),getElem?_map,List.getElem?_eq_getElem b] at e;cases e
  .rw [getElem?_append_right (by simp;omega),getElem?_replicate] at e;split at e<;>cases e
 ne:=fun j k d d' _ e _=>by
  by_cases b:j<xs.length
  .rw [getElem?_append_left (by simpa using b),getElem?_map,List.getElem?_eq_getElem b] at e;cases e
  .rw [getElem?_append_right (by simp;omega),getElem?_replicate] at e;split at e<;>cases e
theorem yuA {N:List Str}{n:Nat}{vs:List V}{H:Hp}{Q:VK}{E:XK}{bk ct:St->Hp->Prop}(a:yfr K t s) (h:spE K n (ybs N.length s) vs H Q E):t ⟨fun _ k=>Q .non k,Q,bk,ct⟩ (L2.start N vs) H:=by
 obtain ⟨W,xs,x,h',rfl,w,r,_,e,q⟩:=h;obtain ⟨o,h1,m,c⟩:=yj e;refine a W W _ _ _ o h1 (ygE w r) m ?_;cases o with
 | rt y=>cases c;exact fun f v d l i=>q v f d l i
 | nx ρ=>cases c;exact fun f j d _ g=>q _ f d g.le rfl
 | bk ρ=>cases c
 | ct ρ=>cases c
theorem yyn {n:Nat}{f:Fn}{vs:List V}{H:Hp}{Q:VK}{E:XK}(h:spE K n f vs H Q E):vs.length=n:=by obtain ⟨W,xs,x,h',rfl,w,r,hn,_⟩:=h;rw [r.len,hn]
end
end PX
namespace PX
open PySem L2
variable {K:Ck}
noncomputable def oI (g:Int->Int->PV):P2:=fun x y h=>match x,y with|.int i,.int j=>some (g i j,h)|_,_=>none
noncomputable def oIc (C:Int->Int->Prop) [∀ i j,Decidable (C i j)] (g:Int->Int->PV):P2:=fun x y h=>match x,y with|.int i,.int j=>if C i j then some (g i j,h) else none|_,_=>none
abbrev yeu:P2:=oI fun i j=>.int (i+j)
abbrev ytC:P2:=oI fun i j=>.int (i-j)
noncomputable def MulOk (i j:Int):Prop:=(-18446744073709551616<i/\i<18446744073709551616)\/(-18446744073709551616<j/\j<18446744073709551616)
instance (i j:Int):Decidable (MulOk i j):=by unfold MulOk;infer_instance
noncomputable def PowOk (i j:Int):Prop:=(0<=i/\i<18446744073709551616)/\0<=j/\j<=1000000
instance (i j:Int):Decidable (PowOk i j):=by unfold PowOk;infer_instance
abbrev yuB:P2:=oIc MulOk fun i j=>.int (i*j)
abbrev oDiv:P2:=oIc (fun _ j=>0<j/\j<1073741824) fun i j=>.int (i/j)
abbrev oMod:P2:=oIc (fun _ j=>0<j) fun i j=>.int (i%j)
abbrev yyo:P2:=oIc PowOk fun i j=>.int (i ^ j.toNat)
abbrev oLt:P2:=oI fun i j=>.bl (decide (i<j))
abbrev oLe:P2:=oI fun i j=>.bl (decide (i<=j))
abbrev oGt:P2:=oI fun i j=>.bl (decide (j<i))
abbrev oGe:P2:=oI fun i j=>.bl (decide (j<=i))
noncomputable abbrev yyp:PV->AH->Option (PV×AH):=fun x h=>match x with|.int i=>some (.int (-i),h)|_=>none
theorem yzY {g:Int->Int->PV}{gV:Int->Int->V}(h:∀ (W:Wd) i j,ycN K W (g i j) (gV i j)):yco K (rI0 gV) (oI g):=by
 intro W x y v u Q z h' w rx ry e q;unfold oI at e;split at e
 .rename_i i j;cases e;exact ⟨i,j,rx,ry,q _ W rfl (.refl w) (h W i j)⟩
 .cases e
theorem yuC {C:Int->Int->Prop} [∀ i j,Decidable (C i j)] {C':Int->Int->Prop}{g:Int->Int->PV}{gV:Int->Int->V}(hc:∀ i j,C i j->C' i j) (h:∀ (W:Wd) i j,ycN K W (g i j) (gV i j)):yco K (rI C' gV) (oIc C g):=by
 intro W x y v u Q z h' w rx ry e q;unfold oIc at e;split at e
 .rename_i i j;split at e
  .rename_i c;cases e;exact ⟨i,j,rx,ry,hc i j c,q _ W rfl (.refl w) (h W i j)⟩
  .cases e
 .cases e
theorem ycX:yco K yDE yeu:=yzY fun _ _ _=>rfl
theorem ynq:yco K yDF ytC:=yzY fun _ _ _=>rfl
theorem ypI:yco K yDG yuB:=yuC (fun i j h=>by exact h) fun _ _ _=>rfl
theorem yeS:yco K yDH oDiv:=yuC (fun i j h=>h) fun _ _ _=>rfl
theorem ycJ:yco K yDI oMod:=yuC (fun i j h=>h) fun _ _ _=>rfl
theorem yrj:yco K yDJ yyo:=yuC (fun i j h=>by unfold yDu;unfold PowOk at h;omega) fun _ _ _=>rfl
theorem ymI:yco K yFR oLt:=yzY fun _ _ _=>rfl
theorem yqi:yco K yFS oLe:=yzY fun _ _ _=>rfl
theorem yAV:yco K yFT oGt:=yzY fun _ _ _=>rfl
theorem yFW:yco K yFU oGe:=yzY fun _ _ _=>rfl
theorem yrk:yxR K yDK yyp:=by
 intro W x v Q z h' w b e q;unfold yyp at e;split at e
 .rename_i i;cases e;exact ⟨i,b,q _ W rfl (.refl w) rfl⟩
 .cases e
noncomputable def sv:PV->Option V
 | .non=>some .non
 | .bl b=>some (.bl b)
 | .int i=>some (.int i)
 | .str s=>some (.str s)
 | _=>none
theorem yft {W:Wd}{x:PV}{v u:V}(e:sv x=some u) (r:ycN K W x v):v=u:=by cases x<;>cases e<;>exact r
noncomputable def oEq:P2:=fun x y h=>match sv x,sv y with|some v,some u=>if yws v u=true then some (.bl (decide (v=u)),h) else none|_,_=>none
noncomputable def oNe:P2:=fun x y h=>match sv x,sv y with|some v,some u=>if yws v u=true then some (.bl (!decide (v=u)),h) else none|_,_=>none
theorem ycO:yco K rEq oEq:=by
 intro W x y v u Q z h' w rx ry e q;unfold oEq at e;split at e
 .rename_i v' u' e1 e2;obtain rfl:=yft e1 rx;obtain rfl:=yft e2 ry;split at e
  .rename_i c;cases e;exact ⟨c,q _ W rfl (.refl w) rfl⟩
  .cases e
 .cases e
theorem ynr:yco K rNe oNe:=by
 intro W x y v u Q z h' w f d e q;unfold oNe at e;split at e
 .rename_i h i b g;obtain rfl:=yft b f;obtain rfl:=yft g d;split at e
  .rename_i c;cases e;exact ⟨c,q _ W rfl (.refl w) rfl⟩
  .cases e
 .cases e
noncomputable def isN:PV->Bool
 | .non=>true
 | _=>false
def yyq:P2:=fun x y h=>match y with|.non=>some (.bl (isN x),h)|_=>none
def yuD:P2:=fun x y h=>match y with|.non=>some (.bl (!isN x),h)|_=>none
theorem yrl {W:Wd}{x:PV}{v:V}(r:ycN K W x v):decide (v=.non)=isN x:=by
 cases x with
 | non=>rw [r];rfl
 | bl b=>rw [r];rfl
 | int b=>rw [r];rfl
 | str b=>rw [r];rfl
 | ty b=>rw [r];rfl
 | cls b=>rw [r];rfl
 | scr b=>obtain ⟨a,e,_⟩:=r;rw [e];rfl
 | lst b=>obtain ⟨a,_,e,_⟩:=r;rw [e];rfl
 | tup b=>obtain ⟨a,_,e,_⟩:=r;rw [e];rfl
 | ins k n b=>obtain ⟨a,_,_,e,_⟩:=r;rw [e];rfl
 | loc n=>obtain ⟨a,e,_⟩:=r;rw [e];rfl
 | exc n=>obtain ⟨a,e,_⟩:=r;rw [e];rfl
 | xcl n=>rw [r];rfl
theorem yuE:yco K yFV yyq:=by
 intro W x y v u Q z h' w c b e q;unfold yyq at e;split at e
 .cases e;exact ⟨b,by rw [yrl c];exact q _ W rfl (.refl w) rfl⟩
 .cases e
theorem yAW:yco K yDM yuD:=by
 intro W x y v u Q z h' w c b e q;unfold yuD at e;split at e
 .cases e;exact ⟨b,by rw [yrl c];exact q _ W rfl (.refl w) rfl⟩
 .cases e
noncomputable def ybh:P2:=fun x y h=>match x,y with|.str i,.str j=>if i.length+j.length<=100000 then some (.str (i++j),h) else none|_,_=>none
theorem ybb:yco K yDL ybh:=by
 intro W x y v u Q z h' w d b e q;unfold ybh at e;split at e
 .rename_i i j;split at e
  .rename_i c;cases e;exact ⟨i,j,d,b,yyk c,q _ W rfl (.refl w) rfl⟩
  .cases e
 .cases e
noncomputable def yCZ:P2:=fun x y h=>match x,y with|.str s,.str j=>(match s.cps.toList with|[c]=>some (.bl (decide (c∈j.cps.toList)),h)|_=>none)|_,_=>none
theorem one_sign {s:Str}{c:Nat}(h:s.cps.toList=[c]):s=⟨#[c]⟩:=by obtain ⟨⟨l⟩⟩:=s;have:l=[c]:=h;rw [this]
theorem yAX:yco K yFw yCZ:=by
 intro W x y v u Q z h' w rx ry e q;unfold yCZ at e;split at e
 .rename_i s j;split at e
  .rename_i c hc;cases e;exact ⟨c,j,by rw [<- one_sign hc];exact rx,ry,q _ W rfl (.refl w) rfl⟩
  .cases e
 .cases e
noncomputable def ybR:P2:=fun x y h=>match y with
 | .int i=>(match x with
  | .lst xs=>(match atI xs i with|some v=>some (v,h)|none=>none)
  | .scr ns=>(match atI ns i with|some v=>some (.int v,h)|none=>none)
  | .loc n=>(match h[n]? with|some (.lst xs)=>(match atI xs i with|some v=>some (v,h)|none=>none)|_=>none)
  | _=>none)
 | _=>none
noncomputable def ybc:P2:=fun x y h=>match x,y with|.tup xs,.int i=>(match atI xs i with|some v=>some (v,h)|none=>none)|_,_=>none
noncomputable def ytD:P2:=fun x y h=>match x,y with|.str s,.int i=>(match atI s.cps.toList i with|some c=>if s.length<=100000 then some (sgn c,h) else none|none=>none)|_,_=>none
theorem RepL.at {F:Hp}{m:List Addr}{xs:List PV}{vs:List V}(r:RepL K F m xs vs) {i:Int}{x:PV}(e:atI xs i=some x):∃ v,atI vs i=some v/\Rep K F m x v:=by unfold atI at e ⊢;rw [r.len];obtain ⟨j,b,a⟩:=Option.bind_eq_some_iff.mp e;rw [b];exact r.get a
theorem WOk.loc {W:Wd}(w:WOk K W) {n:Nat}{d:Nd}{v:V}(e:W.h[n]?=Option.some d) (r:ycN K W (.loc n) v):∃ a,v=.ref a/\W.m[n]?=Option.some a/\NdAt K W.F W.H W.m d a:=by obtain ⟨a,c,h⟩:=r;exact ⟨a,c,h,w.at_ n d a e h⟩
theorem ybY:yco K (yDz K.K) ybR:=by
 intro W x y v u Q z h' w h d e q;unfold ybR at e;split at e
 .rename_i i;split at e
  .split at e
   .rename_i y c;cases e;obtain ⟨a,vs,ev,hs,f⟩:=h;obtain ⟨g,h1,h2⟩:=f.at c;exact ⟨a,vs,i,g,ev,d,SqL.of (w.le _ _ hs),h1,q _ W rfl (.refl w) h2⟩
   .cases e
  .rename_i ns;split at e
   .rename_i y c;cases e;obtain ⟨a,ev,hs⟩:=h;refine ⟨a,_,i,_,ev,d,yfF w hs,?_,q _ W rfl (.refl w) rfl⟩;unfold atI at c ⊢;rw [length_map];obtain ⟨j,k,n⟩:=Option.bind_eq_some_iff.mp c;rw [k];show (ns.map V.int)[j]?=_;simp_all
   .cases e
  .split at e
   .rename_i xs l;split at e
    .rename_i y c;cases e;obtain ⟨a,ev,o,m,vs,hp,f⟩:=w.loc l h;obtain ⟨g,h1,h2⟩:=f.at c;exact ⟨a,vs,i,g,ev,d,SqL.of hp,h1,q _ W rfl (.refl w) h2⟩
    .cases e
   .cases e
  .cases e
 .cases e
theorem yU:yco K (yDA K.K) ybc:=by
 intro W x y v u Q z h' w rx ry e q;unfold ybc at e;split at e
 .rename_i xs i;split at e
  .rename_i y hy;cases e;obtain ⟨a,vs,ev,hs,rs⟩:=rx;obtain ⟨v',h1,h2⟩:=rs.at hy;exact ⟨a,vs,i,v',ev,ry,ydu w hs,h1,q _ W rfl (.refl w) h2⟩
  .cases e
 .cases e
theorem yuF:yco K yDB ytD:=by
 intro W x y v u Q z h' w rx ry e q;unfold ytD at e;split at e
 .rename_i s i;split at e
  .rename_i c hc;split at e
   .rename_i hl;cases e;exact ⟨s,i,c,rx,ry,yyk hl,hc,q _ W rfl (.refl w) rfl⟩
   .cases e
  .cases e
 .cases e
noncomputable def yqj {Z:Type}(xs:List Z) (lo hi:Option Int):List Z:=(xs.drop (HT.sIx xs.length 0 lo)).take (HT.sIx xs.length xs.length hi-HT.sIx xs.length 0 lo)
noncomputable def listOf (x:PV) (h:AH):Option (List PV):=match x with|.lst xs=>some xs|.scr ns=>some (ns.map .int)|.loc n=>(match h[n]? with|some (.lst xs)=>some xs|_=>none)|_=>none
theorem yfh {W:Wd}(w:WOk K W) {x:PV}{v:V}{xs:List PV}(e:listOf x W.h=some xs) (r:ycN K W x v):∃ a vs,v=.ref a/\SqL K.K W.H a vs/\ycI K W xs vs:=by
 unfold listOf at e;split at e
 .cases e;obtain ⟨a,vs,ev,hs,rs⟩:=r;exact ⟨a,vs,ev,SqL.of (w.le _ _ hs),rs⟩
 .rename_i ns;cases e;obtain ⟨a,ev,hs⟩:=r;exact ⟨a,_,ev,yfF w hs,RepL.of_ints ns⟩
 .rename_i n;split at e
  .rename_i ys hn;cases e;obtain ⟨a,ev,hm,hf,vs,hp,rs⟩:=w.loc hn r;exact ⟨a,vs,ev,SqL.of hp,rs⟩
  .cases e
 .cases e
noncomputable def ybE (x:PV) (h:AH):Option (List PV):=match x with|.lst xs=>some xs|.loc n=>(match h[n]? with|some (.lst xs)=>some xs|_=>none)|_=>none
theorem yba {W:Wd}(w:WOk K W) {x:PV}{v:V}{xs:List PV}(e:ybE x W.h=some xs) (r:ycN K W x v):∃ a vs,v=.ref a/\W.H a=some (.lst vs)/\ycI K W xs vs:=by
 unfold ybE at e;split at e
 .cases e;obtain ⟨a,vs,ev,hs,c⟩:=r;exact ⟨a,vs,ev,w.le _ _ hs,c⟩
 .split at e
  .rename_i ys d;cases e;obtain ⟨a,ev,f,g,vs,hp,c⟩:=w.loc d r;exact ⟨a,vs,ev,hp,c⟩
  .cases e
 .cases e
theorem yzZ {W:Wd}(w:WOk K W) {p:Addr}(hp:W.H p=none) {xs:List PV}{vs:List V}(r:ycI K W xs vs) {Q:VK}(q:ypD K W (.lst xs) W.h Q):Q (.ref p) (upd W.H p (.lst vs)) :=
 q p (yhE W p _) rfl (ycQ w hp) (w.out hp) hp (fun z=>by cases z) ⟨w.ff hp,vs,yK,r⟩
noncomputable def ywF:PV->Option Int->Option Int->AH->Option (Nd×AH):=fun x lo hi h=>match listOf x h with|some xs=>some (.lst (yqj xs lo hi),h)|none=>none
theorem yAY:yor K (yFr K.K) ywF:=by
 intro W x v f i Q d h' w h e q;unfold ywF at e;split at e
 .rename_i xs g;cases e;obtain ⟨a,vs,ev,hs,c⟩:=yfh w g h;refine ⟨a,vs,ev,hs,fun p hp=>yzZ w hp ?_ q⟩;have:=(c.drop (HT.sIx xs.length 0 f)).take (HT.sIx xs.length xs.length i-HT.sIx xs.length 0 f);unfold yqj yAH;rw [c.len];exact this
 .cases e
noncomputable def yot:P2O:=fun x y h=>match ybE x h,ybE y h with|some xs,some ys=>if xs.length+ys.length<=100000 then some (.lst (xs++ys),h) else none|_,_=>none
theorem yrm:yop K yFt yot:=by
 intro W x y v u Q d h' w rx ry e q;unfold yot at e;split at e
 .rename_i xs ys hx hy;split at e
  .rename_i hl;cases e;obtain ⟨a,vs,ev,hs,rs⟩:=yba w hx rx;obtain ⟨b,us,eu,ht,ru⟩:=yba w hy ry;refine ⟨a,b,vs,us,ev,eu,hs,ht,by rw [rs.len,ru.len];exact yyk hl,fun p hp=>yzZ w hp (rs.app ru) q⟩
  .cases e
 .cases e
noncomputable def repL {Z:Type}(k:Nat) (xs:List Z):List Z:=(replicate k xs).flatten
theorem RepL.rep {F:Hp}{m:List Addr}{xs:List PV}{vs:List V}(r:RepL K F m xs vs):∀ k,RepL K F m (repL k xs) (repL k vs)
 | 0=>rfl
 | k+1=>by show RepL K F m _ _;exact r.app (RepL.rep r k)
noncomputable def yqk:P2O:=fun x y h=>match ybE x h,y with|some xs,.int k=>if -1000000<=k/\k<=100000/\xs.length*k.toNat<=100000 then some (.lst (repL k.toNat xs),h) else none|_,_=>none
theorem yrn:yop K yFu yqk:=by
 intro W x y v u Q d h' w rx ry e q;unfold yqk at e;split at e
 .rename_i xs k hx;split at e
  .rename_i hl;cases e;obtain ⟨a,vs,ev,hs,rs⟩:=yba w hx rx;refine ⟨a,k,vs,ev,ry,hs,by omega,by omega,by rw [rs.len];exact yyk hl.2.2,fun p hp=>yzZ w hp (rs.rep _) q⟩
  .cases e
 .cases e
noncomputable def yro (x:PV) (h:AH):Option Nat:=match x with|.tup xs=>some xs.length|.lst xs=>some xs.length|.scr ns=>some ns.length|.loc n=>(match h[n]? with|some (.lst xs)=>some xs.length|_=>none)|_=>none
noncomputable def yca:List PV->AH->Option (PV×AH):=fun xs h=>match xs with|[x]=>(match yro x h with|some n=>some (.int n,h)|none=>none)|_=>none
noncomputable def yns:List PV->AH->Option (PV×AH):=fun xs h=>match xs with|[.str z]=>if z.length<=100000 then some (.int z.length,h) else none|_=>none
theorem ynt {W:Wd}{x:PV}{vs:List V}(r:ycI K W [x] vs):∃ v,vs=[v]/\ycN K W x v:=by obtain ⟨v,a,e,h,l⟩:=r;exact ⟨v,by rw [e,l],h⟩
theorem yFX {W:Wd}{x y:PV}{vs:List V}(r:ycI K W [x,y] vs):∃ v u,vs=[v,u]/\ycN K W x v/\ycN K W y u:=by obtain ⟨v,b,e,h,l⟩:=r;obtain ⟨u,a,h2⟩:=ynt l;exact ⟨v,u,by rw [e,a],h,h2⟩
theorem ycC:yhS K (yAJ K.K) yca:=by
 intro W xs vs Q z h' w r e q;unfold yca at e;split at e
 .rename_i x;split at e
  .rename_i n hn;cases e;obtain ⟨v,rfl,rx⟩:=ynt r;have fin:∀ (ys:List V),ys.length=n->Q (.int ys.length) W.H:=fun ys hl=>by rw [hl];exact q _ W rfl (.refl w) rfl
   unfold yro at hn;split at hn
   .cases hn;obtain ⟨a,us,rfl,hs,rs⟩:=rx;exact ⟨a,us,rfl,.inr (ydu w hs),fin _ rs.len⟩
   .rename_i ys;cases hn;obtain ⟨a,us,rfl,hs,rs⟩:=rx;exact ⟨a,us,rfl,.inl (SqL.of (w.le _ _ hs)),fin _ rs.len⟩
   .rename_i ns;cases hn;obtain ⟨a,rfl,hs⟩:=rx;exact ⟨a,_,rfl,.inl (yfF w hs),fin _ (by simp)⟩
   .split at hn
    .rename_i ys hy;cases hn;obtain ⟨a,rfl,hm,hf,us,hp,rs⟩:=w.loc hy rx;exact ⟨a,us,rfl,.inl (SqL.of hp),fin _ rs.len⟩
    .cases hn
   .cases hn
  .cases e
 .cases e
theorem you:yhS K yDN yns:=by
 intro W xs vs Q z h' w r e q;unfold yns at e;split at e
 .rename_i s;split at e
  .rename_i hl;cases e;obtain ⟨v,rfl,b⟩:=ynt r;exact ⟨s,by rw [b],yyk hl,q _ W rfl (.refl w) rfl⟩
  .cases e
 .cases e
noncomputable def yhV:List PV->AH->Option (PV×AH):=fun xs h=>match xs with|[.int i]=>if i.natAbs.log2<1920 then some (.str (toString i:String),h) else none|_=>none
theorem yov:yhS K yDO yhV:=by
 intro W xs vs Q z h' w r e q;unfold yhV at e;split at e
 .rename_i i;split at e
  .rename_i hl;cases e;obtain ⟨v,rfl,rx⟩:=ynt r;exact ⟨i,by rw [show v=_ from rx],hl,q _ W rfl (.refl w) rfl⟩
  .cases e
 .cases e
noncomputable def yrp:List PV->AH->Option (PV×AH):=fun xs h=>match xs with|[.str z]=>if z.cps.toList≠[]/\(∀ c∈z.cps.toList,48<=c/\c<=57)/\z.length<=640 then some (.int (yxM z.cps.toList),h) else none|_=>none
theorem yAZ:yhS K yAK yrp:=by
 intro W xs vs Q z h' w r e q;unfold yrp at e;split at e
 .rename_i i;split at e
  .rename_i hl;cases e;obtain ⟨v,rfl,b⟩:=ynt r;exact ⟨i,by rw [b],hl.1,hl.2.1,hl.2.2,q _ W rfl (.refl w) rfl⟩
  .cases e
 .cases e
noncomputable def yX:List PV->AH->Option (Nd×AH):=fun xs h=>match xs with|[.tup ys]=>some (.lst ys,h)|[x]=>(match listOf x h with|some ys=>some (.lst ys,h)|none=>none)|_=>none
theorem ybi:yqV K (yxN K.K) yX:=by
 intro W xs vs Q d h' w r e q;unfold yX at e;split at e
 .rename_i ys;cases e;obtain ⟨v,rfl,a,us,rfl,hs,rs⟩:=ynt r;exact ⟨a,us,rfl,.inr (ydu w hs),fun p hp=>yzZ w hp rs q⟩
 .rename_i x _;split at e
  .rename_i ys hy;cases e;obtain ⟨v,rfl,rx⟩:=ynt r;obtain ⟨a,us,rfl,hs,rs⟩:=yfh w hy rx;exact ⟨a,us,rfl,.inl hs,fun p hp=>yzZ w hp rs q⟩
  .cases e
 .cases e
noncomputable def strsOf:List PV->Option (List Str)
 | []=>some []
 | .str s::r=>(strsOf r).map (s::·)
 | _=>none
noncomputable def intsOf:List PV->Option (List Int)
 | []=>some []
 | .int s::r=>(intsOf r).map (s::·)
 | _=>none
noncomputable def yhW:List PV->Option (List Bool)
 | []=>some []
 | .bl s::r=>(yhW r).map (s::·)
 | _=>none
theorem yjq:∀ ss,strsOf (ss.map .str)=some ss
 | []=>rfl
 | s::ss=>by show (strsOf _).map _=_;rw [yjq ss];rfl
theorem ygF:∀ ss,intsOf (ss.map .int)=some ss
 | []=>rfl
 | s::ss=>by show (intsOf _).map _=_;rw [ygF ss];rfl
theorem ylP:∀ ss:List Bool,yhW (ss.map .bl)=some ss
 | []=>rfl
 | s::ss=>by show (yhW (ss.map .bl)).map _=_;rw [ylP ss];rfl
theorem yjr {F:Hp}{m:List Addr}:∀ {xs:List PV}{ss:List Str}{vs:List V},strsOf xs=some ss->RepL K F m xs vs->vs=ss.map V.str
 | [],_,_,e,r=>by cases e;exact r
 | x::xs,ss,_,e,⟨v,c,ev,h,l⟩=>by
  cases x<;>try cases e
  obtain ⟨ts,b,a⟩:=Option.map_eq_some_iff.mp e;subst a;rw [ev,h,yjr b l];rfl
theorem yjs {F:Hp}{m:List Addr}:∀ {xs:List PV}{ss:List Int}{vs:List V},intsOf xs=some ss->RepL K F m xs vs->vs=ss.map V.int
 | [],_,_,e,r=>by cases e;exact r
 | x::xs,ss,_,e,⟨v,r',ev,h,l⟩=>by
  cases x<;>try cases e
  rename_i s;obtain ⟨ts,e1,e2⟩:=Option.map_eq_some_iff.mp e;subst e2;rw [ev,show v=_ from h,yjs e1 l];rfl
theorem yhX {F:Hp}{m:List Addr}:∀ {xs:List PV}{ss:List Bool}{vs:List V},yhW xs=some ss->RepL K F m xs vs->vs=ss.map V.bl
 | [],_,_,e,r=>by cases e;exact r
 | x::xs,ss,_,e,⟨v,c,ev,h,l⟩=>by
  cases x<;>try cases e
  obtain ⟨ts,b,a⟩:=Option.map_eq_some_iff.mp e;subst a;rw [ev,h,yhX b l];rfl
noncomputable def yuG:List PV->AH->Option (PV×AH):=fun xs h=>match xs with|[x]=>(match ybE x h with|some ys=>(match intsOf ys with|some ns=>some (.int ns.sum,h)|none=>none)|none=>none)|_=>none
theorem yuH:yhS K yFy yuG:=by
 intro W xs vs Q z h' w r e q;unfold yuG at e;split at e
 .split at e
  .rename_i ys f;split at e
   .rename_i ns d;cases e;obtain ⟨v,rfl,g⟩:=ynt r;obtain ⟨a,us,rfl,hs,c⟩:=yba w f g;have:=yjs d c;subst this;exact ⟨a,ns,rfl,hs,q _ W rfl (.refl w) rfl⟩
   .cases e
  .cases e
 .cases e
noncomputable def ywG:List PV->AH->Option (PV×AH):=fun xs h=>match xs with|[x]=>(match ybE x h with|some ys=>(match yhW ys with|some ns=>some (.bl (ns.all id),h)|none=>none)|none=>none)|_=>none
theorem yBa:yhS K yFx ywG:=by
 intro W xs vs Q z h' w r e q;unfold ywG at e;split at e
 .split at e
  .rename_i ys f;split at e
   .rename_i ns d;cases e;obtain ⟨v,rfl,g⟩:=ynt r;obtain ⟨a,us,rfl,hs,c⟩:=yba w f g;have:=yhX d c;subst this;exact ⟨a,ns,rfl,hs,q _ W rfl (.refl w) rfl⟩
   .cases e
  .cases e
 .cases e
noncomputable def isStr:PV->AH->Bool:=fun x _=>match x with|.str _=>true|_=>false
noncomputable def ynu:PM:=fun x xs h=>match x,xs with|.str sep,[y]=>(match ybE y h with|some ys=>(match strsOf ys with|some ts=>if sep.length<=16/\(ts.map (·.length)).sum+ts.length<=1048576 then some (.str (Str.join sep ts),h) else none|none=>none)|none=>none)|_,_=>none
theorem yBb:yiT K "str" isStr rJoin ynu:=by
 refine ⟨fun W x v w r c=>?_,fun W x v xs vs Q z h' w rx r e q=>?_⟩
 .unfold isStr at c;split at c
  .rw [show v=_ from r];rfl
  .cases c
 .unfold ynu at e;split at e
  .rename_i sep y;split at e
   .rename_i ys hy;split at e
    .rename_i ts ht;split at e
     .rename_i c;cases e;obtain ⟨u,rfl,ru⟩:=ynt r;obtain ⟨a,us,rfl,hs,rs⟩:=yba w hy ru;have:=yjr ht rs;subst this;exact ⟨sep,a,ts,rx,rfl,hs,c.1,c.2,q _ W rfl (.refl w) rfl⟩
     .cases e
    .cases e
   .cases e
  .cases e
noncomputable def ynv:PM:=fun x xs h=>match x,xs with|.str z,[.str s]=>(match s.cps.toList with|[c]=>if z.length<=1000/\c∈z.cps.toList then some (.int (z.cps.toList.idxOf c),h) else none|_=>none)|_,_=>none
theorem yuI:yiT K "str" isStr yqR ynv:=by
 refine ⟨fun W x v w r c=>?_,fun W x v xs vs Q z h' w f r e q=>?_⟩
 .unfold isStr at c;split at c
  .rw [r];rfl
  .cases c
 .unfold ynv at e;split at e
  .rename_i z s;split at e
   .rename_i c d;split at e
    .rename_i hl;cases e;obtain ⟨u,rfl,b⟩:=ynt r;exact ⟨z,c,f,by rw [b,one_sign d],hl.1,hl.2,q _ W rfl (.refl w) rfl⟩
    .cases e
   .cases e
  .cases e
end PX
namespace PX
open PySem L2
variable {K:Ck}
noncomputable def putN (f:Str) (x:PV) (ns:List Str) (xs:List PV):List Str×List PV:=if f∈ns then (ns,xs.set (ns.idxOf f) x) else (ns++[f],xs++[x])
theorem yow (f:Str) (y:V):∀ (ns:List Str) (vs:List V),vs.length=ns.length->yjm f y (ns.zip vs)=if f∈ns then ns.zip (vs.set (ns.idxOf f) y) else (ns++[f]).zip (vs++[y])
 | [],[],_=>by simp [yjm]
 | n::ns,v::vs,hl=>by
  have ih:=yow f y ns vs (by simpa using hl);show (if n=f then (n,y)::ns.zip vs else (n,v)::yjm f y (ns.zip vs))=_
  by_cases h:n=f
  .subst h;simp [List.idxOf_cons_self]
  .have h':¬ f=n:=fun z=>h z.symm
   have hb:(n == f)=false:=by simpa using h
   rw [if_neg h,ih]
   by_cases hm:f∈ns
   .simp [hm,h',List.idxOf_cons,hb]
   .simp [hm,h']
theorem yjt {f:Str}:∀ {ns:List Str}{vs:List V},vs.length=ns.length->f∈ns->(ns.zip vs).lookup f=vs[ns.idxOf f]?
 | [],_,_,h=>by simp at h
 | n::ns,v::vs,hl,h=>by
  show List.lookup f ((n,v)::ns.zip vs)=_
  by_cases b:f=n
  .simp_all
  .rw [yAL b,yjt (by simpa using hl) (by simpa [b] using h)];have c:(n == f)=false:=by simpa using fun z=>b z.symm
   simp [List.idxOf_cons,c]
theorem ydD {f:Str}:∀ {ns:List Str}{vs:List V},f∉ns->(ns.zip vs).lookup f=none
 | [],_,_=>by simp
 | n::ns,[],_=>by simp
 | n::ns,v::vs,h=>by show List.lookup f ((n,v)::ns.zip vs)=_;rw [yAL (fun z:f=n=>h (by rw [z];exact mem_cons_self)),ydD fun z=>h (mem_cons_of_mem _ z)]
noncomputable def ygG (x:PV) (h:AH):Option (Nat×List Str×List PV):=match x with|.ins k ns xs=>some (k,ns,xs)|.loc n=>(match h[n]? with|some (.ins k ns xs)=>some (k,ns,xs)|_=>none)|_=>none
theorem yfZ {W:Wd}(w:WOk K W) {x:PV}{v:V}{k:Nat}{ns:List Str}{xs:List PV}(e:ygG x W.h=some (k,ns,xs)) (r:ycN K W x v):∃ a dx vs,v=.ref a/\W.H a=some (.ins (K.A k) dx (ns.zip vs))/\vs.length=ns.length/\ycI K W xs vs:=by
 unfold ygG at e;split at e
 .cases e;obtain ⟨a,dx,vs,ev,hs,hl,rs⟩:=r;exact ⟨a,dx,vs,ev,w.le _ _ hs,hl,rs⟩
 .rename_i n;split at e
  .rename_i hn;cases e;obtain ⟨a,ev,hm,hf,dx,vs,hp,hl,rs⟩:=w.loc hn r;exact ⟨a,dx,vs,ev,hp,hl,rs⟩
  .cases e
 .cases e
noncomputable def ybd (cs:List Nat) (f:Str) (e:XE):XE:=fun ρ h=>ob (e ρ h) fun x h1=>match ygG x h1 with|some (k,ns,xs)=>if k∈cs/\f∈ns then (match xs[ns.idxOf f]? with|some y=>some (y,h1)|none=>none) else none|none=>none
theorem yyr {cs:List Nat}{f:Str}{ta:TE}{ea:XE}(hc:∀ k∈cs,Cls K.K (K.A k)/\NoAttr K.K (K.A k) f) (a:ybX K ta ea):ybX K (yFo K.K ta f) (ybd cs f ea):=by
 intro W0 W ρ Z Q z h' g e q;obtain ⟨x,h1,e1,f1⟩:=yj e;refine a W0 W ρ Z _ x h1 g e1 fun v W1 w1 l1 r1=>?_
 subst w1;split at f1
 .rename_i k ns xs hi;split at f1
  .rename_i c;split at f1
   .rename_i y hy;cases f1;obtain ⟨a,dx,vs,ev,hp,hl,rs⟩:=yfZ l1.ok hi r1;obtain ⟨u,h2,h3⟩:=rs.get hy;exact ⟨a,_,dx,_,u,ev,hp,(hc k c.1).1,(hc k c.1).2,by rw [yjt hl c.2];exact h2,q _ W1 rfl l1 h3⟩
   .cases f1
  .cases f1
 .cases f1
noncomputable def ycB (cs:List Nat) (i:Nat) (f:Str) (e:XE):XS:=fun ρ h=>ob (e ρ h) fun x h1=>match ρ[i]? with
 | some (.own (.ins k ns xs))=>if k∈cs/\ns.length<1000 then some (.nx (ρ.set i (.own (.ins k (putN f x ns xs).1 (putN f x ns xs).2))),h1) else none
 | _=>none
theorem RepL.putN {F:Hp}{m:List Addr}{f:Str}{x:PV}{v:V}{ns:List Str}{xs:List PV}{vs:List V}(r:RepL K F m xs vs) (hl:vs.length=ns.length) (b:Rep K F m x v) :
  ∃ us,yjm f v (ns.zip vs)=(PX.putN f x ns xs).1.zip us/\us.length=(PX.putN f x ns xs).1.length/\RepL K F m (PX.putN f x ns xs).2 us:=by
 rw [yow f v ns vs hl];unfold PX.putN
 by_cases h:f∈ns
 .rw [if_pos h,if_pos h];exact ⟨_,rfl,by simp_all,r.set _ b⟩
 .rw [if_neg h,if_neg h];exact ⟨_,rfl,by simp_all,r.snoc b⟩
def ytE (K:Ck) (t:TS) (s:XS):Prop:=∀ (W0 W:Wd) (ρ ρ':PSt) (Z:St) (D:Ends) (h':AH),Good K W0 W ρ Z->s ρ W.h=some (.nx ρ',h')->(∀ W',W'.h=h'->Lf K W W'->Good K W0 W' ρ' Z->D.nx Z W'.H)->t D Z W.H
theorem yuJ {cs:List Nat}{i:Nat}{f:Str}{l:TE}{r:XE}(t:∀ k∈cs,Cls K.K (K.A k)/\NoAttr K.K (K.A k) f) (a:ybX K l r):ytE K (yDw K.K (yqh i) l f) (ycB cs i f r):=by
 intro H W ρ ρ' Z D h' g e q;obtain ⟨x,h1,F,d⟩:=yj e;split at d
 .rename_i k ns xs s;split at d
  .rename_i c;cases d;refine a H W ρ Z _ x _ g F fun v I G u A=>?_
   have m:=g.step u;obtain ⟨p,j,o,L,M,h,n,vs,B,E,w⟩:=m.own i _ s;obtain ⟨us,J,C,y⟩:=w.putN E A;refine ⟨_,j,p,_,n,_,rfl,B,(t k c.1).1,(t k c.1).2,by simp_all,?_⟩;rw [J];exact q (yux I p _) G (yrd u o) (m.mut s j o L h (fun z=>by cases z) ⟨h,n,us,yK,C,y⟩)
  .cases d
 .cases d
theorem yuK {t u:TS}{s s':XS}(a:ytE K t s) (b:ytE K u s'):ytE K (yDp t u) (yl s s'):=by
 intro f W ρ ρ' Z D h' g e q;obtain ⟨o1,h1,p,d⟩:=yj e;cases o1 with
 | nx ρ1=>exact a f W ρ ρ1 Z _ h1 g p fun j n l h=>b f j ρ1 ρ' Z D h' h (by rw [n];exact d) fun m o i k=>q m o (l.trans i) k
 | rt y=>cases d
 | bk y=>cases d
 | ct y=>cases d
noncomputable def ymJ (N:Nat) (k:Nat) (s:XS):List PV->AH->Option (Nd×AH):=fun xs h=>ob (s (.own (.ins k [] [])::(xs.map .val++replicate (N-(xs.length+1)) .no)) h) fun o h1=>match o with|.nx ρ=>(match ρ[0]? with|some (PVar.own d)=>some (d,h1)|_=>none)|_=>none
noncomputable def spI (K:Ck) (n k:Nat) (f:List PV->AH->Option (Nd×AH)):Sp:=fun vs H Q _=>∃ (W:Wd) (x dx:Addr) (args:List V) (xs:List PV) (d:Nd) (h':AH),vs=.ref x::args/\W.H x=none/\W.H dx=none/\dx≠x/\H=upd (upd W.H dx (.own x)) x (.ins (K.A k) dx []) /\
 WOk K W/\ycI K W xs args/\xs.length=n/\f xs W.h=some (d,h')/\∀ W',W'.h=h'->Le K W W'->x∉W'.m->d≠.dead->NdAt K W'.F W'.H W'.m d x->Q .non W'.H
theorem yys {n k:Nat}{f} {vs:List V}{H:Hp}{Q:VK}{E:XK}(h:spI K n k f vs H Q E):vs.length=n+1:=by obtain ⟨W,x,b,args,xs,d,h',rfl,_,_,_,_,w,r,a,_⟩:=h;rw [length_cons,r.len,a]
theorem yuL {N:List Str}{n k:Nat}{t:TS}{s:XS}{vs:List V}{H:Hp}{Q:VK}{E:XK}{bk ct:St->Hp->Prop}(hN:n+1<=N.length) (a:ytE K t s) (h:spI K n k (ymJ N.length k s) vs H Q E):t ⟨fun _ H'=>Q .non H',Q,bk,ct⟩ (L2.start N vs) H:=by
 obtain ⟨W,x,dx,args,xs,d,h',rfl,hx,hd,hne,rfl,w,r,hn,e,q⟩:=h;obtain ⟨o,h1,e1,f1⟩:=yj e;have l1:Le K W (yhE W dx (.own x)):=ycQ w hd;have hx1:(yhE W dx (.own x)).H x=none:=(yO hne.symm).trans hx;have l2:Le K (yhE W dx (.own x)) (yhE (yhE W dx (.own x)) x (.ins (K.A k) dx [])):=ycQ l1.ok hx1;have l:=l1.trans l2;have gs:=ygE (K:=K) (N:=N.drop 1) w r;have g:Good K W (yhE (yhE W dx (.own x)) x (.ins (K.A k) dx [])) (.own (.ins k [] [])::(xs.map .val++replicate (N.length-(xs.length+1)) .no)) (L2.start N (.ref x::args)):=by
  have es:L2.start N (.ref x::args)=some (.ref x)::L2.start (N.drop 1) args:=by
   have e3:N.length-(args.length+1)=(N.drop 1).length-args.length:=by rw [length_drop];omega
   unfold L2.start;rw [map_cons,List.cons_append,length_cons,e3]
  have eN:N.length-(xs.length+1)=(N.drop 1).length-xs.length:=by rw [length_drop];omega
  rw [es,eN];have gs':=gs.step l;have noown:∀ (j:Nat) (d:Nd),(xs.map PVar.val++replicate ((N.drop 1).length-xs.length) .no)[j]?≠some (.own d):=fun j d z=>by
   by_cases hj:j<xs.length
   .rw [getElem?_append_left (by simpa using hj),getElem?_map,List.getElem?_eq_getElem hj] at z;cases z
   .rw [getElem?_append_right (by simp;omega),getElem?_replicate] at z;split at z<;>cases z
  refine ⟨l,by rw [length_cons,length_cons,gs.len],fun j y z=>?_,fun j d z=>?_,fun i j d d' hij z z'=>?_⟩
  .cases j with
   | zero=>cases z
   | succ j=>exact gs'.val j y z
  .cases j with
   | zero=>cases z;exact ⟨x,rfl,w.out hx,hx,(fun z=>by cases z),w.ff hx,dx,[],yK,rfl,rfl⟩
   | succ j=>exact absurd z (noown j d)
  .cases i with
   | zero =>
    cases j with
    | zero=>exact absurd rfl hij
    | succ j=>exact absurd z' (noown j d')
   | succ i=>exact absurd z (noown i d)
 cases o with
 | rt y=>cases f1
 | bk ρ=>cases f1
 | ct ρ=>cases f1
 | nx ρ =>
  refine a W _ _ ρ _ _ h1 g e1 fun W' ew lf g'=>?_
  dsimp only at f1;split at f1
  .rename_i d' hd';cases f1;obtain ⟨p,b1,b2,b3,b4,b5⟩:=g'.own 0 _ hd';have b1:some (some (V.ref x))=some (some (V.ref p)):=b1;cases b1;exact q W' ew g'.le b2 b4 b5
  .cases f1
def yfG (f:List PV->AH->Option (Nd×AH)) (a:XA):XO:=fun ρ h=>ob (a ρ h) f
theorem yox {n k:Nat}{f} {y:XK}{t:TA}{e:XA}(a:ymG K t e) (B:∀ ρ h xs h',e ρ h=some (xs,h')->xs.length=n):ymH K (ytW (K.A k) (spI K n k f) [] y t) (yfG f e):=by
 intro D W ρ Z Q d h' g C q;obtain ⟨xs,h1,o,r⟩:=yj C;refine a D W ρ Z _ xs h1 g o fun vs E s l w=>?_
 subst s;intro x F m p i;rw [append_nil];exact ⟨E,x,F,vs,xs,d,h',rfl,m,p,i,rfl,l.ok,w,B _ _ _ _ o,r,fun z u v A j c=>⟨rfl,q x z u (l.trans v) A (l.fresh m) j c⟩⟩
def yrq (k:Nat):XO:=fun _ h=>some (.ins k [] [],h)
theorem yrr {k:Nat}:ymH K (ywz (K.A k)) (yrq k):=by intro m W ρ Z Q d h' g e q;cases e;intro x b c l f;have w:=g.ok;have i:Le K W (yhE W b (.own x)):=ycQ w l;have h:(yhE W b (.own x)).H x=none:=(yO f.symm).trans c;have j:Le K _ (yhE _ x (.ins (K.A k) b [])):=ycQ i.ok h;exact q x (yhE (yhE W b _) x _) rfl (i.trans j) (w.out c) c (fun z=>by cases z) ⟨w.ff c,b,[],yK,rfl,rfl⟩
noncomputable def ynw (m:Str) (f:Nat->Fn) (e:XE):XE:=fun ρ h=>ob (e ρ h) fun x h1=>match ygG x h1 with|some (k,ns,_)=>if m∈ns then none else f k [x] h1|none=>none
theorem yuM {m:Str}{f:Nat->Fn}{i:TE}{j:XE}(a:ybX K i j):ybX K (ywA K.A m (fun k=>spE K 1 (f k)) i) (ynw m f j):=by
 intro y W ρ Z Q z h' g e q;obtain ⟨x,h1,A,d⟩:=yj e;refine a y W ρ Z _ x h1 g A fun v B o h l=>?_
 subst o;split at d
 .rename_i k ns xs p;split at d
  .cases d
  .rename_i t;obtain ⟨b,s,vs,ev,hp,hl,C⟩:=yfZ h.ok p l;exact ⟨b,k,s,_,ev,hp,ydD t,B,[x],z,h',rfl,h.ok,⟨v,[],rfl,l,rfl⟩,rfl,d,fun u w r n r2=>q u w r (h.trans n) r2⟩
 .cases d
noncomputable def yBc (tb:List (Nat×Nat×Bool)) (x c:PV) (h:AH):Option Bool:=match c with
 | .ty n=>(match x with
  | .int _=>if n = "int" then some true else if n = "bool"\/n = "str"\/n = "list"\/n = "tuple"\/n = "dict" then some false else none
  | .bl _=>if n = "int"\/n = "bool" then some true else if n = "str"\/n = "list"\/n = "tuple"\/n = "dict" then some false else none
  | .str _=>if n = "str" then some true else if n = "int"\/n = "bool"\/n = "list"\/n = "tuple"\/n = "dict" then some false else none
  | .non=>if n = "int"\/n = "bool"\/n = "str"\/n = "list"\/n = "tuple"\/n = "dict" then some false else none
  | .tup _=>if n = "tuple" then some true else if n = "int"\/n = "bool"\/n = "str"\/n = "list"\/n = "dict" then some false else none
  | _=>(match ybE x h with|some _=>if n = "list" then some true else if n = "int"\/n = "bool"\/n = "str"\/n = "tuple"\/n = "dict" then some false else none|none=>none))
 | .cls c'=>(match ygG x h with|some (k,_)=>(tb.find? fun r=>r.1 == k && r.2.1 == c').map (·.2.2)|none=>none)
 | _=>none
noncomputable def yfi (tb:List (Nat×Nat×Bool)):List PV->AH->Option (PV×AH):=fun xs h=>match xs with|[x,c]=>(match yBc tb x c h with|some b=>some (.bl b,h)|none=>none)|_=>none
theorem ydz {tb:List (Nat×Nat×Bool)}(ht:∀ r∈tb,∀ (H:Hp) (a dx:Addr) (fs:List (Str×V)),H a=some (.ins (K.A r.1) dx fs)->IsI K.K H (.ref a) (.ref (K.A r.2.1)) r.2.2):yhS K (yFv K.K) (yfi tb):=by
 intro W xs vs Q z h' w r e q;unfold yfi at e;split at e
 .rename_i x c;split at e
  .rename_i b hb;cases e;obtain ⟨v,u,rfl,rx,ru⟩:=yFX r;refine ⟨v,u,b,rfl,?_,q _ W rfl (.refl w) rfl⟩;unfold yBc at hb;split at hb
   .rename_i n;obtain rfl:u=.ty n:=ru;split at hb
    .rw [show v=_ from rx]
     repeat' split at hb
     all_goals cases hb
     .rename_i hn;subst hn;exact ymX
     .rename_i hn;rcases hn with rfl|rfl|rfl|rfl|rfl
      .exact ylw
      .exact ynd
      .exact ylA
      .exact yjS
      .exact ylB
    .rw [show v=_ from rx]
     repeat' split at hb
     all_goals cases hb
     .rename_i hn;rcases hn with rfl|rfl
      .exact ypB
      .exact ymZ
     .rename_i hn;rcases hn with rfl|rfl|rfl|rfl
      .exact ypC
      .exact yne
      .exact ylC
      .exact ynf
    .rw [show v=_ from rx]
     repeat' split at hb
     all_goals cases hb
     .rename_i hn;subst hn;exact yna
     .rename_i hn;rcases hn with rfl|rfl|rfl|rfl|rfl
      .exact yng
      .exact ylD
      .exact ylE
      .exact yjT
      .exact ylF
    .rw [show v=_ from rx]
     repeat' split at hb
     all_goals cases hb
     .rename_i hn;rcases hn with rfl|rfl|rfl|rfl|rfl|rfl
      .exact ymY
      .exact ylG
      .exact ynh
      .exact ylH
      .exact yjU
      .exact ylI
    .obtain ⟨a,us,rfl,hs,_⟩:=rx;have hp:(∃ xs,W.H a=some (.tup xs))\/∃ o,K.K.lookup a=some o/\o.cls=.type "tuple":=hs.elim (fun h=>.inl ⟨_,w.le _ _ h⟩) fun ⟨o,its,n,e1,e2,_⟩=>.inr ⟨o,e1,e2⟩
     repeat' split at hb
     all_goals cases hb
     .rename_i hn;subst hn;exact yjW hp
     .rename_i hn;rcases hn with rfl|rfl|rfl|rfl|rfl
      .exact ynk hp
      .exact ylL hp
      .exact ynl hp
      .exact ylM hp
      .exact ylN hp
    .split at hb
     .rename_i ys hy;obtain ⟨a,us,rfl,hp,_⟩:=yba w hy rx
      repeat' split at hb
      all_goals cases hb
      .rename_i hn;subst hn;exact ylx hp
      .rename_i hn;rcases hn with rfl|rfl|rfl|rfl|rfl
       .exact yni hp
       .exact ylJ hp
       .exact ynj hp
       .exact yjV hp
       .exact ylK hp
     .cases hb
   .rename_i c';obtain rfl:u=.ref (K.A c'):=ru;split at hb
    .rename_i k p hi;obtain ⟨r',h1,h2⟩:=Option.map_eq_some_iff.mp hb;have hm:=List.mem_of_find?_eq_some h1;have hp:=List.find?_some h1;simp only [and_eq_true,beq_iff_eq] at hp;obtain ⟨a,dx,us,rfl,hs,_⟩:=yfZ w hi rx;obtain ⟨p1,p2⟩:=hp;have:=ht r' hm W.H a dx (p.1.zip us) (by rw [p1];exact hs);rw [p2,h2] at this;exact this
    .cases hb
   .cases hb
  .cases e
 .cases e
end PX
namespace PX
open PySem L2
section
variable {ρ:PSt}{h h1:AH}{x y z:PV}{a b c:XE}{ca cb:XT}{aa:XA}{eo:XO}{s u:XS}{i:Nat}{p:P2}
theorem ycA {Z e:Type}{x:Z}{h:AH}{f:Z->AH->Option e}:ob (some (x,h)) f=f x h:=id rfl
theorem yDR {Z d:Type}{f:Z->AH->Option d}:ob none f=none:=id rfl
theorem yBd {Z e j:Type}{o:Option _}{f:Z->AH->Option _}{g:e->AH->Option j}:ob (ob o f) g=ob o fun x h=>ob (f x h) g:=by cases o<;>rfl
theorem yDS {Z g:Type}{q:Prop} [Decidable q] {o e:Option _}{f:Z->AH->Option g}:ob (if q then o else e) f=if q then ob o f else ob e f:=by split<;>rfl
theorem yBe:ye 0 (.val x::ρ) h=some (x,h):=id rfl
theorem yBf {v:PVar}{n:Nat}:ye (n+1) (v::ρ) h=ye n ρ h:=by simp [ye]
theorem x_c:xC x ρ h=some (x,h):=id rfl
theorem yDa:xOp p a b ρ h=ob (a ρ h) fun x h1=>ob (b ρ h1) fun y h2=>p x y h2:=id rfl
theorem yDT {p:P2O}:ynm p a b ρ h=ob (a ρ h) fun x h1=>ob (b ρ h1) fun y h2=>p x y h2:=id rfl
theorem yFY {p}:xUn p a ρ h=ob (a ρ h) fun x h1=>p x h1:=id rfl
theorem yFA {k:Bool}:oB (.bl k) h=some (k,h):=id rfl
theorem yyt {p f:P2}:yei p f a b c ρ h=ob (a ρ h) fun x h1=>ob (b ρ h1) fun y h2=>ob (p x y h2) fun z e=>ob (oB z e) fun k e=>if k=true then ob (c ρ e) fun w g=>f y w g else some (.bl false,e):=id rfl
theorem ywH:yn a ρ h=ob (a ρ h) oB:=id rfl
theorem yBg:yfW a b ρ h=ob (a ρ h) fun x h1=>ob (oB x h1) fun k h1=>if k=true then b ρ h1 else some (.bl false,h1):=id rfl
theorem yDU:yui ca cb ρ h=ob (ca ρ h) fun k h1=>if k=true then cb ρ h1 else some (false,h1):=id rfl
theorem yFZ:xOr ca cb ρ h=ob (ca ρ h) fun k h1=>if k=true then some (true,h1) else cb ρ h1:=id rfl
theorem yDV:yfE ca ρ h=ob (ca ρ h) fun k h1=>some (!k,h1):=id rfl
theorem yGa:xIf ca a b ρ h=ob (ca ρ h) fun k h1=>if k=true then a ρ h1 else b ρ h1:=id rfl
theorem yuN:yi ρ h=some ([],h):=id rfl
theorem yBh:yc a aa ρ h=ob (a ρ h) fun x h1=>ob (aa ρ h1) fun xs h2=>some (x::xs,h2):=id rfl
theorem yDW:ygz aa ρ h=ob (aa ρ h) fun xs h1=>if xs.length<=1000 then some (.tup xs,h1) else none:=id rfl
theorem yDX:yeg aa ρ h=ob (aa ρ h) fun xs h1=>if xs.length<=1000 then some (.lst xs,h1) else none:=id rfl
noncomputable def fzN:Nd->AH->Option (PV×AH)
 | .lst xs,h=>some (.lst xs,h)
 | .ins k ns xs,h=>some (.ins k ns xs,h)
 | _,_=>none
theorem yDb:xFz eo ρ h=ob (eo ρ h) fzN:=by unfold xFz;congr;funext d h1;cases d<;>rfl
theorem yDY {xs:List PV}:fzN (.lst xs) h=some (.lst xs,h):=id rfl
theorem yDZ:yiQ eo ρ h=ob (eo ρ h) fun d h1=>some (.loc h1.length,h1++[d]):=id rfl
theorem x_call {f:Fn}:yT f aa ρ h=ob (aa ρ h) f:=id rfl
theorem yGb {f}:xCB f aa ρ h=ob (aa ρ h) f:=id rfl
theorem yEa {f}:ygA f aa ρ h=ob (aa ρ h) f:=id rfl
theorem yDc {q} {p:PM}:xBM q p a aa ρ h=ob (a ρ h) fun x h1=>if q x h1=true then ob (aa ρ h1) fun xs h2=>p x xs h2 else none:=id rfl
theorem yyu {s:Str}:isStr (.str s) h=true:=id rfl
theorem yBi {f}:yfG f aa ρ h=ob (aa ρ h) f:=id rfl
theorem yBj:yM ρ h=some (.nx ρ,h):=id rfl
noncomputable def sqK (u:XS):Out->AH->Option (Out×AH)
 | .nx ρ,h=>u ρ h
 | .rt x,h=>some (.rt x,h)
 | .bk ρ,h=>some (.bk ρ,h)
 | .ct ρ,h=>some (.ct ρ,h)
theorem ykb:yl s u ρ h=ob (s ρ h) (sqK u):=by unfold yl;congr;funext o h1;cases o<;>rfl
theorem yBk:sqK u (.nx ρ) h=u ρ h:=id rfl
theorem yEb:sqK u (.rt x) h=some (.rt x,h):=id rfl
theorem yrs:ybk a ρ h=ob (a ρ h) fun _ h1=>some (.nx ρ,h1):=id rfl
theorem ypJ:yN a ρ h=ob (a ρ h) fun x h1=>some (.rt x,h1):=id rfl
theorem yBl:ybr ca s u ρ h=ob (ca ρ h) fun k h1=>if k=true then s ρ h1 else u ρ h1:=id rfl
theorem yrt {g:XG}:ybL a g ρ h=ob (a ρ h) fun x h1=>(g x ρ).bind fun ρ'=>some (.nx ρ',h1):=id rfl
theorem yBm:yhT eo i ρ h=ob (eo ρ h) fun d h1=>some (.nx (ρ.set i (.own d)),h1):=id rfl
theorem yBn:yr i x ρ=some (ρ.set i (.val x)):=id rfl
theorem yEc:ytA i s ρ h=s (ynp i ρ) h:=id rfl
theorem yEd {v:PVar}:ynp 0 (v::ρ)=yur v::ρ:=id rfl
theorem yEe {v:PVar}{n:Nat}:ynp (n+1) (v::ρ)=v::ynp n ρ:=id rfl
theorem yEf {xs:List PV}:yur (.own (.lst xs))=.val (.lst xs):=id rfl
theorem yEg {e:XA}{g:XG}:yhF e g s ρ h=ob (e ρ h) fun xs h1=>yeR g s xs ρ h1:=id rfl
noncomputable def fnK:Out->AH->Option (PV×AH)
 | .rt x,h=>some (x,h)
 | .nx _,h=>some (.non,h)
 | _,_=>none
theorem yp {N:Nat}{xs:List PV}:ybs N s xs h=ob (s (xs.map .val++replicate (N-xs.length) .no) h) fnK:=by unfold ybs;congr;funext o h1;cases o<;>rfl
theorem yEh:fnK (.rt x) h=some (x,h):=id rfl
theorem yEi:fnK (.nx ρ) h=some (.non,h):=id rfl
noncomputable def yeO (cs:List Nat) (f:Str) (x:PV) (h:AH):Option (PV×AH):=match ygG x h with|some (k,ns,xs)=>if k∈cs/\f∈ns then (match xs[ns.idxOf f]? with|some y=>some (y,h)|none=>none) else none|none=>none
theorem ykc {cs:List Nat}{f:Str}:ybd cs f a ρ h=ob (a ρ h) (yeO cs f):=id rfl
noncomputable def yuO (m:Str) (f:Nat->Fn) (x:PV) (h:AH):Option (PV×AH):=match ygG x h with|some (k,ns,_)=>if m∈ns then none else f k [x] h|none=>none
theorem yBo {m:Str}{f:Nat->Fn}:ynw m f a ρ h=ob (a ρ h) (yuO m f):=id rfl
theorem x_i {g:Int->Int->PV}{i j:Int}:oI g (.int i) (.int j) h=some (g i j,h):=id rfl
theorem yGc {C:Int->Int->Prop} [∀ i j,Decidable (C i j)] {g:Int->Int->PV}{i j:Int}:oIc C g (.int i) (.int j) h=if C i j then some (g i j,h) else none:=id rfl
theorem yru {i j:Int}(h1:-18446744073709551616<j) (h2:j<18446744073709551616):MulOk i j=True:=eq_true (.inr ⟨h1,h2⟩)
theorem yBp {i j:Int}(h1:-18446744073709551616<i) (h2:i<18446744073709551616):MulOk i j=True:=eq_true (.inl ⟨h1,h2⟩)
theorem yEj {i j:Int}(h1:0<=i) (h2:i<18446744073709551616) (e:0<=j) (d:j<=1000000):PowOk i j=True:=eq_true ⟨⟨h1,h2⟩,e,d⟩
theorem yEk {i j:Int}:oEq (.int i) (.int j) h=some (.bl (decide (i=j)),h):=by simp [oEq,sv,yws]
theorem yEl {i j:Str}:oEq (.str i) (.str j) h=some (.bl (decide (i=j)),h):=by simp [oEq,sv,yws]
theorem yEm {i j:Int}:oNe (.int i) (.int j) h=some (.bl !decide (i=j),h):=by simp [oNe,sv,yws]
theorem yEn {i j:Str}:oNe (.str i) (.str j) h=some (.bl !decide (i=j),h):=by simp [oNe,sv,yws]
theorem yEo:yyq x .non h=some (.bl (isN x),h):=id rfl
theorem yBq:yuD x .non h=some (.bl !isN x,h):=id rfl
theorem ywI {i j:Str}:ybh (.str i) (.str j) h=if i.length+j.length<=100000 then some (.str (i++j),h) else none:=id rfl
theorem ygH {xs:List PV}{i:Int}:ybR (.lst xs) (.int i) h=(atI xs i).bind fun v=>some (v,h):=by simp only [ybR];cases atI xs i<;>rfl
theorem yEp {xs:List Int}{i:Int}:ybR (.scr xs) (.int i) h=(atI xs i).bind fun v=>some (.int v,h):=by simp only [ybR];cases atI xs i<;>rfl
theorem yyv {xs:List PV}{i:Int}:ybc (.tup xs) (.int i) h=(atI xs i).bind fun v=>some (v,h):=by simp only [ybc];cases atI xs i<;>rfl
theorem yBr {s:Str}{i:Int}:ytD (.str s) (.int i) h=(atI s.cps.toList i).bind fun c=>if s.length<=100000 then some (sgn c,h) else none:=by simp only [ytD];cases atI s.cps.toList i<;>rfl
theorem yBs {xs:List Int}{f e:Option Int}:ywF (.scr xs) f e h=some (.lst (yqj (xs.map .int) f e),h):=id rfl
theorem yrv {xs ys:List PV}:yot (.lst xs) (.lst ys) h=if xs.length+ys.length<=100000 then some (.lst (xs++ys),h) else none:=id rfl
theorem yrw {xs:List PV}{k:Int}:yqk (.lst xs) (.int k) h=if -1000000<=k/\k<=100000/\xs.length*k.toNat<=100000 then some (.lst (repL k.toNat xs),h) else none:=id rfl
theorem yEq {p} {lo hi}:ytz p a lo hi ρ h=ob (a ρ h) fun x h1=>ob (lo ρ h1) fun l h2=>ob (hi ρ h2) fun u h3=>p x l u h3:=id rfl
theorem yBt:ygC a ρ h=ob (a ρ h) fun x h1=>match x with|.int i=>some (some i,h1)|_=>none:=id rfl
theorem yuP:yhR ρ h=some (none,h):=id rfl
theorem ygX {xs:List PV}:yca [.lst xs] h=some (.int xs.length,h):=id rfl
theorem yBu {xs:List Int}:yca [.scr xs] h=some (.int xs.length,h):=id rfl
theorem yBv {z:Str}:yns [.str z] h=if z.length<=100000 then some (.int z.length,h) else none:=id rfl
theorem ywJ {k:Int}:yhV [.int k] h=if k.natAbs.log2<1920 then some (.str (toString k),h) else none:=id rfl
theorem yyw {xs:List PV}:yX [.lst xs] h=some (.lst xs,h):=id rfl
theorem yyx {xs:List PV}(e:a ρ h=some (.lst xs,h1)):xIL a ρ h=some (xs,h1):=by unfold xIL;rw [e];rfl
theorem ywK {e:XA}{ix:List Nat}:yfY e ix a ρ h=ob (e ρ h) fun xs h1=>if xs.length<=100000 then ob (yjp a (ygW ix ρ) xs h1) fun ys h2=>some (.lst ys,h2) else none:=id rfl
end
end PX
namespace L2
open PySem PySem.Spec PyProof.Rows
section
variable {κ:Type} [DecidableEq κ]
noncomputable def ylQ (kvs:List (κ×V)) (k:κ):Option V:=(kvs.find? fun kv=>decide (kv.1=k)).map (·.2)
noncomputable def putK (kvs:List (κ×V)) (k:κ) (v:V):List (κ×V) :=
 if (kvs.any fun kv=>decide (kv.1=k))=true then kvs.map (fun kv=>if kv.1=k then (kv.1,v) else kv) else kvs++[(k,v)]
theorem ykd {p:κ×V}{r:List _}{k:κ}(e:p.1=k):ylQ (p::r) k=some p.2:=by simp [ylQ,find?_cons,e]
theorem yke {p:κ×V}{r:List _}{k:κ}(e:¬ p.1=k):ylQ (p::r) k=ylQ r k:=by simp [ylQ,find?_cons,e]
theorem yoy (k:κ):∀ kvs,(kvs.any fun b=>decide (b.1=k))=(ylQ kvs k).isSome
 | []=>rfl
 | p::r=>by
  rw [any_cons]
  by_cases e:p.1=k
  .simp only [ykd e,decide_eq_true e,Bool.true_or,Option.isSome_some]
  .rw [yke e,decide_eq_false e];exact yoy k r
theorem yfH (kvs:List (κ×V)) (k:κ) (v:V):(putK kvs k v).length<=kvs.length+1:=by
 unfold putK;split
 .rw [length_map];omega
 .rw [length_append,length_cons,length_nil];omega
theorem RelO.isSome_eq {o:Option V}{u:Option Value}(r:RelO o u):o.isSome=u.isSome:=by
 cases o with
 | none=>cases u with
  | none=>rfl
  | some _=>exact (r).elim
 | some _=>cases u with
  | none=>exact (r).elim
  | some _=>rfl
theorem KV.val {kvs:List (κ×V)}{vs:List (κ×Value)}(r:KV kvs vs) (k:κ):RelO (ylQ kvs k) (valueAt vs k):=by
 unfold KV at r
 induction r with
 | nil=>exact True.intro
 | @cons p q ps qs h t ih =>
  obtain ⟨h1,h2⟩:=h
  by_cases e:p.1=k
  .have e':q.1=k:=h1.symm.trans e;have b:valueAt (q::qs) k=some q.2:=by simp [valueAt,find?_cons,e']
   rw [ykd e,b];exact h2
  .have e':¬ q.1=k:=fun z=>e (h1.trans z)
   have b:valueAt (q::qs) k=valueAt qs k:=by simp [valueAt,find?_cons,e']
   rw [yke e,b];exact ih
theorem KV.any {kvs:List (κ×V)}{vs:List (κ×Value)}(r:KV kvs vs) (k:κ):(kvs.any fun kv=>decide (kv.1=k))=vs.any fun kv=>decide (kv.1=k):=by
 unfold KV at r
 induction r with
 | nil=>rfl
 | cons h t ih=>rw [any_cons,any_cons,ih,h.1]
theorem KV.repl {kvs:List (κ×V)}{vs:List (κ×Value)}(r:KV kvs vs) (k:κ) {y:V}{u:Value}(ry:RelV y u) :
  KV (kvs.map fun kv=>if kv.1=k then (kv.1,y) else kv) (vs.map fun kv=>if kv.1=k then (kv.1,u) else kv):=by
 unfold KV at r ⊢
 induction r with
 | nil=>exact .nil
 | @cons p q ps qs h t ih =>
  rw [map_cons,map_cons];refine .cons ?_ ih;obtain ⟨h1,h2⟩:=h
  by_cases e:p.1=k
  .rw [if_pos e,if_pos (h1.symm.trans e)];exact ⟨h1,ry⟩
  .rw [if_neg e,if_neg (fun z=>e (h1.trans z))];exact ⟨h1,h2⟩
theorem KV.put {kvs:List (κ×V)}{vs:List (κ×Value)}(r:KV kvs vs) (k:κ) {y:V}{u:Value}(ry:RelV y u):KV (putK kvs k y) (stored vs k u):=by
 unfold putK stored;rw [r.any k]
 by_cases e:(vs.any fun kv=>decide (kv.1=k))=true
 .rw [if_pos e,if_pos e];exact r.repl k ry
 .rw [if_neg e,if_neg e];exact Paired.snoc r ⟨rfl,ry⟩
theorem KV.length {kvs:List (κ×V)}{vs:List _}(r:KV kvs vs):kvs.length=vs.length:=Paired.length r
end
theorem yuQ {P:Program}{w:World}{k:Key}{u:Value}(r:RelV (kV k) u):(ycP P w).is k u=true:=by
 cases k with
 | inl i=>obtain ⟨t,e⟩:=(r);subst e;exact ymM P w i t
 | inr x=>obtain ⟨t,e⟩:=(r);subst e;exact ymN P w x t
theorem ylR {P:Program}{w:World}:∀ {ks:List Key}{us:List Value},Vals (ks.map kV) us->ItemsAre (ycP P w) ks us
 | [],_,r=>by cases r;exact .nil
 | k::ks,_,r=>by
  cases r with
  | cons h t=>exact .cons (yuQ h) (ylR t)
abbrev KT (H:Hp):List (List Key×V)->List (List Key×Addr×Value)->Prop:=Paired fun p q=>p.1=q.1/\H q.2.1=some (.tup (p.1.map kV))/\RelV p.2 q.2.2
theorem KT.val {H:Hp}{kvs:List (List Key×V)}{xs:List (List Key×Addr×Value)}(r:KT H kvs xs) (k:List Key):RelO (ylQ kvs k) ((atKey xs k).map (·.2)):=by
 induction r with
 | nil=>exact True.intro
 | @cons p q ps qs h t ih =>
  obtain ⟨h1,_,h2⟩:=h
  by_cases e:p.1=k
  .have e':q.1=k:=h1.symm.trans e;have b:atKey (q::qs) k=some q.2:=by simp [atKey,find?_cons,e']
   rw [ykd e,b];exact h2
  .have e':¬ q.1=k:=fun z=>e (h1.trans z)
   have b:atKey (q::qs) k=atKey qs k:=by simp [atKey,find?_cons,e']
   rw [yke e,b];exact ih
theorem KT.repl {H:Hp}{kvs:List (List Key×V)}{xs:List (List Key×Addr×Value)}(r:KT H kvs xs) (k:List Key) {y:V}{u:Value}(ry:RelV y u) :
  KT H (kvs.map fun kv=>if kv.1=k then (kv.1,y) else kv) (xs.map (putAt k u)):=by
 induction r with
 | nil=>exact .nil
 | @cons p q ps qs h t ih =>
  rw [map_cons,map_cons];refine .cons ?_ ih;obtain ⟨h1,h2,h3⟩:=h;unfold putAt
  by_cases e:p.1=k
  .rw [if_pos e,if_pos (h1.symm.trans e)];exact ⟨h1,h2,ry⟩
  .rw [if_neg e,if_neg (fun z=>e (h1.trans z))];exact ⟨h1,h2,h3⟩
theorem KT.put {H:Hp}{kvs:List (List Key×V)}{xs:List (List Key×Addr×Value)}(r:KT H kvs xs) (k:List Key) {b:Addr}{y:V}{u:Value}(hb:H b=some (.tup (k.map kV))) (ry:RelV y u) :
  KT H (putK kvs k y) (storedH xs k b u):=by
 have e:(kvs.any fun kv=>decide (kv.1=k))=(atKey xs k).isSome:=by rw [yoy,(r.val k).isSome_eq,isSome_map]
 unfold putK storedH;rw [e]
 by_cases q:(atKey xs k).isSome=true
 .rw [if_pos q,if_pos q];exact r.repl k ry
 .rw [if_neg q,if_neg q];exact Paired.snoc r ⟨rfl,hb,ry⟩
theorem KT.keeps {H c:Hp}{kvs:List _}{xs:List _}(r:KT H kvs xs) (d:∀ b ys,H b=some (.tup ys)->c b=some (.tup ys)):KT c kvs xs :=
 Paired.mapP r fun _ _ z=>⟨z.1,d _ _ z.2.1,z.2.2⟩
section
variable {P:Program}{w:World}{H:Hp}{h:Heap}{a:Addr}
theorem yBw {u:HO}(b:HOk P w H h) (e:Rd H a u):ObjOk P w H h a u:=e.ok b
theorem yuR {kvs:List _}(c:HOk P w H h) (e:Rd H a (.dK kvs)):kvs.length<=sizeLine/\(a == sysModules)=false/\∃ vs,KV kvs vs/\h.DictOf (ycP P w) a vs :=
 yBw c e
theorem yyy {kvs:List _}(c:HOk P w H h) (e:H a=some (.dK kvs)):kvs.length<=sizeLine/\(a == sysModules)=false/\∃ vs,KV kvs vs/\h.DictOf (ycP P w) a vs:=yuR c (.inl e)
theorem yoz {ks:List Key}(d:HOk P w H h) (e:H a=some (.tup (ks.map kV))):(tupleKind (ycP P w)).is h ks a:=by
 obtain ⟨_,its,r,o,h1,h2,n,c⟩:=(d a _ e)
 exact ⟨o,its.toArray,n,h1,h2,c,by simpa using ylR r⟩
theorem yuS {kvs:List (List Key×V)}(ok:HOk P w H h) (e:Rd H a (.dT kvs)):kvs.length<=sizeLine/\(a == sysModules)=false /\
  ∃ xs,KT H kvs xs/\h.DictOfH (tupleKind (ycP P w)) a xs:=by
 obtain ⟨z,y,xs,r,o,es,ep,h1,h2,h3,h4,h5⟩:=(show ObjOk P w H h a (.dT kvs) from yBw ok e)
 refine ⟨z,y,xs,r,o,es,ep,h1,h2,h3,h4,fun x hx=>?_,h5⟩;have all:∀ {l:List (List Key×V)}{m:List (List Key×Addr×Value)},KT H l m->∀ x∈m,(tupleKind (ycP P w)).is h x.1 x.2.1:=by
  intro l m q
  induction q with
  | nil=>intro x hx;exact nomatch hx
  | @cons p q ps qs hq t ih =>
   intro x hx;rcases mem_cons.mp hx with e|hx
   .subst e;exact yoz ok (by rw [<- hq.1];exact hq.2.1)
   .exact ih x hx
 exact all r x hx
theorem yEr {kvs:List _}(c:HOk P w H h) (e:H a=some (.dT kvs)):kvs.length<=sizeLine/\(a == sysModules)=false /\
  ∃ xs,KT H kvs xs/\h.DictOfH (tupleKind (ycP P w)) a xs:=yuS c (.inl e)
end
def DGet (H:Hp) (a:Addr) (y:V) (r:Option V):Prop :=
 (∃ kvs k,Rd H a (.dK kvs)/\y=kV k/\r=ylQ kvs k)\/∃ kvs k b,Rd H a (.dT kvs)/\y=.ref b/\H b=some (.tup (k.map kV))/\r=ylQ kvs k
def DPut (H:Hp) (a:Addr) (y v:V) (H':Hp):Prop :=
 (∃ kvs k,H a=some (.dK kvs)/\y=kV k/\kvs.length<sizeLine/\H'=upd H a (.dK (putK kvs k v))) \/
 ∃ kvs k b,H a=some (.dT kvs)/\y=.ref b/\H b=some (.tup (k.map kV))/\kvs.length<sizeLine/\H'=upd H a (.dT (putK kvs k v))
theorem DPut.k {H:Hp}{a:Addr}{kvs:List _}{k:Key}{v:V}(e:H a=some (.dK kvs)) (hl:kvs.length<sizeLine):DPut H a (kV k) v (upd H a (.dK (putK kvs k v))):=.inl ⟨kvs,k,e,rfl,hl,rfl⟩
section
variable {X:Cx}{pins:List (Addr×Obj)}{Z:St}{H:Hp}{s:Shared}{a:Addr}{y v:V}{u r:Value}{o:Option V}{A:Around}{E:Value->Shared->Prop}
theorem Inv.big (I:Inv X pins Z H s):sysModules<s.heap.objs.size:=by have h:=(I.mod.glob.keeps I.bk).lt;exact Nat.lt_trans (by decide) h
theorem yrx {Q:Value->Shared->Prop}(t:A.units+1<cLine) (I:Inv X pins Z H s) (g:DGet H a y (some v)) (n:RelV y u) (h:∀ f s',Inv X pins Z H s'->RelV v f->Q f s') :
  wpAny (model X.prog X.w) A (getItem (.ref a) u) Q E s:=by
 rcases g with ⟨kvs,k,e,m,l⟩|⟨kvs,k,b,e,m,q,l⟩
 .subst m;obtain ⟨z,w,vs,d,dd⟩:=yuR I.hok e;obtain ⟨f,j,c⟩:=RelO.some_of (by rw [l];exact d.val k);exact wpAny_getItem_of (yuQ n) dd.mapOf j (h f _ (I.tok _) c)
 .subst m;cases (n);obtain ⟨z,w,xs,d,dd⟩:=yuS I.hok e;obtain ⟨f,j,c⟩:=RelO.some_of (by rw [l];exact d.val k);obtain ⟨p,hp,i⟩:=Option.map_eq_some_iff.mp j;refine wpAny_getItem_heap (tupleKind_room_in1 t) (yoz I.hok q) dd hp ?_;rw [i];exact h f _ (I.tok _) c
theorem yGd {Q:Value->Shared->Prop}(hu:A.units+1<cLine) (I:Inv X pins Z H s) (g:DGet H a y o) (ry:RelV y u) (h:∀ s',Inv X pins Z H s'->Q (.bool o.isSome) s') :
  wpAny (model X.prog X.w) A (compareOp .In u (.ref a)) Q E s:=by
 rcases g with ⟨kvs,k,e,ey,l⟩|⟨kvs,k,b,e,ey,eb,l⟩
 .subst ey;obtain ⟨z,hd,vs,rel,dd⟩:=yuR I.hok e;refine wpAny_in_of (yuQ ry) hd dd.mapOf ?_;rw [<- (rel.val k).isSome_eq,<- l];exact h _ (I.tok _)
 .subst ey;cases (show u=Value.ref b from ry);obtain ⟨z,hd,xs,rel,dd⟩:=yuS I.hok e;refine wpAny_in_heap (tupleKind_room_in1 hu) (yoz I.hok eb) hd dd ?_;have q:=(rel.val k).isSome_eq;rw [isSome_map] at q;rw [<- q,<- l];exact h _ (I.tok _)
theorem ynx {h':Heap}{t':Nat}{c:HO}(I:Inv X pins Z H s) (e:Mut (H a)) (hs:Heap.SameBut a s.heap h') (g:∃ q,h'.get? a=some q) (d:ObjOk X.prog X.w (upd H a c) h' a c) :
  Inv X pins Z (upd H a c) { s with heap:=h',toks:=t' } :=
 I.write e (.inl rfl) (fun b q f z=>(hs.2 b f).trans z) g d
theorem ywL {P:Program}{w:World}{d:Hp}{h':Heap}{kvs:List _}{vs:List _}(z:kvs.length<=sizeLine) (c:(a == sysModules)=false) (b:KV kvs vs) (dd:h'.DictOf (ycP P w) a vs) :
  ObjOk P w d h' a (.dK kvs):=⟨z,c,vs,b,dd⟩
theorem yry {t:Hp}{Q:Unit->Shared->Prop}(C:A.units+1<cLine) (I:Inv X pins Z H s) (g:DPut H a y v t) (B:RelV y u) (p:RelV v r) (h:∀ s',Inv X pins Z t s'->Q () s') :
  wpAny (model X.prog X.w) A (setItem (.ref a) u r) Q E s:=by
 rcases g with ⟨kvs,k,e,n,l,j⟩|⟨kvs,k,b,e,n,w,l,j⟩
 .subst n j;obtain ⟨z,m,vs,d,dd⟩:=yyy I.hok e;have hz:vs.length<=sizeLine:=by rw [<- d.length];exact z
  have hl:(putK kvs k v).length<=sizeLine:=by have:=yfH kvs k v;omega
  refine wpAny_setItem_pairs (yuQ B) dd fun h' f hs=>h _ ?_
  have D:∃ q,h'.get? a=some q:=let ⟨q,_,_,i,_⟩:=f;⟨q,i⟩
  exact ynx I (by rw [e];exact True.intro) hs D (ywL hl m (d.put k p) f)
 .subst n j;cases (B);obtain ⟨z,m,xs,d,dd⟩:=yEr I.hok e;have hz:xs.length<=sizeLine:=by rw [<- Paired.length d];exact z
  have hl:(putK kvs k v).length<=sizeLine:=by have:=yfH kvs k v;omega
  refine wpAny_setItem_heap (tupleKind_room_in1 C) (yoz I.hok w) dd fun h' f hs=>h _ ?_
  obtain ⟨q,es,ep,i,h2,F,G,_,J⟩:=f;refine ynx I (by rw [e];exact True.intro) hs ⟨q,i⟩ ⟨hl,m,_,(d.put k w p).keeps fun c ys x=>?_,q,es,ep,i,h2,F,G,J⟩;rw [yO (yDl x e fun z=>nomatch z)];exact x
end
noncomputable def yEs (i:Expr):Prop:=∀ ov iv,subscripted i false ov iv=operate [ov,iv] (getItem ov iv)
theorem yyz {prog:Program}{w:World}{A:Around}{E:Value->Shared->Prop}{s:Shared}{env:Env}{value slice:Expr}{pos:Pos}{T id:String}{Q:Value->Shared->Prop}
  (hl:typeLookup (.type T) "__getitem__" = pure (some (.builtin id))) (hs:yEs slice)
  (h:wpAny (model prog w) A (eval value env) (fun o d=>wpAny (model prog w) A (eval slice env) (fun i b=>b.TypeIs o T/\wpAny (model prog w) A (getItem o i) Q E b) E d) E s) :
  wpAny (model prog w) A (eval (.Subscript value slice pos) env) Q E s:=by
 refine Subscript_ (wpAny_mono h (fun o d h₁=>wpAny_mono h₁ (fun i b c=>?_) fun _ _ x=>x) fun _ _ x=>x);obtain ⟨j,c⟩:=c;refine wpAny_bind ?_;refine wpAny_bind (wpAny_specialOf j hl ?_);have g:wpAny (model prog w) A (subscripted slice false o i) (fun r e=>wpAny (model prog w) A (letTemporaryGo value o r >>= fun _=>pure r) Q E e) E b:=by rw [hs o i];exact wpAny_operating (wpAny_mono c (fun r e f=>wpAny_bind (wpAny_letTemporaryGo (wpAny_pure f))) fun _ _ x=>x)
 first
  | exact wpAny_pure (wpAny_bind g)
  | simp_all
  | exact wpAny_bind g
theorem yny {X:Cx}{d:List _}{Z:St}{H:Hp}{s:Shared}{a:Addr}{y:V}{o:Option V}(I:Inv X d Z H s) (g:DGet H a y o):s.TypeIs (.ref a) "dict":=by
 rcases g with ⟨kvs,k,e,_,_⟩|⟨kvs,k,b,e,_,_,_⟩
 .obtain ⟨_,_,vs,_,dd⟩:=yuR I.hok e;exact dd.typeIs
 .obtain ⟨_,_,xs,_,dd⟩:=yuS I.hok e;exact dd.typeIs
noncomputable def yBx (td ty:TE):TE:=fun Z H Q=>td Z H fun x H1=>ty Z H1 fun y H2=>∃ a v,x=.ref a/\DGet H2 a y (some v)/\Q v H2
noncomputable def yFB (ty td:TE):TE:=fun Z H Q=>ty Z H fun y H1=>td Z H1 fun x H2=>∃ a o,x=.ref a/\DGet H2 a y o/\Q (.bl o.isSome) H2
noncomputable def yBy (td ty tv:TE):TS:=fun D Z H=>tv Z H fun v H1=>td Z H1 fun x H2=>ty Z H2 fun y H3=>∃ a H4,x=.ref a/\DPut H3 a y v H4/\D.nx Z H4
section
variable {X:Cx}{o i e value:Expr}{pos pos' tpos:Pos}{td ty tv:TE}
theorem yyA (m:X.A.units+1<cLine) (t:PE X o td) (p:PE X i ty) (hs:yEs i):PE X (.Subscript o i pos) (yBx td ty):=by intro c s Z H Q I h;refine yyz PySem.F.slot_dict_getitem.lookup hs (thn (t c s Z H _ I h) fun u s1 ⟨x,r,q,n,w⟩=>thn (p c s1 Z r _ q w) fun B s2 ⟨y,A,f,j,a,v,z,g,l⟩=>?_);subst z;obtain rfl:u=Value.ref a:=n;exact ⟨yny f g,yrx m f g j fun C s3 k d=>⟨v,A,k,d,l⟩⟩
theorem yBz (d:X.A.units+1<cLine) (r:PE X i ty) (n:PE X o td):PC X .In i o (yFB ty td):=by
 intro c s Z H Q I h;refine thn (r c s Z H _ I h) fun A s1 ⟨y,m,w,t,k⟩=>thn (n c s1 Z m _ w k) fun u s2 ⟨x,p,f,v,a,j,q,g,l⟩=>?_
 subst q;obtain rfl:u=Value.ref a:=v;exact yGd d f g t fun s3 z=>⟨.bl j.isSome,p,z,rfl,l⟩
theorem yyB (z:X.A.units+1<cLine) (t:PE X o td) (q:PE X i ty) (f:PE X value tv) (hs:swapsWith value (some (.Subscript o i pos')) pos.line X.env=pure false) :
  PS X (.Assign [.Subscript o i pos'] value pos) (yBy td ty tv):=by
 intro c s Z H D I h;refine wpAny_Assign_Subscript (thn (f c s Z H _ I h) fun r s1 ⟨v,B,d,F,m⟩=>thn (t c s1 Z B _ d m) fun u s2 ⟨x,E,j,p,l⟩=>thn (q c s2 Z E _ j l) fun L s3 ⟨y,J,A,C,a,k,w,g,n⟩=>?_) hs;subst w;obtain rfl:u=Value.ref a:=p;exact yry z A g C F fun s4 G=>⟨Z,k,G,n⟩
end
theorem yuT {P:Program}{w:World}{H:Hp}(h:Heap) (b:sysModules<h.objs.size):ObjOk P w H (h.push { cls:=.type "dict",data:=.dict #[] }) h.objs.size (.dK []) :=
 ⟨zero_le _,beq_eq_false_iff_ne.mpr (Ne.symm (ne_of_lt b)),[],.nil,Heap.DictOf.new h⟩
def ywM:TE:=fun _ H Q=>∀ p,H p=none->Q (.ref p) (upd H p (.dK []))
section
variable {X:Cx}{pos:Pos}
theorem yuU:PE X (.Dict [] [] pos) ywM:=fun b s Z H Q I h =>
 wpAny_Dict_empty ⟨.ref s.heap.objs.size,_,I.laid (fun _ _ q=>Heap.get?_push_of_some _ q) (Nat.le_refl _) (yuT s.heap I.big),rfl,h _ (I.hok.fresh (Nat.le_refl _))⟩
end
noncomputable def yrz (kvs more:List (Key×V)):List (Key×V):=more.foldl (fun acc kv=>putK acc kv.1 kv.2) kvs
theorem KV.merge:∀ {more:List (Key×V)}{rs:List (Key×Value)}{kvs:List (Key×V)}{vs:List (Key×Value)},KV more rs->KV kvs vs->KV (yrz kvs more) (merged vs rs):=by
 intro more rs kvs vs r;unfold KV at r
 induction r generalizing kvs vs with
 | nil=>intro q;exact q
 | @cons p q ps qs h t ih =>
  intro r0;have e:KV (putK kvs p.1 p.2) (stored vs q.1 q.2):=by have:=r0.put p.1 h.2;rw [<- h.1];exact this
  exact ih e
theorem yga:∀ b kvs,(yrz kvs b).length<=kvs.length+b.length
 | [],kvs=>by show kvs.length<=kvs.length+0;omega
 | p::r,kvs=>by have h1:=yga r (putK kvs p.1 p.2);have h2:=yfH kvs p.1 p.2;show (yrz _ r).length<=_;grind
structure M2 (X:Cx) (o:Expr) (m:Str) (apos:Pos) (e f:Expr) (cpos:Pos):Prop where
 base:attributeBase o m X.env (eval o X.env)=eval o X.env
 few:((backTo cpos (starEach [e,f] X.env)).all (fun x=>!x.1) && (backToKw cpos (keywordEach [] X.env)).all (fun x=>x.1.isSome)
  && decide (([e,f]:List Expr).length+([]:List Keyword).length+(if ([]:List Keyword).isEmpty then 0 else 1)<30))=true
 line:(apos.endLine == cpos.line)=true
 trees:backTo cpos (starEach [e,f] X.env)=[(false,eval e X.env),(false,eval f X.env)]
end L2
namespace PX
open PySem L2
variable {K:Ck}
theorem yju {Z:Type}{l:List Z}(h:l.Nodup) {i j:Nat} c (b:j<l.length) (e:l[i]=l[j]):i=j:=by
 have p:=List.pairwise_iff_getElem.mp h;rcases Nat.lt_trichotomy i j with z|z|z
 .exact absurd e (p i j c b z)
 .exact z
 .exact absurd e.symm (p j i b c z)
noncomputable def ynz (W:Wd) (n:Nat) (a:Addr) (o:HO) (d:Nd):Wd:=⟨W.F,upd W.H a o,W.m,W.h.set n d⟩
theorem yfI {W:Wd}(w:WOk K W) {n:Nat}{d d':Nd}{a:Addr}{o:HO}(e:W.h[n]?=some d) (k:W.m[n]?=some a) (y:W.F a=none) (at':NdAt K W.F (upd W.H a o) W.m d' a) (B:∀ ks xs,d≠.fz ks xs:=by intro _ _ z;cases z):Le K W (ynz W n a o d'):=by
 have A:=(List.getElem?_eq_some_iff.mp e).1;have l:=mem_of_getElem? k;refine ⟨⟨fun b u q=>?_,by show W.m.length=(W.h.set n d').length;rw [length_set];exact w.len,w.nd,fun j v b g h=>?_⟩,Same.refl _,prefix_refl _,fun b u q p=>?_,fun b u _ _ f=>f,fun b z x=>absurd z x,fun j ks xs g=>?_⟩
 .have:=ybB q y
  exact (yO this).trans (w.le _ _ q)
 .have g:(W.h.set n d')[j]?=some v:=g
  by_cases i:n=j
  .subst i;rw [getElem?_set_self A] at g;cases g;have h:W.m[n]?=some b:=h;rw [k] at h;cases h;exact at'
  .rw [getElem?_set_ne i] at g;have p:b≠a:=fun z=>by subst z;have h1:=List.getElem?_eq_some_iff.mp k;have h2:=List.getElem?_eq_some_iff.mp h;obtain ⟨s,t⟩:=h1;obtain ⟨r,m⟩:=h2;exact i (yju w.nd s r (t.trans m.symm))
   exact (w.at_ j v b g h).mono (Same.refl _) (prefix_refl _) (fun u q=>(yO p).trans q) id
 .have:b≠a:=fun z=>p (z ▸ l)
  exact (yO this).trans q
 .have i:n≠j:=fun z=>by subst z;rw [e] at g;simp_all
  refine ⟨(getElem?_set_ne i).trans g,fun b h=>yO fun z=>?_⟩;subst z;obtain ⟨s,t⟩:=List.getElem?_eq_some_iff.mp k;obtain ⟨r,m⟩:=List.getElem?_eq_some_iff.mp h;exact i (yju w.nd s r (t.trans m.symm))
def ygI:PV->AH->Bool:=fun x h=>match ybE x h with|some _=>true|none=>false
theorem yoA {W:Wd}{x:PV}{v:V}(w:WOk K W) (r:ycN K W x v) (c:ygI x W.h=true):tyV K.K "list" v W.H:=by
 unfold ygI at c;split at c
 .rename_i xs b;obtain ⟨a,vs,rfl,hs,_⟩:=yba w b r;exact .inl ⟨rfl,vs,SqL.of hs⟩
 .cases c
noncomputable def yiU:PM:=fun x ys h=>match x,ys with|.loc n,[y]=>(match h[n]? with|some (.lst xs)=>if xs.length<100000 then some (.non,h.set n (.lst (xs++[y]))) else none|_=>none)|_,_=>none
theorem yrA:yiT K "list" ygI ymV yiU:=by
 refine ⟨fun W x v w r c=>yoA w r c,fun W x v xs vs Q z h' w rx r e q=>?_⟩;unfold yiU at e;split at e
 .rename_i n y;split at e
  .rename_i ys hn;split at e
   .rename_i hl;cases e;obtain ⟨u,rfl,ru⟩:=ynt r;obtain ⟨a,ev,hm,hf,us,hp,rs⟩:=w.loc hn rx;refine ⟨a,us,u,ev,rfl,hp,by rw [rs.len];exact big hl,?_⟩;exact q .non (ynz W n a (.lst (us++[u])) (.lst (ys++[y]))) rfl (yfI w hn hm hf ⟨hf,_,yK,rs.snoc ru⟩) rfl
   .cases e
  .cases e
 .cases e
noncomputable def yhn:PM:=fun x ys h=>match x,ys with|.loc n,[]=>(match h[n]? with|some (.lst xs)=>(match xs[xs.length-1]? with|some y=>some (y,h.set n (.lst xs.dropLast))|none=>none)|_=>none)|_,_=>none
theorem RepL.dropLast {F:Hp}{m:List Addr}{xs:List PV}{vs:List V}(r:RepL K F m xs vs):RepL K F m xs.dropLast vs.dropLast:=by rw [List.dropLast_eq_take,List.dropLast_eq_take,r.len];exact r.take _
theorem yoB:yiT K "list" ygI yFs yhn:=by
 refine ⟨fun W x v w r c=>yoA w r c,fun W x v xs vs Q z h' w k r e q=>?_⟩;unfold yhn at e;split at e
 .rename_i n;split at e
  .rename_i ys g;split at e
   .rename_i y l;cases e;obtain rfl:vs=[]:=r;obtain ⟨a,ev,j,f,us,hp,d⟩:=w.loc g k;obtain ⟨u,h,i⟩:=d.get l;refine ⟨a,us,u,ev,rfl,hp,by rw [d.len];exact h,?_⟩;exact q u (ynz W n a _ _) rfl (yfI w g j f ⟨f,_,yK,d.dropLast⟩) i
   .cases e
  .cases e
 .cases e
noncomputable def yho (eo ei ev:XE):XS:=fun ρ h=>ob (ev ρ h) fun v h1=>ob (eo ρ h1) fun o h2=>ob (ei ρ h2) fun i h3=>match o,i with
 | .loc n,.int k=>(match h3[n]? with|some (.lst xs)=>(match ixN xs.length k with|some j=>some (.nx ρ,h3.set n (.lst (xs.set j v)))|none=>none)|_=>none)
 | _,_=>none
theorem yuV {A u y:TE}{eo ei ev:XE}(a:ybX K A eo) (b:ybX K u ei) (c:ybX K y ev):yfr K (ywp y (yFl A u yAI)) (yho eo ei ev):=by
 intro s W ρ d D o h' g e q;obtain ⟨v,h1,I,L⟩:=yj e;obtain ⟨x,h2,Q,S⟩:=yj L;obtain ⟨i,H,E,f⟩:=yj S;refine c s W ρ d _ v h1 g I fun Z T M r N=>?_
 subst M;refine a s T ρ d _ x h2 (g.step r) Q fun Y F O m r2=>?_
 subst O;refine b s F ρ d _ i H (g.step (r.trans m)) E fun X B G h P=>?_
 subst G;have w:=h.ok;split at f
 .rename_i n k;split at f
  .rename_i xs t;split at f
   .rename_i j J;cases f;obtain ⟨p,ep,U,z,us,hp,C⟩:=w.loc t (h.rep r2);refine ⟨p,us,k,j,ep,P,hp,by rw [C.len];exact J,?_⟩;have R:Le K B (ynz B n p _ (.lst _)):=yfI w t U z ⟨z,_,yK,C.set j ((m.trans h).rep N)⟩;have l:=r.trans (m.trans (h.trans R));exact q _ d rfl l.lf (g.step l)
   .cases f
  .cases f
 .cases f
noncomputable def keyOf:PV->Option Key
 | .int i=>some (.inl i)
 | .str s=>some (.inr s)
 | _=>none
theorem yhY {W:Wd}{x:PV}{v:V}{k:Key}(e:keyOf x=some k) (r:ycN K W x v):v=kV k:=by cases x<;>cases e<;>exact r
noncomputable def ylS (x:PV) (h:AH):Option (List Key×List PV):=match x with|.loc n=>(match h[n]? with|some (.dct ks xs)=>some (ks,xs)|_=>none)|_=>none
noncomputable def ykf:List Key->List PV->Key->Option PV
 | k::ks,x::xs,j=>if k=j then some x else ykf ks xs j
 | _,_,_=>none
noncomputable def yrB:List Key->Key->Bool
 | [],_=>false
 | k::ks,j=>if k=j then true else yrB ks j
noncomputable def setK {Z:Type}:List Key->List Z->Key->Z->List Z
 | k::ks,x::xs,j,y=>if k=j then y::setK ks xs j y else x::setK ks xs j y
 | _,xs,_,_=>xs
noncomputable def ycR (ks:List Key) (xs:List PV) (k:Key) (x:PV):List Key×List PV:=if yrB ks k=true then (ks,setK ks xs k x) else (ks++[k],xs++[x])
theorem ykg {Z:Type}:∀ (ks:List Key) (xs:List Z) (j:Key) (y:Z),(setK ks xs j y).length=xs.length
 | [],_,_,_=>by simp [setK]
 | _::_,[],_,_=>by simp [setK]
 | k::ks,x::xs,j,y=>by show (if k=j then y::setK ks xs j y else x::setK ks xs j y).length=_;split<;>simp [ykg ks xs j y]
theorem RepL.setK {F:Hp}{m:List Addr}:∀ {xs:List PV}{vs:List V} ks j {y:PV}{u:V},RepL K F m xs vs->Rep K F m y u->RepL K F m (PX.setK ks xs j y) (PX.setK ks vs j u)
 | [],_,ks,j,y,u,h,_=>by rw [h];cases ks<;>exact rfl
 | x::xs,_,[],j,y,u,h,_=>by obtain ⟨v,r,e,h1,l⟩:=h;subst e;exact ⟨v,r,rfl,h1,l⟩
 | x::xs,_,k::ks,j,y,u,⟨v,r,e,h1,l⟩,b=>by
  subst e;show RepL K F m (if k=j then y::PX.setK ks xs j y else x::PX.setK ks xs j y) (if k=j then u::PX.setK ks r j u else v::PX.setK ks r j u);have c:=RepL.setK ks j l b;split
  .exact ⟨u,_,rfl,b,c⟩
  .exact ⟨v,_,rfl,h1,c⟩
theorem ykh {F:Hp}{m:List Addr}:∀ {ks:List Key}{xs:List PV}{vs:List V}(j:Key),RepL K F m xs vs->vs.length=ks.length->(∀ x,ykf ks xs j=some x->∃ v,ylQ (ks.zip vs) j=some v/\Rep K F m x v)/\(ykf ks xs j=none->ylQ (ks.zip vs) j=none)
 | [],xs,vs,j,r,hl=>by refine ⟨fun x e=>?_,fun _=>rfl⟩;cases xs<;>cases e
 | k::ks,[],vs,j,r,hl=>by rw [show vs=[] from r] at hl;cases hl
 | k::ks,x::xs,_,j,⟨v,r',e,h,l⟩,hl=>by
  subst e;have ih:=ykh j l (by simpa using hl);have hz:ylQ ((k::ks).zip (v::r')) j=if k=j then some v else ylQ (ks.zip r') j:=by
   unfold ylQ;rw [zip_cons_cons,find?_cons]
   by_cases hk:k=j
   .simp [hk]
   .simp [hk]
  rw [hz];show (∀ y,(if k=j then some x else ykf ks xs j)=some y->_)/\((if k=j then some x else ykf ks xs j)=none->_)
  by_cases hk:k=j
  .rw [if_pos hk,if_pos hk];exact ⟨fun y e=>by cases e;exact ⟨v,rfl,h⟩,fun e=>by cases e⟩
  .rw [if_neg hk,if_neg hk];exact ih
theorem yrC j:∀ ks (vs:List V),vs.length=ks.length->((ks.zip vs).any fun b=>decide (b.1=j))=yrB ks j
 | [],_,_=>by simp [yrB]
 | k::ks,[],h=>by cases h
 | k::ks,v::vs,h=>by
  rw [zip_cons_cons,any_cons,yrC j ks vs (by simpa using h)];show (decide _ || yrB ks j)=if k=j then true else yrB ks j
  simp_all
theorem yrD j (y:V):∀ (ks:List Key) vs,vs.length=ks.length->(ks.zip vs).map (fun b=>if b.1=j then (b.1,y) else b)=ks.zip (setK ks vs j y)
 | [],_,_=>rfl
 | k::ks,[],h=>rfl
 | k::ks,v::vs,h=>by
  rw [zip_cons_cons,map_cons,yrD j y ks vs (by simpa using h)];show (if k=j then (k,y) else (k,v))::_=(k::ks).zip (if k=j then y::setK ks vs j y else v::setK ks vs j y)
  by_cases c:k=j
  .simp_all
  simp_all
theorem yoC j y ks vs (hl:vs.length=ks.length):putK (ks.zip vs) j y=if yrB ks j=true then ks.zip (setK ks vs j y) else (ks++[j]).zip (vs++[y]):=by unfold putK;rw [yrC j ks vs hl,yrD j y ks vs hl,List.zip_append hl.symm];rfl
theorem ylT {W:Wd}(w:WOk K W) {x:PV}{v:V}{ks:List Key}{xs:List PV}(e:ylS x W.h=some (ks,xs)) (r:ycN K W x v):∃ a vs,v=.ref a/\W.H a=some (.dK (ks.zip vs))/\vs.length=ks.length/\ycI K W xs vs:=by
 unfold ylS at e;split at e
 .split at e
  .rename_i d;cases e;obtain ⟨a,ev,f,g,vs,hp,hl,c⟩:=w.loc d r;exact ⟨a,vs,ev,hp,hl,c⟩
  .cases e
 .cases e
noncomputable def yyC (x:PV) (h:AH):Option (List Key×List PV):=match x with|.loc n=>(match h[n]? with|some (.dct ks xs)=>some (ks,xs)|some (.fz ks xs)=>some (ks,xs)|_=>none)|_=>none
theorem yoD {W:Wd}(w:WOk K W) {x:PV}{v:V}{ks:List Key}{xs:List PV}(e:yyC x W.h=some (ks,xs)) (r:ycN K W x v):∃ a vs,v=.ref a/\Rd W.H a (.dK (ks.zip vs))/\vs.length=ks.length/\ycI K W xs vs:=by
 unfold yyC at e;split at e
 .split at e
  .rename_i d;cases e;obtain ⟨a,ev,f,g,vs,hp,hl,c⟩:=w.loc d r;exact ⟨a,vs,ev,.inl hp,hl,c⟩
  .rename_i d;cases e;obtain ⟨a,ev,f,g,o,vs,hp,hl,c⟩:=w.loc d r;exact ⟨a,vs,ev,.inr ⟨o,hp⟩,hl,c⟩
  .cases e
 .cases e
theorem DGet.r {H:Hp}{a:Addr}{kvs:List _}{k:Key}(e:Rd H a (.dK kvs)):DGet H a (kV k) (ylQ kvs k):=.inl ⟨kvs,k,e,rfl,rfl⟩
noncomputable def yhZ (ed ek:XE):XE:=fun ρ h=>ob (ed ρ h) fun d h1=>ob (ek ρ h1) fun k h2=>match yyC d h2,keyOf k with|some (ks,xs),some j=>(match ykf ks xs j with|some x=>some (x,h2)|none=>none)|_,_=>none
theorem yuW {i l:TE}{ed ek:XE}(a:ybX K i ed) (b:ybX K l ek):ybX K (yBx i l) (yhZ ed ek):=by
 intro m W ρ Z Q z h' g e q;obtain ⟨d,h1,C,D⟩:=yj e;obtain ⟨k,h2,E,f⟩:=yj D;refine a m W ρ Z _ d h1 g C fun I G F n u=>?_
 subst F;refine b m G ρ Z _ k h2 (g.step n) E fun H y r h r2=>?_
 subst r;split at f
 .rename_i ks xs j o s;split at f
  .rename_i x t;cases f;obtain ⟨p,vs,ev,hp,hl,w⟩:=yoD h.ok o (h.rep u);obtain ⟨v,A,B⟩:=(ykh j w hl).1 _ t;have:=yhY s r2;subst this;exact ⟨p,v,ev,by rw [<- A];exact DGet.r hp,q _ y rfl (n.trans h) B⟩
  .cases f
 .cases f
noncomputable def yAa (neg:Bool) (ek ed:XE):XE:=fun ρ h=>ob (ek ρ h) fun k h1=>ob (ed ρ h1) fun d h2=>match yyC d h2,keyOf k with|some (ks,xs),some j=>some (.bl (if neg then !(ykf ks xs j).isSome else (ykf ks xs j).isSome),h2)|_,_=>none
theorem ypK {F:Hp}{m:List Addr}{ks:List Key}{xs:List PV}{vs:List V} j (r:RepL K F m xs vs) (hl:vs.length=ks.length):(ylQ (ks.zip vs) j).isSome=(ykf ks xs j).isSome:=by
 have h:=ykh j r hl;cases e:ykf ks xs j with
 | none=>rw [h.2 e];rfl
 | some x=>obtain ⟨v,h1,_⟩:=h.1 x e;rw [h1];rfl
theorem yyD {i l:TE}{ed ek:XE}(b:ybX K l ek) (a:ybX K i ed):ybX K (yFB l i) (yAa false ek ed):=by
 intro m W ρ Z Q z h' g e q;obtain ⟨k,h1,w,A⟩:=yj e;obtain ⟨d,h2,s,h⟩:=yj A;refine b m W ρ Z _ k h1 g w fun D x y n t=>?_
 subst y;refine a m x ρ Z _ d h2 (g.step n) s fun C v B f r2=>?_
 subst B;split at h
 .rename_i ks xs j o r;cases h;obtain ⟨p,vs,ev,hp,hl,u⟩:=yoD f.ok o r2;have:=yhY r (f.rep t);subst this;exact ⟨p,_,ev,DGet.r hp,q _ v rfl (n.trans f) (by rw [ypK j u hl];rfl)⟩
 .cases h
noncomputable def yki (ed ek ev:XE):XS:=fun ρ h=>ob (ev ρ h) fun v h1=>ob (ed ρ h1) fun d h2=>ob (ek ρ h2) fun k h3=>match d,keyOf k with
 | .loc n,some j=>(match h3[n]? with|some (.dct ks xs)=>if ks.length<1000 then some (.nx ρ,h3.set n (.dct (ycR ks xs j v).1 (ycR ks xs j v).2)) else none|_=>none)
 | _,_=>none
theorem yuX {td ty tv:TE}{ed ek ev:XE}(a:ybX K td ed) (b:ybX K ty ek) (c:ybX K tv ev):yfr K (yBy td ty tv) (yki ed ek ev):=by
 intro W0 W ρ Z D o h' g e q;obtain ⟨v,h1,e1,f1⟩:=yj e;obtain ⟨x,h2,e2,f2⟩:=yj f1;obtain ⟨i,h3,e3,f3⟩:=yj f2;refine c W0 W ρ Z _ v h1 g e1 fun vv W1 w1 l1 r1=>?_
 subst w1;refine a W0 W1 ρ Z _ x h2 (g.step l1) e2 fun vx W2 w2 l2 r2=>?_
 subst w2;refine b W0 W2 ρ Z _ i h3 (g.step (l1.trans l2)) e3 fun vi W3 w3 l3 r3=>?_
 subst w3;have w:=l3.ok;split at f3
 .rename_i n j hk;split at f3
  .rename_i ks xs hn;split at f3
   .rename_i hc;cases f3;obtain ⟨p,ep,hm,hf,us,hp,hl,rs⟩:=w.loc hn (l3.rep r2);have:=yhY hk r3;subst this;have hput:=yoC j vv ks us hl;have rv:=(l2.trans l3).rep r1;have key:∃ us',putK (ks.zip us) j vv=(ycR ks xs j v).1.zip us'/\us'.length=(ycR ks xs j v).1.length/\ycI K W3 (ycR ks xs j v).2 us':=by
     unfold ycR
     by_cases hj:yrB ks j=true
     .rw [if_pos hj] at hput ⊢;exact ⟨_,hput,by rw [ykg];exact hl,rs.setK ks j rv⟩
     .rw [if_neg hj] at hput ⊢;exact ⟨_,hput,by rw [length_append,length_append,hl];rfl,rs.snoc rv⟩
    obtain ⟨us',p1,p2,p3⟩:=key;refine ⟨p,_,ep,DPut.k hp (by rw [length_zip,hl];exact ylv (by omega)),?_⟩;rw [p1];have l4:Le K W3 (ynz W3 n p (.dK ((ycR ks xs j v).1.zip us')) (.dct (ycR ks xs j v).1 (ycR ks xs j v).2)):=yfI w hn hm hf ⟨hf,us',yK,p2,p3⟩;have l:=l1.trans (l2.trans (l3.trans l4));exact q _ Z rfl l.lf (g.step l)
   .cases f3
  .cases f3
 .cases f3
def ypL:XO:=fun _ h=>some (.dct [] [],h)
theorem yuY:ymH K ywM ypL:=by intro b W ρ Z Q d h' g e q;cases e;intro p hp;exact q p (yhE W p _) rfl (ycQ g.ok hp) (g.ok.out hp) hp (fun z=>by cases z) ⟨g.ok.ff hp,[],yK,rfl,rfl⟩
end PX
namespace PX
open PySem L2
variable {K:Ck}
noncomputable def itemsOf (x:PV) (h:AH):Option (List PV):=match x with|.tup xs=>some xs|_=>listOf x h
theorem ynA {W:Wd}(w:WOk K W) {x:PV}{v:V}{xs:List PV}(e:itemsOf x W.h=some xs) (r:ycN K W x v):∃ a vs,v=.ref a/\(SqL K.K W.H a vs\/SqT K.K W.H a vs)/\ycI K W xs vs:=by
 unfold itemsOf at e;split at e
 .cases e;obtain ⟨a,vs,ev,hs,c⟩:=r;exact ⟨a,vs,ev,.inr (ydu w hs),c⟩
 .obtain ⟨a,vs,ev,hs,c⟩:=yfh w e r;exact ⟨a,vs,ev,.inl hs,c⟩
noncomputable def svs:List PV->Option (List V)
 | []=>some []
 | x::xs=>match sv x,svs xs with|some v,some vs=>some (v::vs)|_,_=>none
theorem yrE {F:Hp}{m:List Addr}:∀ {xs:List PV}{us vs:List V},svs xs=some us->RepL K F m xs vs->vs=us/\us.all yfV=true
 | [],_,_,e,r=>by cases e;exact ⟨r,rfl⟩
 | x::xs,us,_,e,⟨v,r,ev,h,l⟩=>by
  unfold svs at e;split at e
  .rename_i u us' e1 e2;cases e;obtain ⟨h1,h2⟩:=yrE e2 l;have hv:v=u:=by cases x<;>cases e1<;>exact h
   have hf:yfV u=true:=by cases x<;>cases e1<;>rfl
   exact ⟨by rw [ev,hv,h1],by rw [List.all_cons,hf,h2];rfl⟩
  .cases e
theorem ykj {x:PV}{u:V}(e:sv x=some u):yfV u=true:=by cases x<;>cases e<;>rfl
noncomputable def yyE (neg:Bool):P2:=fun x y h=>match sv x,itemsOf y h with|some v,some ys=>(match svs ys with|some us=>some (.bl (if neg then !inV v us else inV v us),h)|none=>none)|_,_=>none
theorem yBA {neg:Bool}:yco K (rIn K.K neg) (yyE neg):=by
 intro W x y v u Q z h' w rx ry e q;unfold yyE at e;split at e
 .rename_i v' ys ev ey;split at e
  .rename_i us hu;cases e;obtain rfl:=yft ev rx;obtain ⟨a,vs,rfl,hs,rs⟩:=ynA w ey ry;obtain ⟨rfl,hf⟩:=yrE hu rs;exact ⟨a,vs,rfl,hs,ykj ev,hf,q _ W rfl (.refl w) rfl⟩
  .cases e
 .cases e
end PX
namespace PX
open PySem L2
theorem yEt [i:Decidable True]:decide True=true:=by simp
theorem yEu [i:Decidable False]:decide False=false:=by simp
theorem yEv:(false=true)=False:=by simp
theorem yEw:(true=false)=False:=by simp
theorem yoE {c:XT}{s:XS}{n:Nat}{ρ:PSt}{h:AH}:whl c s (n+1) ρ h=ob (c ρ h) fun k h1=>if k=true then ob (s ρ h1) fun o h2=>match o with|.nx ρ'=>whl c s n ρ' h2|.ct ρ'=>whl c s n ρ' h2|.bk ρ'=>some (.nx ρ',h2)|.rt y=>some (.rt y,h2) else some (.nx ρ,h1):=rfl
theorem ywN {a:XA}{ρ:PSt}{h h1:AH}{j:Int}(e:a ρ h=some ([.int j],h1)) (h0:-1000000000<=j) (h2:j<=1000000000):yre a ρ h=some (ypH 0 j.toNat,h1):=by unfold yre;rw [e,ycA];show (if _ then _ else _)=_;rw [if_pos ⟨h0,h2⟩]
theorem yfJ {Z:Type}{e:XE}{inn:PV->PSt} f g:∀ {ts:List Z}{h:AH},(∀ t∈ts,e (inn (f t)) h=some (g t,h))->yjp e inn (ts.map f) h=some (ts.map g,h)
 | [],_,_=>rfl
 | t::ts,h,k=>by show ob _ _=_;rw [k t mem_cons_self,ycA,yfJ f g fun y b=>k y (mem_cons_of_mem _ b)];rfl
theorem yoF {i:Nat}{e:XE}{ρ:PSt}{h:AH}{xs:List PV}(b:ρ[i]?=some (.own (.lst xs))):yhm i e ρ h=ob (e ρ h) fun x h1=>if xs.length<100000 then some (.nx (ρ.set i (.own (.lst (xs++[x])))),h1) else none:=by unfold yhm;rw [b]
theorem yFC {Z:Type}{a0:Z}{xs:List Z}:atI (a0::xs) 0=some a0:=yee rfl
theorem yGe {Z:Type}{a0 a1:Z}{xs:List Z}:atI (a0::a1::xs) 1=some a1:=yee rfl
theorem yhG {h:AH}{n:Nat}{xs:List PV}(e:h[n]?=some (.lst xs)):yX [.loc n] h=some (.lst xs,h):=by unfold yX listOf;simp only [e]
theorem yia {h:AH}{n:Nat}{xs:List PV}(e:h[n]?=some (.lst xs)):yca [.loc n] h=some (.int xs.length,h):=by unfold yca yro;simp only [e]
theorem ynB {h:AH}{n:Nat}{xs:List PV}{y:PV}(e:h[n]?=some (.lst xs)) (hl:xs.length<100000):yiU (.loc n) [y] h=some (.non,h.set n (.lst (xs++[y]))):=by unfold yiU;simp_all
theorem ydE {h:AH}{n:Nat}{xs:List PV}(e:h[n]?=some (.lst xs)):ygI (.loc n) h=true:=by unfold ygI ybE;simp only [e]
variable {K:Ck}
def yrF:P2:=fun x y h=>match x with|.tup xs=>ybc (.tup xs) y h|x=>ybR x y h
theorem yuZ:yco K (rIx K.K) yrF:=by
 intro W x y v u Q z h' w c b e q;unfold yrF at e;split at e
 .exact .inr (.inl (yU W _ y v u Q z h' w c b e q))
 .exact .inl (ybY W _ y v u Q z h' w c b e q)
theorem yyF {xs:List PV}{i:Int}{h:AH}:yrF (.tup xs) (.int i) h=(atI xs i).bind fun v=>some (v,h):=id (by simp only [yrF,ybc];cases atI xs i<;>rfl)
section
variable {ta:TE}{ea:XE}
noncomputable def ynC (i:Nat) (e:XE):XS:=fun ρ h=>match ρ[i]? with
 | some (.own (.lst xs))=>ob (e ρ h) fun x h1=>(match x with|.lst ys=>if xs.length+ys.length<=100000 then some (.nx (ρ.set i (.own (.lst (xs++ys)))),h1) else none|_=>none)
 | _=>none
theorem yva (i:Nat) (a:ybX K ta ea):yfr K (yqr (tBM K.K "list" yqN (yqh i) (ymR ta ywv))) (ynC i ea):=by
 intro W0 W ρ Z D o h' g e q;unfold ynC at e;split at e
 .rename_i xs0 hx;obtain ⟨x,h1,e1,f1⟩:=yj e;split at f1
  .rename_i ys;split at f1
   .rename_i hlen;cases f1;obtain ⟨p,a1,a2,a3,a4,hf,vs,hp,r⟩:=g.own i _ hx;refine ⟨.ref p,a1,.inl ⟨rfl,_,SqL.of hp⟩,?_⟩;refine a W0 W ρ Z _ _ _ g e1 fun v W1 w1 l1 r1=>?_
    obtain ⟨b,us,rfl,hb,rb⟩:=r1;refine ⟨p,b,vs,us,rfl,rfl,l1.keep _ _ hp a2,l1.ok.le _ _ hb,by rw [r.len,rb.len];exact yyk hlen,?_⟩;have g1:=g.step l1;obtain ⟨p',b1,b2,b3,b4,b5,vs',b6,b7⟩:=g1.own i _ hx;rw [a1] at b1;cases b1;rw [l1.keep _ _ hp a2] at b6;cases b6;exact q (yux W1 p (.lst (vs++us))) Z w1 (yrd l1 b2) (g1.mut hx a1 b2 b3 b5 (fun z=>by cases z) ⟨b5,_,yK,b7.app rb⟩)
   .cases f1
  .cases f1
 .cases e
noncomputable def yhp (i:Nat):XE:=fun ρ h=>match ρ[i]? with|some (.own (.lst xs))=>some (.int xs.length,h)|_=>none
theorem yvb i:ybX K (tCB (yAJ K.K) (ymR (yqh i) ywv)) (yhp i):=by
 intro d W ρ Z Q x h' g e q;unfold yhp at e;split at e
 .rename_i xs b;cases e;obtain ⟨p,a1,a2,a3,a4,c,vs,hp,r⟩:=g.own i _ b;refine ⟨_,a1,p,vs,rfl,.inl (SqL.of hp),?_⟩;rw [r.len];exact q _ W rfl (.refl g.ok) rfl
 .cases e
end
end PX
namespace PX
open PySem L2
variable {K:Ck}
def Odd (K:PySem.W.Frag) (H:Hp):Prop:=∃ a o ob,H a=some o/\K.lookup a=some ob
inductive EqR (K:PySem.W.Frag) (H:Hp):Nat->V->V->Bool->Prop where
 | flat {n:Nat}{x y:V}(fx:yfV x=true) (fy:yfV y=true):EqR K H n x y (eqV x y)
 | same {n:Nat}{a:Addr}:EqR K H n (.ref a) (.ref a) true
 | odd {n:Nat}{x y:V}{b:Bool}(h:Odd K H):EqR K H n x y b
 | nt {n:Nat}{b:Addr}{ys:List V}(hb:SqT K H b ys):EqR K H (n+1) .non (.ref b) false
 | tn {n:Nat}{b:Addr}{ys:List V}(hb:SqT K H b ys):EqR K H (n+1) (.ref b) .non false
 | lst {n:Nat}{a b:Addr}{xs ys:List V}{e:Nat->Bool}(ha:H a=some (.lst xs)) (hb:H b=some (.lst ys)) (hl:xs.length=ys.length) (hne:a≠b) (he:∀ j x y,xs[j]?=some x->ys[j]?=some y->EqR K H n x y (e j)):EqR K H (n+1) (.ref a) (.ref b) ((List.range xs.length).all e)
 | lstN {n:Nat}{a b:Addr}{xs ys:List V}(ha:H a=some (.lst xs)) (hb:H b=some (.lst ys)) (hl:xs.length≠ys.length):EqR K H (n+1) (.ref a) (.ref b) false
 | tup {n:Nat}{a b:Addr}{xs ys:List V}{e:Nat->Bool}(ha:SqT K H a xs) (hb:SqT K H b ys) (hne:a≠b) (he:∀ j x y,xs[j]?=some x->ys[j]?=some y->EqR K H n x y (e j)):EqR K H (n+1) (.ref a) (.ref b) ((List.range (min xs.length ys.length)).all e && xs.length == ys.length)
inductive RcR (K:PySem.W.Frag) (H:Hp):V->V->Bool->Prop where
 | nt {b:Addr}{ys:List V}(hb:SqT K H b ys):RcR K H .non (.ref b) false
 | tn {b:Addr}{ys:List V}(hb:SqT K H b ys):RcR K H (.ref b) .non false
 | lst {a b:Addr}{xs ys:List V}{e:Nat->Bool}(ha:H a=some (.lst xs)) (hb:H b=some (.lst ys)) (hl:xs.length=ys.length) (he:∀ j x y,xs[j]?=some x->ys[j]?=some y->EqR K H 40 x y (e j)):RcR K H (.ref a) (.ref b) ((List.range xs.length).all e)
 | lstN {a b:Addr}{xs ys:List V}(ha:H a=some (.lst xs)) (hb:H b=some (.lst ys)) (hl:xs.length≠ys.length):RcR K H (.ref a) (.ref b) false
 | tup {a b:Addr}{xs ys:List V}{e:Nat->Bool}(ha:SqT K H a xs) (hb:SqT K H b ys) (he:∀ j x y,xs[j]?=some x->ys[j]?=some y->EqR K H 40 x y (e j)):RcR K H (.ref a) (.ref b) ((List.range (min xs.length ys.length)).all e && xs.length == ys.length)
noncomputable def yFD (K:PySem.W.Frag):R2:=fun x y H Q=>∃ b,RcR K H x y b/\Q (.bl b) H
noncomputable def yFE (K:PySem.W.Frag):R2:=fun x y H Q=>∃ b,RcR K H x y b/\Q (.bl (!b)) H
noncomputable def yjv (f:PV->PV->Option Bool):List PV->List PV->Option Bool
 | x::xs,y::ys=>(match f x y,yjv f xs ys with|some b,some c=>some (b && c)|_,_=>none)
 | _,_=>some true
noncomputable def pairE (f:PV->PV->Option Bool) (h:AH) (x y:PV):Option Bool:=match x,y with
 | .tup xs,.tup ys=>(match yjv f xs ys with|some b=>some (b && xs.length == ys.length)|none=>none)
 | .non,.tup _=>some false
 | .tup _,.non=>some false
 | x,y=>(match ybE x h,ybE y h with|some xs,some ys=>if xs.length=ys.length then yjv f xs ys else some false|_,_=>none)
noncomputable def eqP:Nat->AH->PV->PV->Option Bool
 | 0,_,_,_=>none
 | n+1,h,x,y=>match sv x,sv y with
  | some u,some v=>some (eqV u v)
  | _,_=>pairE (eqP n h) h x y
theorem yoG:∀ {v:V},yfV v=true->eqV v v=true
 | .non,_=>rfl
 | .bl b,_=>by cases b<;>rfl
 | .int i,_=>by simp [eqV]
 | .str s,_=>by simp [eqV]
noncomputable def unV:Value->Option V
 | .none=>some .non
 | .bool b=>some (.bl b)
 | .int i _=>some (.int i)
 | .str x _=>some (.str x)
 | .bytes b _=>some (.byt b)
 | .float b _=>some (.flt b)
 | .ref a=>some (.ref a)
 | .type n=>some (.ty n)
 | _=>none
theorem ywO:∀ {v:V}{u:Value},RelV v u->unV u=some v
 | .non,_,h=>by rw [h];rfl
 | .bl _,_,h=>by rw [h];rfl
 | .int _,_,⟨_,h⟩=>by rw [h];rfl
 | .str _,_,⟨_,h⟩=>by rw [h];rfl
 | .byt _,_,⟨_,h⟩=>by rw [h];rfl
 | .flt _,_,⟨_,h⟩=>by rw [h];rfl
 | .ref _,_,h=>by rw [h];rfl
 | .ty _,_,h=>by rw [h];rfl
theorem yyG {v w:V}{u:Value}(h1:RelV v u) (h2:RelV w u):v=w:=Option.some.inj ((ywO h1).symm.trans (ywO h2))
theorem yvc {vs ws:List V}{us:List Value}(h1:Vals vs us):Vals ws us->vs=ws:=by
 induction h1 generalizing ws with
 | nil=>intro h2;cases h2;rfl
 | cons r _ ih=>intro h2;cases h2 with|cons r2 t2=>rw [yyG r r2,ih t2]
theorem yBB {F H:Hp}{a:Addr}{vs ws:List V}(s:Same F H) (h1:TpAt K.K F a vs) (h2:TpAt K.K F a ws):vs=ws\/Odd K.K H:=by
 rcases h1 with h1|⟨o,its,n,e,i,h,k,g⟩
 .rcases h2 with h2|⟨o,its,n,e,i,h,k,g⟩
  .simp_all
  .exact .inr ⟨a,_,o,s _ _ h1,e⟩
 .rcases h2 with h2|⟨m,its',p,c,j,d,l,f⟩
  .exact .inr ⟨a,_,o,s _ _ h2,e⟩
  .rw [e] at c;cases c;rw [h] at d;cases d;exact .inl (yvc g f)
theorem yib {f:PV->PV->Option Bool}{W:Wd}(h:∀ x y v b,f x y=some b->ycN K W x v->ycN K W y v->b=true\/Odd K.K W.H):∀ {xs ys:List PV}{vs:List V}{c:Bool},ycI K W xs vs->ycI K W ys vs->yjv f xs ys=some c->c=true\/Odd K.K W.H
 | [],_,_,_,_,_,e=>by simp [yjv] at e;exact .inl e
 | _::_,[],_,_,_,_,e=>by simp [yjv] at e;exact .inl e
 | x::xs,y::ys,_,c,⟨v,r,l,h1,i⟩,⟨u,q,a,h2,k⟩,e=>by
  rw [l] at a;cases a;unfold yjv at e;cases j:f x y with
  | none=>simp_all
  | some b =>
   cases d:yjv f xs ys with
   | none=>simp_all
   | some c' =>
    rw [d] at e;rcases h x y _ b j h1 h2 with z|z
    .rcases yib h i k d with g|g
     .simp_all
     .exact .inr g
    .exact .inr z
theorem ypM {f:PV->PV->Option Bool}{W:Wd}(w:WOk K W) (q:∀ x y v b,f x y=some b->ycN K W x v->ycN K W y v->b=true\/Odd K.K W.H) {x y:PV}{v:V}{b:Bool}(e:pairE f W.h x y=some b) (k:ycN K W x v) (l:ycN K W y v):b=true\/Odd K.K W.H:=by
 unfold pairE at e;split at e
 .rename_i xs ys;obtain ⟨a,vs,ev,n,m⟩:=k;obtain ⟨o,j,d,h,g⟩:=l;rw [ev] at d;cases d;rcases yBB w.le n h with z|z
  .subst z;cases p:yjv f xs ys with
   | none=>simp_all
   | some c =>
    rw [p] at e;cases e;rcases yib q m g p with z|z
    .left;rw [z,<- m.len,<- g.len];simp
    .exact .inr z
  .exact .inr z
 .obtain ⟨o,j,d,h,g⟩:=l;have k:=k;rw [k] at d;cases d
 .obtain ⟨o,j,d,h,g⟩:=k;have l:=l;rw [l] at d;cases d
 .split at e
  .rename_i xs ys r s;obtain ⟨a,vs,ev,n,m⟩:=yba w r k;obtain ⟨o,j,d,h,g⟩:=yba w s l;rw [ev] at d;cases d;rw [n] at h;cases h;rw [if_pos (by rw [<- m.len,<- g.len])] at e;exact yib q m g e
  .cases e
theorem ykk {W:Wd}(w:WOk K W):∀ (n:Nat) (x y:PV) (v:V) (b:Bool),eqP n W.h x y=some b->ycN K W x v->ycN K W y v->b=true\/Odd K.K W.H
 | 0,_,_,_,_,e,_,_=>by cases e
 | n+1,x,y,v,b,e,rx,ry=>by
  unfold eqP at e;split at e
  .rename_i u u' hu hu';cases e;rw [<- yft hu rx,<- yft hu' ry];exact .inl (yoG (by rw [yft hu rx];exact ykj hu))
  .exact ypM w (ykk w n) e rx ry
theorem yic {f:PV->PV->Option Bool}{W:Wd}{n:Nat}(hf:∀ x y v u b,f x y=some b->ycN K W x v->ycN K W y u->EqR K.K W.H n v u b):∀ {xs ys:List PV}{vs us:List V}{c:Bool},ycI K W xs vs->ycI K W ys us->yjv f xs ys=some c ->
  ∃ e:Nat->Bool,(∀ j v u,vs[j]?=some v->us[j]?=some u->EqR K.K W.H n v u (e j))/\c=(List.range (min vs.length us.length)).all e
 | [],_,_,_,c,h1,_,e=>by rw [show _=[] from h1];simp [yjv] at e;exact ⟨fun _=>true,fun j v u hv=>by simp at hv,by simp [e]⟩
 | _::_,[],_,_,c,_,h2,e=>by rw [show _=[] from h2];simp [yjv] at e;exact ⟨fun _=>true,fun j v u _ hu=>by simp at hu,by simp [e]⟩
 | x::xs,y::ys,_,_,c,⟨v,r,e1,h1,l1⟩,⟨u,q,e2,h2,l2⟩,e=>by
  subst e1 e2;unfold yjv at e;cases eb:f x y with
  | none=>rw [eb] at e;cases e
  | some b =>
   cases ec:yjv f xs ys with
   | none=>rw [eb,ec] at e;cases e
   | some c' =>
    rw [eb,ec] at e;cases e;obtain ⟨e',k1,k2⟩:=yic hf l1 l2 ec;refine ⟨fun j=>match j with|0=>b|j+1=>e' j,fun j v' u' hv hu=>?_,?_⟩
    .cases j with
     | zero =>
      simp at hv hu;subst hv hu;exact hf x y _ _ b eb h1 h2
     | succ j=>exact k1 j v' u' (by simpa using hv) (by simpa using hu)
    .rw [k2,length_cons,length_cons,show min (r.length+1) (q.length+1)=min r.length q.length+1 by omega,List.range_succ_eq_map,List.all_cons,List.all_map];rfl
theorem yoH {W:Wd}(w:WOk K W):∀ (n:Nat) (x y:PV) (v u:V) (b:Bool),eqP n W.h x y=some b->ycN K W x v->ycN K W y u->EqR K.K W.H n v u b
 | 0,_,_,_,_,_,e,_,_=>by cases e
 | n+1,x,y,v,u,b,e,rx,ry=>by
  have e0:=e;unfold eqP at e;split at e
  .rename_i v' u' hv hu;cases e;rw [yft hv rx,yft hu ry];exact .flat (ykj hv) (ykj hu)
  .unfold pairE at e;split at e
   .rename_i xs ys _;obtain ⟨a,vs,ev,ha,ra⟩:=rx;obtain ⟨a',us,eu,ha',ra'⟩:=ry
    by_cases hab:a=a'
    .subst hab;rcases ykk w (n+1) _ _ v b e0 ⟨a,vs,ev,ha,ra⟩ (by rw [ev,<- eu];exact ⟨a,us,eu,ha',ra'⟩) with this|z
     .rw [this,ev,eu];exact .same
     .exact .odd z
    .cases ec:yjv (eqP n W.h) xs ys with
     | none=>rw [ec] at e;cases e
     | some c =>
      rw [ec] at e;cases e;obtain ⟨e',k1,k2⟩:=yic (yoH w n) ra ra' ec;rw [ev,eu,k2,<- ra.len,<- ra'.len];exact .tup (ydu w ha) (ydu w ha') hab k1
   .obtain ⟨a',us,eu,ha',ra'⟩:=ry;cases e;rw [show v=.non from rx,eu];exact .nt (ydu w ha')
   .obtain ⟨a',us,eu,ha',ra'⟩:=rx;cases e;rw [show u=.non from ry,eu];exact .tn (ydu w ha')
   .split at e
    .rename_i xs ys hx hy;obtain ⟨a,vs,ev,ha,ra⟩:=yba w hx rx;obtain ⟨a',us,eu,ha',ra'⟩:=yba w hy ry
     by_cases hab:a=a'
     .subst hab;rcases ykk w (n+1) _ _ v b e0 rx (by rw [ev,<- eu];exact ry) with this|z
      .rw [this,ev,eu];exact .same
      .exact .odd z
     .split at e
      .rename_i hl;obtain ⟨e',k1,k2⟩:=yic (yoH w n) ra ra' e;have hl':vs.length=us.length:=by rw [ra.len,ra'.len,hl]
       rw [ev,eu,k2,<- hl',Nat.min_self];exact .lst ha ha' hl' hab k1
      .rename_i hl;cases e;rw [ev,eu];exact .lstN ha ha' (by rw [ra.len,ra'.len];exact hl)
    .cases e
noncomputable def yvd:P2:=fun x y h=>match pairE (eqP 40 h) h x y with|some b=>some (.bl b,h)|none=>none
noncomputable def yDd:P2:=fun x y h=>match pairE (eqP 40 h) h x y with|some b=>some (.bl (!b),h)|none=>none
theorem yoI {W:Wd}(w:WOk K W) {x y:PV}{v u:V}{b:Bool}(e:pairE (eqP 40 W.h) W.h x y=some b) (k:ycN K W x v) (m:ycN K W y u):RcR K.K W.H v u b:=by
 unfold pairE at e;split at e
 .rename_i xs ys;obtain ⟨a,vs,ev,l,i⟩:=k;obtain ⟨n,us,h,f,g⟩:=m;cases o:yjv (eqP 40 W.h) xs ys with
  | none=>simp_all
  | some c =>
   rw [o] at e;cases e;obtain ⟨q,k1,k2⟩:=yic (yoH w 40) i g o;rw [ev,h,k2,<- i.len,<- g.len];exact .tup (ydu w l) (ydu w f) k1
 .obtain ⟨n,us,h,f,g⟩:=m;cases e;rw [k,h];exact .nt (ydu w f)
 .obtain ⟨n,us,h,f,g⟩:=k;cases e;rw [m,h];exact .tn (ydu w f)
 .split at e
  .rename_i xs ys r p;obtain ⟨a,vs,ev,l,i⟩:=yba w r k;obtain ⟨n,us,h,f,g⟩:=yba w p m;split at e
   .rename_i hl;obtain ⟨q,k1,k2⟩:=yic (yoH w 40) i g e;have j:vs.length=us.length:=by rw [i.len,g.len,hl]
    rw [ev,h,k2,<- j,Nat.min_self];exact .lst l f j k1
   .rename_i hl;cases e;rw [ev,h];exact .lstN l f (by rw [i.len,g.len];exact hl)
  .cases e
theorem yyH:yco K (yFD K.K) yvd:=by
 intro W x y v u Q z h' w d f e q;unfold yvd at e;split at e
 .rename_i b c;cases e;exact ⟨b,yoI w c d f,q _ W rfl (.refl w) rfl⟩
 .cases e
theorem yEx:yco K (yFE K.K) yDd:=by
 intro W x y v u Q z h' w rx ry e q;unfold yDd at e;split at e
 .rename_i b hb;cases e;exact ⟨b,yoI w hb rx ry,q _ W rfl (.refl w) rfl⟩
 .cases e
end PX
namespace PX
open PySem L2
variable {K:Ck}
def yfq:XS:=fun _ _=>none
theorem yve:yfr K ywo yfq:=fun _ _ _ _ _ _ _ _ e _=>by cases e
noncomputable def yk (k:Nat) (m:Str) (f:Fn) (e:XE) (as:XA):XE:=fun ρ h=>ob (e ρ h) fun x h1=>match ygG x h1 with
 | some (k',ns,_)=>if k'=k/\m∉ns then ob (as ρ h1) fun ys h2=>f (x::ys) h2 else none
 | none=>none
theorem ylU {k n:Nat}{m:Str}{f:Fn}{D:XK}{w:TE}{t:TA}{o:XE}{l:XA}(a:ybX K w o) (b:ymG K t l) (M:∀ ρ h xs h',l ρ h=some (xs,h')->xs.length=n) :
  ybX K (yxF (K.A k) m (spE K (n+1) f) [] D w t) (yk k m f o l):=by
 intro A W ρ Z Q z h' g e q;obtain ⟨x,h1,I,d⟩:=yj e;refine a A W ρ Z _ x h1 g I fun v O L i r=>?_
 subst L;split at d
 .rename_i S ns xs N;split at d
  .rename_i y;obtain ⟨ys,h2,s,P⟩:=yj d;obtain ⟨p,B,vs,ev,hp,hl,R⟩:=yfZ i.ok N r;rw [y.1] at hp;refine ⟨p,B,_,ev,hp,ydD y.2,?_⟩;refine b A O ρ Z _ ys h2 (g.step i) s fun us G C j r2=>?_
   subst C;rw [append_nil];exact ⟨G,x::ys,z,h',rfl,j.ok,⟨v,us,rfl,j.rep r,r2⟩,by rw [length_cons,M _ _ _ _ s],P,fun u J H E F=>q u J H ((i.trans j).trans E) F⟩
  .cases d
 .cases d
noncomputable def yda (cs:List Nat) (f:Str) (eo ev:XE):XS:=fun ρ h=>ob (ev ρ h) fun y h1=>ob (eo ρ h1) fun x h2=>match x with
 | .loc n=>(match h2[n]? with|some (.ins k ns xs)=>if k∈cs/\ns.length<1000 then some (.nx ρ,h2.set n (.ins k (putN f y ns xs).1 (putN f y ns xs).2)) else none|_=>none)
 | _=>none
theorem yvf {cs:List Nat}{f:Str}{m u:TE}{A ev:XE}(t:∀ k∈cs,Cls K.K (K.A k)/\NoAttr K.K (K.A k) f) (a:ybX K m A) (c:ybX K u ev):yfr K (yDw K.K m u f) (yda cs f A ev):=by
 intro B W ρ Z D o h' g e q;obtain ⟨y,h1,H,I⟩:=yj e;obtain ⟨x,h2,G,d⟩:=yj I;refine c B W ρ Z _ y h1 g H fun T P L C R=>?_
 subst L;refine a B P ρ Z _ x h2 (g.step C) G fun S j O h r2=>?_
 subst O;have w:=h.ok;split at d
 .rename_i n;split at d
  .rename_i k ns xs v;split at d
   .rename_i s;cases d;obtain ⟨p,ep,J,z,r,us,hp,hl,F⟩:=w.loc v r2;obtain ⟨i,Q,E,N⟩:=F.putN hl (h.rep R);refine ⟨p,_,r,_,ep,hp,(t k s.1).1,(t k s.1).2,by simp_all,?_⟩;rw [Q];have M:Le K j (ynz j n p _ (.ins k _ _)):=yfI w v J z ⟨z,r,i,yK,E,N⟩;have l:=C.trans (h.trans M);exact q _ Z rfl l.lf (g.step l)
   .cases d
  .cases d
 .cases d
end PX
namespace PX
open PySem L2
variable {K:Ck}
noncomputable def ypN (r d:Addr):HO:=.ext fun h=>h.get? r=some { cls:=.type "dict_items",data:=.fields #[.ref d] }
def ywP:V->List V->Hp->VK->Prop:=fun x vs H Q=>∃ d kvs,x=.ref d/\vs=[]/\H d=some (.dK kvs)/\∀ r,H r=none->Q (.ref r) (upd H r (ypN r d))
noncomputable def yoJ (H:Hp) (as:List Addr) (ts:List (List V)):Hp:=fun b=>match (as.zip ts).lookup b with|some t=>some (.tup t)|none=>H b
noncomputable def yDe (H:Hp) (p:Addr) (as:List Addr) (ts:List (List V)):Hp:=upd (yoJ H as ts) p (.lst (as.map V.ref))
def rSI:List V->Hp->VK->Prop:=fun xs H Q=>∃ (r d:Addr) (kvs:List (Key×V)) (ns:List Int),xs=[.ref r]/\H r=some (ypN r d)/\H d=some (.dK kvs)/\kvs.map (·.1)=ns.map .inl/\kvs.length<64 /\
 ∀ (p:Addr) (as:List Addr) (q:List Nat),q.Perm (List.range ns.length)->q.Pairwise (fun i j=>ns.getD i 0<=ns.getD j 0)->ns.Nodup->as.length=q.length->(∀ a∈p::as,H a=none)->(p::as).Nodup ->
  Q (.ref p) (yDe H p as (q.map fun i=>[V.int (ns.getD i 0),(kvs.map (·.2)).getD i .non]))
noncomputable def ynD (p:Int×PV):List (Int×PV)->List (Int×PV)
 | []=>[p]
 | q::r=>if p.1<=q.1 then p::q::r else q::ynD p r
def ykl:List (Int×PV)->List (Int×PV)
 | []=>[]
 | p::r=>ynD p (ykl r)
noncomputable def yrG:List Key->Option (List Int)
 | []=>some []
 | .inl i::r=>(yrG r).map (i::·)
 | .inr _::_=>none
theorem yoK:∀ {ks:List Key}{ns:List Int},yrG ks=some ns->ks=ns.map .inl
 | [],ns,h=>by cases h;rfl
 | .inl i::r,ns,h=>by obtain ⟨m,e,rfl⟩:=Option.map_eq_some_iff.mp h;rw [map_cons,<- yoK e]
 | .inr _::_,_,h=>by cases h
theorem yid (p:Int×PV):∀ l,(ynD p l).Perm (p::l)
 | []=>.refl _
 | q::r=>by
  unfold ynD;split
  .exact .refl _
  .exact ((yid p r).cons q).trans (.swap _ _ _)
theorem ygJ:∀ l,(ykl l).Perm l
 | []=>.refl _
 | p::r=>(yid p _).trans ((ygJ r).cons p)
theorem yrH {p:Int×PV}:∀ {l:List _},l.Pairwise (fun a b=>a.1<=b.1)->(ynD p l).Pairwise fun a b=>a.1<=b.1
 | [],_=>List.pairwise_singleton _ _
 | q::r,h=>by
  obtain ⟨h1,h2⟩:=List.pairwise_cons.mp h;unfold ynD;split
  .rename_i e;exact List.pairwise_cons.mpr ⟨fun b d=>by
    rcases mem_cons.mp d with rfl|d
    .exact e
    .exact Int.le_trans e (h1 b d),h⟩
  .refine List.pairwise_cons.mpr ⟨fun b d=>?_,yrH h2⟩;rcases mem_cons.mp ((yid p r).mem_iff.mp d) with rfl|d
   .omega
   .exact h1 b d
theorem yoL:∀ l,(ykl l).Pairwise fun a b=>a.1<=b.1
 | []=>.nil
 | _::r=>yrH (yoL r)
theorem yvg {ns:List Int}{xs:List PV}{q:List Nat}(hl:xs.length=ns.length) (hp:q.Perm (List.range ns.length)) (hs:q.Pairwise fun i j=>ns.getD i 0<=ns.getD j 0) (l:ns.Nodup) :
  (q.map fun i=>(ns.getD i 0,xs.getD i .non))=ykl (ns.zip xs):=by
 have hz:((List.range ns.length).map fun i=>(ns.getD i 0,xs.getD i .non))=ns.zip xs:=by
  apply List.ext_getElem
  .simp [hl]
  simp_all
 have k:(q.map fun i=>(ns.getD i 0,xs.getD i .non)).Perm (ns.zip xs):=by rw [<- hz];exact hp.map _
 refine List.Perm.eq_of_pairwise (fun a b h g h1 h2=>?_) (List.pairwise_map.mpr hs) (yoL _) (k.trans (ygJ _).symm);have h:=k.mem_iff.mp h;have g:=(ygJ _).mem_iff.mp g;obtain ⟨i,n,rfl⟩:=getElem_of_mem h;obtain ⟨j,m,rfl⟩:=getElem_of_mem g;have f:i<ns.length:=by grind
 have d:j<ns.length:=by grind
 have e:ns[i]=ns[j]:=by have:=Int.le_antisymm h1 h2;simpa using this
 have:=yju l f d e;subst this;rfl
noncomputable def yFF (W:Wd) (as:List Addr) (ts:List (List V)):Wd:=⟨yoJ W.F as ts,yoJ W.H as ts,W.m,W.h⟩
theorem lookup_mem {Z:Type}:∀ {as:List Addr}{ts:List Z}{b:Addr}{t:Z},(as.zip ts).lookup b=some t->b∈as
 | [],_,_,_,h=>by simp at h
 | _::_,[],_,_,h=>by simp at h
 | a::as,u::ts,b,t,h=>by
  rw [zip_cons_cons,lookup_cons] at h;split at h
  .rename_i hb;rw [eq_of_beq hb];exact mem_cons_self
  .exact mem_cons_of_mem _ (lookup_mem h)
theorem ygK {H:Hp}{c:List Addr}{ts:List _}{b:Addr}(h:b∉c):yoJ H c ts b=H b:=by
 unfold yoJ;split
 .rename_i e;exact absurd (lookup_mem e) h
 .rfl
theorem yyI {W:Wd}{g:List Addr}{ts:List _}(w:WOk K W) (h:∀ a∈g,W.H a=none):Le K W (yFF W g ts):=by
 have nm:=fun a k=>w.out (h a k)
 have m:Same W.F (yoJ W.F g ts):=fun b o e=>by rw [ygK fun z=>by rw [w.ff (h b z)] at e;cases e];exact e
 have l:Same W.H (yoJ W.H g ts):=fun b o e=>by rw [ygK fun z=>by simp_all];exact e
 refine ⟨⟨?_,w.len,w.nd,fun n d a j i=>?_⟩,m,prefix_refl _,fun b u e _=>l b u e,fun b u e _ f=>?_,fun b z n=>absurd z n,fun n ks xs j=>⟨j,fun a i=>ygK fun z=>nm a z (mem_of_getElem? i)⟩⟩
 .intro b u e;have e:yoJ W.F g ts b=some u:=e;show yoJ W.H g ts b=some u;unfold yoJ at e ⊢;split at e
  .exact e
  .exact w.le _ _ e
 .have k:=fun z=>nm a z (mem_of_getElem? i)
  exact (w.at_ n d a j i).mono m (prefix_refl _) (fun u e=>l _ _ e) fun f=>(ygK k).trans f
 .exact (ygK fun z=>by simp_all).trans f
theorem ylV {F:Hp}{m:List Addr}{Y:Nat->PV}{T:Nat->List V}{Z:Nat->List PV}(n:∀ i,Y i=.tup (Z i)):∀ (d:List Addr) (q:List Nat),d.length=q.length->d.Nodup->(∀ a∈d,∀ i,i∈q->(d.zip (q.map T)).lookup a=some (T i)->F a=some (.tup (T i))) ->
  (∀ i∈q,RepL K F m (Z i) (T i))->RepL K F m (q.map Y) (d.map V.ref)
 | [],[],_,_,_,_=>rfl
 | [],_::_,h,_,_,_=>by cases h
 | _::_,[],h,_,_,_=>by cases h
 | a::d,i::q,hl,p,g,k=>by
  obtain ⟨r,o⟩:=List.nodup_cons.mp p;refine ⟨_,_,rfl,?_,ylV n d q (by simpa using hl) o (fun b l j f e=>?_) fun j f=>k j (mem_cons_of_mem _ f)⟩
  .rw [n];exact ⟨a,T i,rfl,.inl (g a mem_cons_self i mem_cons_self (by simp)),k i mem_cons_self⟩
  .refine g b (mem_cons_of_mem _ l) j (mem_cons_of_mem _ f) ?_;rw [map_cons,zip_cons_cons,lookup_cons];have:(b == a)=false:=beq_eq_false_iff_ne.mpr fun z=>r (z ▸ l)
   rw [this];exact e
noncomputable def sortI (ks:List Key) (xs:List PV):Option (List PV):=match yrG ks with|some ns=>if ns.length<64 then some ((ykl (ns.zip xs)).map fun p=>.tup [.int p.1,p.2]) else none|none=>none
noncomputable def yjw (e:XE):XO:=fun ρ h=>ob (e ρ h) fun x h1=>match ylS x h1 with|some (ks,xs)=>(match sortI ks xs with|some l=>some (.lst l,h1)|none=>none)|none=>none
theorem ywQ {W:Wd}{x:PV}{v:V}{ks:List Key}{xs:List PV}(w:WOk K W) (e:ylS x W.h=some (ks,xs)) (r:ycN K W x v):tyV K.K "dict" v W.H:=by obtain ⟨a,vs,rfl,hp,_⟩:=ylT w e r;exact .inr (.inr (.inl ⟨rfl,.inl ⟨_,hp⟩⟩))
theorem yrI {N:TE}{J:XE}(a:ybX K N J):ymH K (tCB rSI (ymR (yDC K.K "dict" ywP N) ywv)) (yjw J):=by
 intro Y W ρ b Q z h' g e q;obtain ⟨x,h1,e1,n⟩:=yj e;refine a Y W ρ b _ x h1 g e1 fun v G w1 s O=>?_
 subst w1;split at n
 .rename_i ks xs M;split at n
  .rename_i l hl;cases n;refine ⟨ywQ s.ok M O,?_⟩;obtain ⟨d,vs,ev,hp,hvl,R⟩:=ylT s.ok M O;subst ev;refine ⟨d,_,rfl,rfl,hp,fun r L=>?_⟩;unfold sortI at hl;split at hl
   .rename_i ns y;split at hl
    .rename_i S;cases hl;have y:=yoK y;have k:=ycQ (o:=ypN r d) s.ok L;have hnl:ks.length=ns.length:=by simp_all
     have C:xs.length=ns.length:=by rw [<- R.len];omega
     refine ⟨r,d,ks.zip vs,ns,rfl,yK,(yO (ybB hp L)).trans hp,by rw [List.map_fst_zip (by omega),y],by simp_all,fun p t o f hs X D c E=>?_⟩;rw [List.map_snd_zip (by omega)];generalize m:yhE G r (ypN r d)=B at k;have F:B.H=upd G.H r (ypN r d):=by rw [<- m];rfl
     rw [<- F] at c ⊢;have j:=yyI (ts:=o.map fun i=>[V.int (ns.getD i 0),vs.getD i .non]) k.ok fun a P=>c a (mem_cons_of_mem _ P)
     obtain ⟨n1,n2⟩:=List.nodup_cons.mp E;have h:(yFF B t (o.map fun i=>[V.int (ns.getD i 0),vs.getD i .non])).H p=none:=(ygK n1).trans (c p mem_cons_self);have I:=ycQ (o:=.lst (t.map V.ref)) j.ok h;have l:=k.trans (j.trans I);have A:∀ i∈o,i<ns.length:=fun i w=>by have:=f.mem_iff.mp w;simpa using this
     refine q p _ (by rw [<- m];rfl) (s.trans l) (j.ok.out h) ((s.trans k).fresh (c p mem_cons_self)) (fun z=>by cases z) ⟨j.ok.ff h,_,yK,?_⟩;rw [<- yvg C f hs X,map_map];refine ylV (T:=fun i=>[V.int (ns.getD i 0),vs.getD i .non]) (Z:=fun i=>[.int (ns.getD i 0),xs.getD i .non]) (fun i=>rfl) t o D n2 (fun a P i w e=>?_) fun i w=>⟨_,_,rfl,rfl,_,_,rfl,?_,rfl⟩
     .show yoJ B.F t _ a=_;unfold yoJ;rw [e]
     .have hi':=A i w;obtain ⟨u,U,h4⟩:=(k.trans (j.trans I)).repL R |>.get (List.getElem?_eq_getElem (show i<xs.length by omega));have e5:xs.getD i .non=xs[i]'(by omega):=by simp [getD,List.getElem?_eq_getElem (show i<xs.length by omega)]
      have e6:vs.getD i .non=u:=by simp [getD,U]
      rw [e5,e6];exact h4
    .cases hl
   .cases hl
  .cases n
 .cases n
end PX
namespace PX
open PySem L2
variable {K:Ck}
noncomputable def ItR (K:PySem.W.Frag) (a:Addr) (m:Nat):It :=
 ⟨fun i H=>i<m/\∃ xs x,SqL K H a xs/\xs[m-1-i]?=some x,fun i H x H'=>H'=H/\∀ xs,SqL K H a xs->xs[m-1-i]?=some x,fun i _=>i=m⟩
noncomputable def yFG (K:PySem.W.Frag) (tl:TE):TI:=fun Z H R=>tl Z H fun x H1=>∃ a xs,x=.ref a/\SqL K H1 a xs/\R (ItR K a xs.length) H1
noncomputable def ymK (n:Nat) (rev:Bool) (g:XG) (s:XS):Nat->Nat->PSt->AH->Option (Out×AH)
 | 0,i,ρ,h=>match h[n]? with|some (.lst xs)=>if xs.length=i then some (.nx ρ,h) else none|_=>none
 | k+1,i,ρ,h=>match h[n]? with
  | some (.lst xs)=>(match xs[if rev then k else i]? with
   | some x=>(g x ρ).bind fun ρ1=>ob (s ρ1 h) fun o h1=>match o with|.nx ρ'=>ymK n rev g s k (i+1) ρ' h1|.ct ρ'=>ymK n rev g s k (i+1) ρ' h1|.bk ρ'=>some (.nx ρ',h1)|.rt y=>some (.rt y,h1)
   | none=>none)
  | _=>none
noncomputable def ykm (rev:Bool) (e:XE) (g:XG) (s:XS):XS:=fun ρ h=>ob (e ρ h) fun x h1=>match x with
 | .loc n=>(match h1[n]? with|some (.lst xs)=>ymK n rev g s xs.length 0 ρ h1|_=>none)
 | _=>none
structure ItX (K:Ck) (n:Nat) (rev:Bool) (m:Nat) (a:Addr) (J:It):Prop where
 go:∀ (i:Nat) (H:Hp) (vs:List V) (v:V),H a=some (.lst vs)->i<m->vs[if rev then m-1-i else i]?=some v->J.go i H
 yld:∀ (i:Nat) (H:Hp) (vs:List V) (v:V) (H2:Hp),H a=some (.lst vs)->i<m->J.yld i H v H2->H2=H/\vs[if rev then m-1-i else i]?=some v
 stop:∀ (H:Hp) (vs:List V),H a=some (.lst vs)->vs.length=m->J.stop m H
section
variable {ta:TE}{ea:XE}{t:TS}{s:XS}
theorem ylW {n:Nat}{xs:List PV}{p:Addr}{us:List V}{J:It}{rev:Bool}{g:TG}{y:XG}(b:ytB K g y) (c:yfr K t s) {W0 W W1:Wd}{ρ:PSt}{Y:St}{D:Ends}{o:Out}{h':AH}(gd:Good K W0 W ρ Y) (l1:Le K W W1) (q:Ends.Ok K W0 W D h' o)
  (f1:ymK n rev y s xs.length 0 ρ W1.h=some (o,h')) (hn:W1.h[n]?=some (.lst xs)) (hm:W1.m[n]?=some p) (rs:ycI K W1 xs us) (J1:ItX K n rev us.length p J) :
  ∃ Z:Nat->Nat->St->Hp->Prop,(∃ m,Z 0 m Y W1.H)/\∀ i m Y H,Z i m Y H ->
   (J.stop i H/\D.nx Y H)\/(J.go i H/\∃ N:St->Hp->Prop,(∀ Y' H',N Y' H'->∃ m',m'<m/\Z (i+1) m' Y' H')/\∀ x H',J.yld i H x H'->g x Y H' fun Y2 H2=>t { D with nx:=N,ct:=N,bk:=D.nx } Y2 H2):=by
   have q1:=q.from_ l1.lf;have hul:us.length=xs.length:=rs.len;rw [hul] at J1;refine ⟨fun i m Y H=>m=xs.length-i/\i<=xs.length/\∃ W' ρ',W'.H=H/\Lf K W1 W'/\Good K W0 W' ρ' Y/\ymK n rev y s (xs.length-i) i ρ' W'.h=some (o,h'),⟨_,rfl,zero_le _,W1,ρ,rfl,.refl,gd.step l1,f1⟩,?_⟩;rintro i m Y _ ⟨rfl,hi,W',ρ',rfl,l,g',f⟩;have hm':W'.m[n]?=some p:=yet l.pre hm
   by_cases hlt:i<xs.length
   .obtain ⟨k,hk⟩:∃ k,xs.length-i=k+1:=⟨xs.length-i-1,by omega⟩
    rw [hk] at f;unfold ymK at f;split at f
    .rename_i ys hy;split at f
     .rename_i z hz;obtain ⟨p',ev',hm2,hf',vs,hp',rs'⟩:=g'.ok.loc hy (v:=.ref p) ⟨p,rfl,hm'⟩;cases ev';have hix:(if rev=true then xs.length-1-i else i)=(if rev=true then k else i):=by rw [show xs.length-1-i=k by omega]
      obtain ⟨vz,hv1,hv2⟩:=rs'.get hz;obtain ⟨ρ1,k1,f⟩:=Option.bind_eq_some_iff.mp f;obtain ⟨o1,h2,k2,f3⟩:=yj f;refine .inr ⟨J1.go i W'.H vs vz hp' hlt (by rw [hix];exact hv1),fun Y2 H2=>i+1<=xs.length/\∃ W2 ρ2,W2.H=H2/\Lf K W1 W2/\Good K W0 W2 ρ2 Y2/\ymK n rev y s (xs.length-(i+1)) (i+1) ρ2 W2.h=some (o,h'),fun Y2 H2 ⟨n1,n2⟩=>⟨xs.length-(i+1),by omega,rfl,n1,n2⟩,fun v H2 hy=>?_⟩;obtain ⟨rfl,hx⟩:=J1.yld i W'.H vs v H2 hp' hlt hy;rw [hix,hv1] at hx;cases hx;have ek:xs.length-(i+1)=k:=by omega
      refine b W0 W' ρ' ρ1 Y _ vz _ g' hv2 k1 fun Y2 g2=>?_
      refine c W0 W' ρ1 Y2 _ o1 h2 g2 k2 ?_;cases o1 with
      | nx ρ2=>exact fun W2 Y3 w2 l2 g3=>⟨hlt,W2,ρ2,rfl,l.trans l2,g3,by rw [w2,ek];exact f3⟩
      | ct ρ2=>exact fun W2 Y3 w2 l2 g3=>⟨hlt,W2,ρ2,rfl,l.trans l2,g3,by rw [w2,ek];exact f3⟩
      | bk ρ2=>cases f3;exact fun W2 Y3 w2 l2 g3=>q1 W2 Y3 w2 (l.trans l2) g3
      | rt x=>cases f3;exact q1
     .cases f
    .cases f
   .have ei:i=xs.length:=by omega
    subst ei;rw [sub_self] at f;unfold ymK at f;split at f
    .rename_i ys hy;obtain ⟨p',ev',hm2,hf',vs,hp',rs'⟩:=g'.ok.loc hy (v:=.ref p) ⟨p,rfl,hm'⟩;cases ev';split at f
     .rename_i hyl;cases f;exact .inl ⟨J1.stop W'.H vs hp' (by rw [rs'.len,hyl]),q1 W' Y rfl l g'⟩
     .cases f
    .cases f
theorem yEy {n m:Nat}{a:Addr}:ItX K n false m a (Itl K.K a) where
 go:=fun i H vs v h _ e=>⟨vs,v,SqL.of h,e⟩
 yld:=fun i H vs v c h _ e=>⟨e.1,e.2 vs (SqL.of h)⟩
 stop:=fun H vs h e=>⟨vs,SqL.of h,le_of_eq e⟩
theorem yEz {n m:Nat}{a:Addr}:ItX K n true m a (ItR K.K a m) where
 go:=fun i H vs v h c e=>⟨c,vs,v,SqL.of h,e⟩
 yld:=fun i H vs v d h _ e=>⟨e.1,e.2 vs (SqL.of h)⟩
 stop:=fun H vs h e=>rfl
theorem yvh {g:TG}{y:XG}(a:ybX K ta ea) (b:ytB K g y) (c:yfr K t s):yfr K (yCX (ytP K.K ta) g t) (ykm false ea y s):=by
 intro u W ρ Z D o h' j e q;obtain ⟨x,h1,n,f⟩:=yj e;refine a u W ρ Z _ x h1 j n fun v z r h l=>?_
 subst r;split at f
 .split at f
  .rename_i xs i;obtain ⟨p,ev,k,w,us,hp,m⟩:=h.ok.loc i l;exact ⟨p,ev,⟨us,SqL.of hp⟩,ylW b c j h q f i k m yEy⟩
  .cases f
 .cases f
theorem yvi {g:TG}{y:XG}(a:ybX K ta ea) (b:ytB K g y) (c:yfr K t s):yfr K (yCX (yFG K.K ta) g t) (ykm true ea y s):=by
 intro u W ρ Z D o h' j e q;obtain ⟨x,h1,n,f⟩:=yj e;refine a u W ρ Z _ x h1 j n fun v z r h l=>?_
 subst r;split at f
 .split at f
  .rename_i xs i;obtain ⟨p,ev,k,w,us,hp,m⟩:=h.ok.loc i l;exact ⟨p,us,ev,SqL.of hp,ylW b c j h q f i k m yEz⟩
  .cases f
 .cases f
end
end PX
namespace PX
open PySem L2
variable {K:Ck}
noncomputable def yEA (kvs more:List (Key×V)):List (Key×V):=more.foldl (fun acc kv=>putK acc kv.1 kv.2) kvs
def yFH:V->List V->Hp->VK->Prop:=fun x vs H Q=>∃ d o kvs more,x=.ref d/\vs=[.ref o]/\d≠o/\H d=some (.dK kvs)/\H o=some (.dK more)/\kvs.length+more.length<=sizeLine/\Q .non (upd H d (.dK (yEA kvs more)))
noncomputable def yiR:List Key->List PV->List Key->List PV->List Key×List PV
 | j::js,y::ys,ks,xs=>yiR js ys (ycR ks xs j y).1 (ycR ks xs j y).2
 | _,_,ks,xs=>(ks,xs)
def yrJ:PV->AH->Bool:=fun x h=>(ylS x h).isSome
theorem yvj {W:Wd}{x:PV}{v:V}(w:WOk K W) (r:ycN K W x v) (c:yrJ x W.h=true):tyV K.K "dict" v W.H:=by obtain ⟨⟨ks,xs⟩,a⟩:=Option.isSome_iff_exists.mp c;exact ywQ w a r
theorem yrK {F:Hp}{m:List Addr}:∀ {js:List Key}{ys:List PV}{us:List V}{ks:List Key}{xs:List PV}{vs:List V},RepL K F m ys us->us.length=js.length->RepL K F m xs vs->vs.length=ks.length ->
  ∃ ws,yEA (ks.zip vs) (js.zip us)=(yiR js ys ks xs).1.zip ws/\ws.length=(yiR js ys ks xs).1.length/\RepL K F m (yiR js ys ks xs).2 ws
 | [],ys,us,ks,xs,vs,r,hl,r2,c=>by
  obtain rfl:us=[]:=List.length_eq_zero_iff.mp (by simpa using hl);cases ys with
  | cons y ys=>obtain ⟨v,n,e,_⟩:=r;cases e
  | nil=>exact ⟨vs,rfl,c,r2⟩
 | j::js,[],us,ks,xs,vs,r,hl,r2,c=>by obtain rfl:us=[]:=r;cases hl
 | j::js,y::ys,_,ks,xs,vs,⟨u,us,e,d,i⟩,hl,r2,c=>by
  subst e;have key:∃ ws,putK (ks.zip vs) j u=(ycR ks xs j y).1.zip ws/\ws.length=(ycR ks xs j y).1.length/\RepL K F m (ycR ks xs j y).2 ws:=by
   have b:=yoC j u ks vs c;unfold ycR
   by_cases f:yrB ks j=true
   .rw [if_pos f] at b ⊢;exact ⟨_,b,by rw [ykg];exact c,r2.setK ks j d⟩
   .rw [if_neg f] at b ⊢;exact ⟨_,b,by simp_all,r2.snoc d⟩
  obtain ⟨ws,l,k,h⟩:=key;have g:=yrK i (by simpa using hl) h k;show ∃ ws,yEA (putK _ j u) _=_/\_;rw [l];exact g
noncomputable def yBC:PM:=fun x ys h=>match x,ys with|.loc n,[.loc k]=>(match h[n]?,h[k]? with|some (.dct ks xs),some (.dct js zs)=>if n≠k/\ks.length+js.length<1000 then some (.non,h.set n (.dct (yiR js zs ks xs).1 (yiR js zs ks xs).2)) else none|_,_=>none)|_,_=>none
theorem yEB:yiT K "dict" yrJ yFH yBC:=by
 refine ⟨fun W x v w r c=>yvj w r c,fun W x v xs vs Q z h' w rx r e q=>?_⟩;unfold yBC at e;split at e
 .rename_i n k;split at e
  .rename_i ks xs js zs hn hk;split at e
   .rename_i hc;cases e;obtain ⟨u,rfl,ru⟩:=ynt r;obtain ⟨a,ev,hm,hf,us,hp,hl,rs⟩:=w.loc hn rx;obtain ⟨b,ev2,hm2,hf2,us2,hp2,hl2,rs2⟩:=w.loc hk ru;have hne:a≠b:=fun z=>by subst z;obtain ⟨l1,q1⟩:=List.getElem?_eq_some_iff.mp hm;obtain ⟨l2,q2⟩:=List.getElem?_eq_some_iff.mp hm2;exact hc.1 (yju w.nd l1 l2 (q1.trans q2.symm))
    obtain ⟨ws,p1,p2,p3⟩:=yrK rs2 hl2 rs hl;refine ⟨a,b,_,_,ev,by rw [ev2],hne,hp,hp2,by rw [length_zip,length_zip];exact small (by omega),?_⟩;rw [p1];exact q .non (ynz W n a (.dK ((yiR js zs ks xs).1.zip ws)) (.dct (yiR js zs ks xs).1 (yiR js zs ks xs).2)) rfl (yfI w hn hm hf ⟨hf,_,yK,p2,p3⟩) rfl
   .cases e
  .cases e
 .cases e
end PX
namespace PX
open PySem L2
variable {K:Ck}
def yBD (J:It) (tc:TT) (te:TE) (inn:V->St) (D:Addr) (Q:VK) (H:Hp):Prop:=∃ W:Nat->Nat->Hp->Prop,(∃ m,W 0 m H)/\∀ i m H,W i m H ->
 (J.stop i H/\Q (.ref D) H)\/(J.go i H/\∀ x H',J.yld i H x H'->tc (inn x) H' fun b H1=>if b=true then te (inn x) H1 fun y H2=>∃ acc,H2 D=some (.lst acc)/\acc.length<sizeLine/\∃ m',m'<m/\W (i+1) m' (upd H2 D (.lst (acc++[y]))) else ∃ m',m'<m/\W (i+1) m' H1)
noncomputable def yjx (wi:TI) (ix:List Nat) (tc:TT) (te:TE):TE:=fun Z H Q=>wi Z H fun J H1=>∀ D,H1 D=none->yBD J tc te (inner ix Z) D Q (upd H1 D (.lst []))
end PX
namespace PX
open PySem L2
variable {K:Ck}
noncomputable def ykn:Key->PV|.inl i=>.int i|.inr s=>.str s
theorem yrL {W:Wd} k:ycN K W (ykn k) (kV k):=by cases k<;>exact rfl
noncomputable def ItD (a:Addr) (ob:Obj) (kvs:List (Key×V)):It :=
 ⟨fun i H=>i<kvs.length/\H a=some (.frz ob (.dK kvs)),fun i H x H'=>H'=H/\∃ kv,kvs[i]?=some kv/\x=kV kv.1,fun i H=>i=kvs.length/\H a=some (.frz ob (.dK kvs))⟩
noncomputable def yBE (NF:Addr->Prop) (te:TE):TI:=fun Z H R=>te Z H fun x H1=>∃ a kvs,x=.ref a/\H1 a=some (.dK kvs)/\∀ ob,NF a->R (ItD a ob kvs) (upd H1 a (.frz ob (.dK kvs)))
theorem yyJ {W:Wd}(w:WOk K W) {n:Nat}{d d':Nd}{a:Addr}{o:HO}(e:W.h[n]?=some d) (hm:W.m[n]?=some a) (hF:W.F a=none) (at':NdAt K W.F (upd W.H a o) W.m d' a):WOk K (ynz W n a o d'):=by
 have hn:n<W.h.length:=(List.getElem?_eq_some_iff.mp e).1;refine ⟨fun b u q=>?_,by show W.m.length=(W.h.set n d').length;rw [length_set];exact w.len,w.nd,fun j dj b e1 e2=>?_⟩
 .have:b≠a:=ybB q hF;exact (yO this).trans (w.le _ _ q)
 .have e1:(W.h.set n d')[j]?=some dj:=e1
  by_cases hj:n=j
  .subst hj;rw [getElem?_set_self hn] at e1;cases e1;have e2:W.m[n]?=some b:=e2;rw [hm] at e2;cases e2;exact at'
  .rw [getElem?_set_ne hj] at e1;have e2:W.m[j]?=some b:=e2;have hb:b≠a:=fun z=>by subst z;obtain ⟨l1,q1⟩:=List.getElem?_eq_some_iff.mp hm;obtain ⟨l2,q2⟩:=List.getElem?_eq_some_iff.mp e2;exact hj (yju w.nd l1 l2 (q1.trans q2.symm))
   exact (w.at_ j dj b e1 e2).mono (Same.refl _) (prefix_refl _) (fun u q=>(yO hb).trans q) id
theorem yyK {e f:Wd}(w:WOk K f) (pre:e.m <+: f.m) (fz:∀ (n:Nat) ks xs,e.h[n]?=some (.fz ks xs)->f.h[n]?=some (.fz ks xs)/\∀ a,e.m[n]?=some a->f.H a=e.H a)
  {n:Nat}{a:Addr}{o:HO}{d:Nd}(q:f.m[n]?=some a) (r:∀ ks xs,e.h[n]?≠some (.fz ks xs)) (j:Nat) ks xs (i:e.h[j]?=some (.fz ks xs)) :
  (ynz f n a o d).h[j]?=some (.fz ks xs)/\∀ b,e.m[j]?=some b->(ynz f n a o d).H b=e.H b:=by
 obtain ⟨h1,h2⟩:=fz j ks xs i;have k:n≠j:=fun z=>by subst z;exact r _ _ i
 refine ⟨(getElem?_set_ne k).trans h1,fun b g=>(yO fun z=>?_).trans (h2 b g)⟩;subst z;obtain ⟨s,m⟩:=List.getElem?_eq_some_iff.mp q;obtain ⟨l,p⟩:=List.getElem?_eq_some_iff.mp (yet pre g);exact k (yju w.nd s l (m.trans p.symm))
theorem yyL {h f:Wd}(l:Le K h f) {n:Nat}{a:Addr}{o:HO}{d d':Nd}(e:f.h[n]?=some d) (g:f.m[n]?=some a) (k:f.F a=none) (at':NdAt K f.F (upd f.H a o) f.m d' a) (j:∀ ks xs,h.h[n]?≠some (.fz ks xs)):Le K h (ynz f n a o d') where
 ok:=yyJ l.ok e g k at'
 fs:=l.fs
 pre:=l.pre
 keep:=fun b u q i=>by
  have:b≠a:=fun z=>by subst z;rw [l.mn b (mem_of_getElem? g) i] at q;cases q
  exact (yO this).trans (l.keep b u q i)
 new:=l.new
 mn:=l.mn
 fz:=yyK l.ok l.pre l.fz g j
theorem yBF {W b:Wd}(l:Le K W b) {n:Nat}{d:Nd}(e:b.h[n]?=some d) (c:∀ ks xs,d≠.fz ks xs) ks xs:W.h[n]?≠some (.fz ks xs):=fun z=>by have:=(l.fz n ks xs z).1;rw [e] at this;simp_all
end PX
namespace PX
open PySem L2
variable {K:Ck}
noncomputable def spJ (K:Ck) (n k:Nat) (f:List PV->AH->Option (Nd×AH)):Sp:=fun vs H Q _=>∃ (W0 W:Wd) (x:Addr) (args:List V) (xs:List PV) (d:Nd) (h':AH),vs=.ref x::args/\W.H=H/\Le K W0 W/\W0.H x=none/\x∉W.m/\NdAt K W.F W.H W.m (.ins k [] []) x /\
 ycI K W xs args/\xs.length=n/\f xs W.h=some (d,h')/\∀ W',W'.h=h'->Lf K W W'->Le K W0 W'->x∉W'.m->d≠.dead->NdAt K W'.F W'.H W'.m d x->Q .non W'.H
theorem yyM {n k:Nat}{f} {vs:List V}{H:Hp}{Q:VK}{E:XK}(h:spJ K n k f vs H Q E):vs.length=n+1:=by obtain ⟨b,W,x,args,xs,d,h',rfl,_,_,_,_,_,r,a,_⟩:=h;rw [length_cons,r.len,a]
theorem yrM {N:List Str}{n k:Nat}{t:TS}{s:XS}{vs:List V}{H:Hp}{Q:VK}{E:XK}{bk ct:St->Hp->Prop}(hN:n+1<=N.length) (a:ytE K t s) (h:spJ K n k (ymJ N.length k s) vs H Q E):t ⟨fun _ H'=>Q .non H',Q,bk,ct⟩ (L2.start N vs) H:=by
 obtain ⟨W0,W,x,args,xs,d,h',rfl,rfl,le,hx,hm,at_,r,hn,e,q⟩:=h;obtain ⟨o,h1,e1,f1⟩:=yj e;have gs:=ygE (K:=K) (N:=N.drop 1) le.ok r;have g:Good K W0 W (.own (.ins k [] [])::(xs.map .val++replicate (N.length-(xs.length+1)) .no)) (L2.start N (.ref x::args)):=by
  have es:L2.start N (.ref x::args)=some (.ref x)::L2.start (N.drop 1) args:=by
   have e3:N.length-(args.length+1)=(N.drop 1).length-args.length:=by rw [length_drop];omega
   unfold L2.start;rw [map_cons,List.cons_append,length_cons,e3]
  have eN:N.length-(xs.length+1)=(N.drop 1).length-xs.length:=by rw [length_drop];omega
  rw [es,eN];have noown:∀ (j:Nat) (d:Nd),(xs.map PVar.val++replicate ((N.drop 1).length-xs.length) .no)[j]?≠some (.own d):=fun j d z=>by
   by_cases hj:j<xs.length
   .rw [getElem?_append_left (by simpa using hj),getElem?_map,List.getElem?_eq_getElem hj] at z;cases z
   .rw [getElem?_append_right (by simp;omega),getElem?_replicate] at z;split at z<;>cases z
  refine ⟨le,by rw [length_cons,length_cons,gs.len],fun j y z=>?_,fun j d z=>?_,fun i j d d' hij z z'=>?_⟩
  .cases j with
   | zero=>cases z
   | succ j=>exact gs.val j y z
  .cases j with
   | zero=>cases z;exact ⟨x,rfl,hm,hx,(fun z=>by cases z),at_⟩
   | succ j=>exact absurd z (noown j d)
  .cases i with
   | zero =>
    cases j with
    | zero=>exact absurd rfl hij
    | succ j=>exact absurd z' (noown j d')
   | succ i=>exact absurd z (noown i d)
 cases o with
 | rt y=>cases f1
 | bk ρ=>cases f1
 | ct ρ=>cases f1
 | nx ρ =>
  refine a W0 W _ ρ _ _ h1 g e1 fun W' ew lf g'=>?_
  dsimp only at f1;split at f1
  .rename_i d' hd';cases f1;obtain ⟨p,b1,b2,b3,b4,b5⟩:=g'.own 0 _ hd';have b1:some (some (V.ref x))=some (some (V.ref p)):=b1;cases b1;exact q W' ew lf g'.le b2 b4 b5
  .cases f1
noncomputable def yBG:PVar->Bool|.own _=>false|_=>true
noncomputable def xBI (k:Nat) (f:List PV->AH->Option (Nd×AH)) (a:XA):XS:=fun ρ h=>match ρ with
 | .own (.ins k' [] [])::r=>if k'=k/\r.all yBG=true then ob (a ρ h) fun xs h1=>ob (f xs h1) fun d h2=>(match d with|.dead=>none|d=>some (.nx (.own d::r),h2)) else none
 | _=>none
theorem yyN {n k:Nat}{f} {E:XK}{t:TA}{aa:XA}(a:ymG K t aa) (hn:∀ ρ h xs h',aa ρ h=some (xs,h')->xs.length=n):ytE K (yqr (ytV (spJ K n k f) [] E (ymR (yqh 0) t))) (xBI k f aa):=by
 intro W0 W ρ ρ' Z D h' g e q;unfold xBI at e;split at e
 .rename_i k' r;split at e
  .rename_i c;obtain ⟨rfl,hr⟩:=c;obtain ⟨xs,h1,e1,f1⟩:=yj e;obtain ⟨d,h2,e2,f2⟩:=yj f1;have nodead:d≠.dead:=fun z=>by subst z;cases f2
   have f2:some (Out.nx (.own d::r),h2)=some (.nx ρ',h'):=by cases d<;>first|exact f2|cases f2
   cases f2;obtain ⟨p,b1,b2,b3,b4,b5⟩:=g.own 0 _ rfl;refine ⟨.ref p,b1,?_⟩;refine a W0 W _ Z _ xs h1 g e1 fun vs W1 w1 l1 r1=>?_
   subst w1;have g1:=g.step l1;obtain ⟨p',c1,c2,c3,c4,c5⟩:=g1.own 0 _ rfl;rw [b1] at c1;cases c1;rw [append_nil];refine ⟨W0,W1,p,vs,xs,d,h',rfl,rfl,g1.le,c3,c2,c5,r1,hn _ _ _ _ e1,e2,fun W2 w2 lf le hm hd at_=>?_⟩;refine q W2 w2 (l1.lf.trans lf) ⟨le,g1.len,fun j y z=>?_,fun j d' z=>?_,fun i j d1 d2 hij z1 z2=>?_⟩
   .cases j with
    | zero=>cases z
    | succ j =>
     obtain ⟨v,z1,z2⟩:=g1.val (j+1) y z;exact ⟨v,z1,lf.rep z2⟩
   .cases j with
    | zero=>cases z;exact ⟨p,b1,hm,c3,hd,at_⟩
    | succ j =>
     have z:r[j]?=some (.own d'):=z;have:=List.all_eq_true.mp hr _ (mem_of_getElem? z);cases this
   .cases i with
    | zero =>
     cases j with
     | zero=>exact absurd rfl hij
     | succ j =>
      have z:r[j]?=some (.own d2):=z2;have:=List.all_eq_true.mp hr _ (mem_of_getElem? z);cases this
    | succ i =>
     have z:r[i]?=some (.own d1):=z1;have:=List.all_eq_true.mp hr _ (mem_of_getElem? z);cases this
  .cases e
 .cases e
theorem yvk {a:Addr}{ss:List Str}(h:KTp K.K a (ss.map V.str)):ybX K (tC (.ref a)) (xC (.tup (ss.map PV.str))):=by
 intro c W ρ Z Q x h' g e q;cases e;refine q _ W rfl (.refl g.ok) ⟨a,_,rfl,.inr h,?_⟩;clear h q
 induction ss with
 | nil=>exact rfl
 | cons s ss ih=>exact ⟨_,_,rfl,rfl,ih⟩
end PX
namespace PX
open PySem L2
variable {K:Ck}
noncomputable def yrN (c:Nat):List Nat->List (List Nat)
 | []=>[[]]
 | k::r=>if k=c then []::yrN c r else match yrN c r with|[]=>[[k]]|w::ws=>(k::w)::ws
theorem ylX {c:Nat}:∀ {w:List Nat},c∉w->yrN c w=[w]
 | [],_=>rfl
 | k::r,h=>by
  have h1:k≠c:=fun z=>h (z ▸ mem_cons_self ..)
  unfold yrN;rw [if_neg h1,ylX fun z=>h (mem_cons_of_mem _ z)]
theorem yoM {c:Nat}:∀ {w r:List Nat},c∉w->yrN c (w++c::r)=w::yrN c r
 | [],r,_=>by show (if c=c then []::yrN c r else _)=_;rw [if_pos rfl]
 | k::w,r,h=>by
  have h1:k≠c:=fun z=>h (z ▸ mem_cons_self ..)
  show (if k=c then []::yrN c _ else match yrN c (w++c::r) with|[]=>[[k]]|w::ws=>(k::w)::ws)=_;rw [if_neg h1,yoM fun z=>h (mem_cons_of_mem _ z)]
def ywR (z:Str):List Str:=(yrN 32 z.cps.toList).map fun w=>⟨w.toArray⟩
theorem yie:∀ ws,ws≠[]->(∀ w∈ws,32∉w.cps.toList)->ywR (Str.join " " ws)=ws
 | [],h,_=>absurd rfl h
 | [w],_,h=>by have h1:=ylX (h w (List.mem_singleton.mpr rfl));show (yrN 32 w.cps.toList).map _=_;rw [h1];rfl
 | w::v::r,_,h=>by
  have c:=yie _ (fun z=>by cases z) fun u d=>h u (mem_cons_of_mem _ d)
  show ywR (w++" "++Str.join " " _)=_;have e:(w++" "++Str.join " " (v::r)).cps.toList=w.cps.toList++32::(Str.join " " (v::r)).cps.toList:=by show (w.cps++(" ":Str).cps++(Str.join " " _).cps).toList=_;rw [show (" ":Str).cps = #[32] by rfl'];simp
  unfold ywR at c ⊢;rw [e,yoM (h w (mem_cons_self ..)),map_cons,c]
def ywS:V->List V->Hp->VK->Prop:=fun x vs H Q=>∃ z:Str,x=.str z/\vs=[.str " "]/\z.length<=100000/\∀ p,H p=none->Q (.ref p) (upd H p (.lst ((ywR z).map V.str)))
noncomputable def yoN:PM:=fun x xs h=>match x,xs with|.str z,[.str y]=>if y = " "/\z.length<=100000 then some (.lst ((ywR z).map .str),h) else none|_,_=>none
theorem RepL.of_strs {F:Hp}{m:List Addr}:∀ (ts:List Str),RepL K F m (ts.map PV.str) (ts.map V.str)
 | []=>rfl
 | _::ts=>⟨_,_,rfl,rfl,RepL.of_strs ts⟩
theorem m_split:yiT K "str" isStr ywS yoN:=by
 refine ⟨fun W x v w r c=>?_,fun W x v xs vs Q z h' w f r e q=>?_⟩
 .unfold isStr at c;split at c
  .rw [r];rfl
  .cases c
 .unfold yoN at e;split at e
  .rename_i z y;split at e
   .rename_i c;cases e;obtain ⟨u,rfl,d⟩:=ynt r;refine ⟨z,f,by rw [d,c.1],c.2,fun p hp=>?_⟩;have b:=yqY (o:=.lst ((ywR z).map V.str)) w hp;exact q _ (yxY W p _) rfl b ⟨p,_,rfl,yK,RepL.of_strs _⟩
   .cases e
  .cases e
theorem yyO {z:Str}{h:AH}(e:z.length<=100000):yoN (.str z) [.str " "] h=some (.lst ((ywR z).map .str),h):=by exact if_pos ⟨rfl,e⟩
variable {t:TS}{s:XS}
end PX
namespace PX
open PySem L2
variable {K:Ck}
mutual
noncomputable def clean:PV->Bool
 | .loc _=>false
 | .lst xs=>yoO xs
 | .tup xs=>yoO xs
 | .ins _ _ xs=>yoO xs
 | _=>true
noncomputable def yoO:List PV->Bool
 | []=>true
 | x::xs=>clean x && yoO xs
end
noncomputable def yrO (f:PV->Option PV):List PV->Option (List PV)
 | []=>some []
 | x::xs=>match f x,yrO f xs with|some y,some ys=>some (y::ys)|_,_=>none
noncomputable def see:Nat->AH->PV->Option PV
 | 0,_,x=>if clean x=true then some x else none
 | n+1,h,x=>match x with
  | .loc m=>(match h[m]? with|some (.lst xs)=>(yrO (see n h) xs).map .lst|some (.ins k ns xs)=>(yrO (see n h) xs).map (.ins k ns)|_=>none)
  | x=>if clean x=true then some x else none
variable {t:TA}{e:XA}
end PX
namespace PX
open PySem L2
variable {K:Ck}
theorem yEC {W W1:Wd}(l1:Le K W W1) {p:Addr}{d:Nd}(hm:p∉W1.m) (hn:W.H p=none) (at_:NdAt K W1.F W1.H W1.m d p):Le K W ⟨W1.F,W1.H,W1.m++[p],W1.h++[d]⟩/\ycN K ⟨W1.F,W1.H,W1.m++[p],W1.h++[d]⟩ (.loc W1.h.length) (.ref p):=by
 have pre:W1.m <+: W1.m++[p]:=List.prefix_append _ _;refine ⟨⟨⟨l1.ok.le,?_,?_,fun n d' a e1 e2=>?_⟩,l1.fs,l1.pre.trans pre,l1.keep,l1.new,fun b z n=>?_,fun n ks xs e1=>⟨by have:=(l1.fz n ks xs e1).1;show (W1.h++[d])[n]?=_;rw [getElem?_append_left (List.getElem?_eq_some_iff.mp this).1];exact this,(l1.fz n ks xs e1).2⟩⟩,⟨p,rfl,?_⟩⟩
 .show (W1.m++[p]).length=(W1.h++[d]).length;rw [length_append,length_append,l1.ok.len];rfl
 .show (W1.m++[p]).Nodup;rw [List.nodup_append];refine ⟨l1.ok.nd,by simp,?_⟩;intro a ha b hb;simp at hb;subst hb;exact fun z=>hm (z ▸ ha)
 .have e1:(W1.h++[d])[n]?=some d':=e1;have e2:(W1.m++[p])[n]?=some a:=e2
  by_cases hlt:n<W1.h.length
  .rw [getElem?_append_left hlt] at e1;rw [getElem?_append_left (by rw [l1.ok.len];exact hlt)] at e2;exact (l1.ok.at_ n d' a e1 e2).mono (Same.refl _) pre (fun _ f1=>f1) id
  .rw [getElem?_append_right (by omega)] at e1;rw [getElem?_append_right (by rw [l1.ok.len];omega)] at e2;rw [l1.ok.len] at e2;cases hk:n-W1.h.length with
   | zero =>
    rw [hk] at e1 e2;simp at e1 e2;subst e1 e2;exact at_.mono (Same.refl _) pre (fun _ f1=>f1) id
   | succ k=>rw [hk] at e1;simp at e1
 .have z:b∈W1.m++[p]:=z;rcases List.mem_append.mp z with z|z
  .exact l1.mn b z n
  .simp at z;subst z;exact hn
 .show (W1.m++[p])[W1.h.length]?=some p;rw [<- l1.ok.len];simp
noncomputable def yjy (k:Nat) (f:Fn) (a:XA):XE:=fun ρ h=>ob (a ρ h) fun xs h1=>ob (f (.loc h1.length::xs) (h1++[.ins k [] []])) fun x h2=>match x with|.non=>some (.loc h1.length,h2)|_=>none
theorem yrP {k:Nat}{f:Fn}{b:XA}{ρ:PSt}{h:AH}:yjy k f b ρ h=ob (b ρ h) fun xs h1=>ob (f (.loc h1.length::xs) (h1++[.ins k [] []])) fun x h2=>match x with|.non=>some (.loc h1.length,h2)|_=>none:=id rfl
theorem yrQ {n k:Nat}{f:Fn}{ex:XK}{t:TA}{e:XA}(a:ymG K t e) (hn:∀ ρ h xs h',e ρ h=some (xs,h')->xs.length=n):ybX K (ytW (K.A k) (spE K (n+1) f) [] ex t) (yjy k f e):=by
 intro W0 W ρ Z Q z h' g e' q;obtain ⟨xs,h1,e1,e2⟩:=yj e';obtain ⟨y,h2,e3,e4⟩:=yj e2;refine a W0 W ρ Z _ xs h1 g e1 fun vs W1 w1 l1 r1=>?_
 subst w1;intro x dx hx hd hne;rw [append_nil];have a1:Le K W1 (yhE W1 dx (.own x)):=ycQ l1.ok hd;have hx1:(yhE W1 dx (.own x)).H x=none:=(yO hne.symm).trans hx;have a2:Le K (yhE W1 dx (.own x)) (yhE (yhE W1 dx (.own x)) x (.ins (K.A k) dx [])):=ycQ a1.ok hx1;obtain ⟨a3,r3⟩:=yEC (d:=.ins k [] []) (a1.trans a2) (l1.ok.out hx) hx ⟨l1.ok.ff hx,dx,[],yK,rfl,rfl⟩;refine ⟨⟨W1.F,upd (upd W1.H dx (.own x)) x (.ins (K.A k) dx []),W1.m++[x],W1.h++[Nd.ins k [] []]⟩,.loc W1.h.length::xs,y,h2,rfl,a3.ok,⟨_,_,rfl,r3,a3.repL r1⟩,by rw [length_cons,hn _ _ _ _ e1],e3,fun v W' w' l' r'=>?_⟩;split at e4
 .cases e4;exact ⟨r',q (.ref x) W' w' (l1.trans (a3.trans l')) (l'.rep r3)⟩
 .cases e4
noncomputable def yFI:List V->Hp->VK->Prop:=fun xs H Q=>∃ (p:Addr) (bs:List Bool),xs=[.ref p]/\H p=some (.lst (bs.map V.bl))/\Q (.bl (bs.any id)) H
noncomputable def ywT:List PV->AH->Option (PV×AH):=fun xs h=>match xs with|[x]=>(match ybE x h with|some ys=>(match yhW ys with|some ns=>some (.bl (ns.any id),h)|none=>none)|none=>none)|_=>none
theorem yBH:yhS K yFI ywT:=by
 intro W xs vs Q z h' w r e q;unfold ywT at e;split at e
 .split at e
  .rename_i ys f;split at e
   .rename_i ns d;cases e;obtain ⟨v,rfl,g⟩:=ynt r;obtain ⟨a,us,rfl,hs,c⟩:=yba w f g;have:=yhX d c;subst this;exact ⟨a,ns,rfl,hs,q _ W rfl (.refl w) rfl⟩
   .cases e
  .cases e
 .cases e
noncomputable def yvl (n:Nat) (e:XE) (inn:PV->PSt):Nat->Nat->AH->Option (List PV×AH)
 | 0,i,h=>match h[n]? with|some (.lst xs)=>if xs.length=i then some ([],h) else none|_=>none
 | k+1,i,h=>match h[n]? with
  | some (.lst xs)=>(match xs[i]? with|some x=>ob (e (inn x) h) fun y h1=>ob (yvl n e inn k (i+1) h1) fun ys h2=>some (y::ys,h2)|none=>none)
  | _=>none
noncomputable def yoP (e:XE) (ix:List Nat) (el:XE):XO:=fun ρ h=>ob (e ρ h) fun x h1=>match x with
 | .loc n=>(match h1[n]? with|some (.lst xs)=>if xs.length<=10000 then ob (yvl n el (ygW ix ρ) xs.length 0 h1) fun ys h2=>some (.lst ys,h2) else none|_=>none)
 | _=>none
theorem yrR {ta tb:TE}{ea M:XE}(ix:List Nat) (a:ybX K ta ea) (b:ybX K tb M):ymH K (ypA (ytP K.K ta) ix tb) (yoP ea ix M):=by
 intro W0 W ρ c Q d h' gd e q;obtain ⟨x,h1,e1,t⟩:=yj e;refine a W0 W ρ c _ x h1 gd e1 fun v W1 w1 r r1=>?_
 subst w1;split at t
 .rename_i n;split at t
  .rename_i xs hn;split at t
   .rename_i hlen;obtain ⟨zs,h2,e2,f2⟩:=yj t;cases f2;obtain ⟨p,ev,hm,hf,us,hp,rs⟩:=r.ok.loc hn r1;refine ⟨p,ev,⟨us,SqL.of hp⟩,fun D F=>?_⟩;have nm:=r.ok.out F;have nf:=r.ok.ff F;refine ⟨fun i m H=>m=xs.length-i/\i<=xs.length/\∃ j h g rest,j.H=H/\Le K W1 j/\D∉j.m/\j.F D=none/\H D=some (.lst h)/\ycI K j g h/\g.length=i/\zs=g++rest/\yvl n M (ygW ix ρ) (xs.length-i) i j.h=some (rest,h'),⟨_,rfl,zero_le _,yhE W1 D (.lst []),[],[],zs,rfl,ycQ r.ok F,nm,nf,yK,rfl,rfl,rfl,e2⟩,?_⟩;rintro i m _ ⟨rfl,hi,j,h,g,rest,rfl,l,O,Z,E,R,ld,Y,f⟩;have I:j.m[n]?=some p:=yet l.pre hm
    by_cases T:i<xs.length
    .obtain ⟨k,hk⟩:∃ k,xs.length-i=k+1:=⟨xs.length-i-1,by omega⟩
     rw [hk] at f;unfold yvl at f;split at f
     .rename_i ys A;split at f
      .rename_i z hz;obtain ⟨p',s,X,S,vs,o,rs'⟩:=l.ok.loc A (v:=.ref p) ⟨p,rfl,I⟩;cases s;obtain ⟨y,h3,k1,f3⟩:=yj f;obtain ⟨G,h4,k2,f4⟩:=yj f3;cases f4;obtain ⟨vz,B,P⟩:=rs'.get hz;refine .inr ⟨⟨vs,vz,SqL.of o,B⟩,fun v H2 A=>?_⟩;obtain ⟨rfl,N⟩:=A;have N:=N vs (SqL.of o);rw [B] at N;cases N;refine b j j _ _ _ y h3 (yka gd (r.trans l) ix P) k1 fun w L w2 u r2=>?_
       have J:D∉L.m:=fun z=>by rw [u.mn D z O] at E;cases E
       have C:L.F D=none:=u.new D _ E O Z;refine ⟨h,u.keep _ _ E O,?_,xs.length-(i+1),by omega,rfl,T,yux L D (.lst (h++[w])),h++[w],g++[y],G,rfl,yjZ (l.trans u) J C F,J,C,yK,(u.repL R).snoc r2,by simp [ld],by simp [Y],?_⟩
       .rw [R.len,ld];exact big (by omega)
       .show yvl n M (ygW ix ρ) (xs.length-(i+1)) (i+1) L.h=some (G,h');rw [w2,show xs.length-(i+1)=k by omega];exact k2
      .cases f
     .cases f
    .have ei:i=xs.length:=by omega
     subst ei;rw [sub_self] at f;unfold yvl at f;split at f
     .rename_i ys A;obtain ⟨p',s,X,S,vs,o,rs'⟩:=l.ok.loc A (v:=.ref p) ⟨p,rfl,I⟩;cases s;split at f
      .rename_i U;cases f;refine .inl ⟨⟨vs,SqL.of o,by rw [rs'.len,U];exact Nat.le_refl _⟩,?_⟩;rw [append_nil] at Y;subst Y;exact q D j rfl (r.trans l) O (r.fresh F) (fun z=>by cases z) ⟨Z,h,E,R⟩
      .cases f
     .cases f
   .cases t
  .cases t
 .cases t
end PX
namespace PX
open PySem L2
variable {K:Ck}
noncomputable def ylY (e:XE) (ix:List Nat) (el:XE):XO:=fun ρ h=>ob (e ρ h) fun x h1=>match x with
 | .loc n=>(match h1[n]? with|some (.dct ks xs)=>if ks.length<=10000 then ob (yjp el (ygW ix ρ) (ks.map ykn) (h1.set n (.fz ks xs))) fun ys h2=>some (.lst ys,h2.set n (.dct ks xs)) else none|_=>none)
 | _=>none
noncomputable def ywU (NF:Addr->Prop) (te:TE) (ix:List Nat) (tb:TE):TE:=fun Z H Q=>ypA (yBE NF te) ix tb Z H fun v H'=>∃ a ob kvs,NF a/\H' a=some (.frz ob (.dK kvs))/\Q v (upd H' a (.dK kvs))
theorem yrS {NF:Addr->Prop}{ta tb:TE}{ea eb:XE}(ix:List Nat) (a:ybX K ta ea) (b:ybX K tb eb):ymH K (ywU NF ta ix tb) (ylY ea ix eb):=by
 intro W0 W ρ Z Q d h' gd e q;obtain ⟨x,h1,e1,f1⟩:=yj e;refine a W0 W ρ Z _ x h1 gd e1 fun v W1 w1 l1 r1=>?_
 subst w1;split at f1
 .rename_i n;split at f1
  .rename_i ks xs hn;split at f1
   .rename_i hlen;obtain ⟨zs,h2,e2,f2⟩:=yj f1;cases f2;have hz:=yri e2;rw [length_map] at hz;obtain ⟨p,ev,hm,hf,us,hp,hl,rs⟩:=l1.ok.loc hn r1;have hzl:(ks.zip us).length=ks.length:=by rw [length_zip,hl,Nat.min_self]
    refine ⟨p,ks.zip us,ev,hp,fun ob nf=>?_⟩;have lf:Le K W1 (ynz W1 n p (.frz ob (.dK (ks.zip us))) (.fz ks xs)):=yfI l1.ok hn hm hf ⟨hf,ob,us,yK,hl,rs⟩;have hnl:n<W1.h.length:=(List.getElem?_eq_some_iff.mp hn).1;have still:∀ W',Lf K (ynz W1 n p (.frz ob (.dK (ks.zip us))) (.fz ks xs)) W'->W'.h[n]?=some (.fz ks xs)/\W'.H p=some (.frz ob (.dK (ks.zip us))):=fun W' l=>by obtain ⟨z1,z2⟩:=l.fz n ks xs (getElem?_set_self hnl);exact ⟨z1,(z2 p hm).trans yK⟩
    have l2:=l1.trans lf;generalize hW2:ynz W1 n p (.frz ob (.dK (ks.zip us))) (.fz ks xs)=W2 at *;have hW2h:W2.h=W1.h.set n (.fz ks xs):=by rw [<- hW2];rfl
    have hW2H:W2.H=upd W1.H p (.frz ob (.dK (ks.zip us))):=by rw [<- hW2];rfl
    have hW2m:W2.m=W1.m:=by rw [<- hW2];rfl
    rw [<- hW2h] at e2;rw [<- hW2H];intro D hD;have nm:=lf.ok.out hD;have nf2:=lf.ok.ff hD;refine ⟨fun i m H=>m=ks.length-i/\i<=ks.length/\∃ W' acc done rest,W'.H=H/\Le K W2 W'/\D∉W'.m/\W'.F D=none/\H D=some (.lst acc)/\ycI K W' done acc/\done.length=i/\zs=done++rest/\yjp eb (ygW ix ρ) ((ks.map ykn).drop i) W'.h=some (rest,h2),⟨_,rfl,zero_le _,yhE W2 D (.lst []),[],[],zs,rfl,ycQ lf.ok hD,nm,nf2,yK,rfl,rfl,rfl,by rw [List.drop_zero];exact e2⟩,?_⟩;rintro i m _ ⟨rfl,hi,W',acc,done,rest,rfl,l,n1,n2,hd,rd,ld,ez,f⟩;obtain ⟨z1,z2⟩:=still W' l.lf
    by_cases hlt:i<ks.length
    .have hlt':i<(ks.map ykn).length:=by rw [length_map];exact hlt
     rw [List.drop_eq_getElem_cons hlt'] at f;obtain ⟨y,h3,k1,f3⟩:=yj f;obtain ⟨ys,h4,k2,f4⟩:=yj f3;cases f4;refine .inr ⟨⟨by rw [hzl];exact hlt,z2⟩,fun v H2 hy=>?_⟩;obtain ⟨rfl,kv,y1,rfl⟩:=hy;obtain ⟨y4,y5⟩:=List.getElem?_eq_some_iff.mp y1;have ek:(ks.map ykn)[i]=ykn kv.1:=by rw [List.getElem_map,<- y5,List.getElem_zip]
     rw [ek] at k1;refine b W' W' _ _ _ y h3 (yka gd (l2.trans l) ix (yrL kv.1)) k1 fun w W3 w3 l3 r3=>?_
     have nm3:D∉W3.m:=fun z=>by rw [l3.mn D z n1] at hd;cases hd
     have nf3:W3.F D=none:=l3.new D _ hd n1 n2;refine ⟨acc,l3.keep _ _ hd n1,?_,ks.length-(i+1),by omega,rfl,hlt,yux W3 D (.lst (acc++[w])),acc++[w],done++[y],ys,rfl,yjZ (l.trans l3) nm3 nf3 hD,nm3,nf3,yK,(l3.repL rd).snoc r3,by simp [ld],by simp [ez],?_⟩
     .rw [rd.len,ld];exact big (by omega)
     .show yjp eb (ygW ix ρ) ((ks.map ykn).drop (i+1)) W3.h=some (ys,h2);rw [w3];exact k2
    .have ei:i=ks.length:=by omega
     subst ei;rw [List.drop_of_length_le (by rw [length_map];exact Nat.le_refl _)] at f;cases f;refine .inl ⟨⟨hzl.symm,z2⟩,p,ob,ks.zip us,nf,z2,?_⟩;rw [append_nil] at ez;subst ez;have hm':W'.m[n]?=some p:=yet l.pre (by rw [hW2m];exact hm);obtain ⟨z3,_⟩:=l.ok.at_ n _ p z1 hm';have at':NdAt K W'.F (upd W'.H p (.dK (ks.zip us))) W'.m (.dct ks xs) p:=⟨z3,us,yK,hl,RepL.mono (lf.fs.trans l.fs) (lf.pre.trans l.pre) _ _ rs⟩
     have nW:=yBF l1 hn (fun _ _ z=>by cases z);have hDp:D≠p:=fun z=>by subst z;exact n1 (mem_of_getElem? hm')
     refine q D (ynz W' n p (.dK (ks.zip us)) (.dct ks xs)) rfl (yyL (l2.trans l) z1 hm' z3 at' nW) n1 (l2.fresh hD) (fun z=>by cases z) ⟨n2,acc,(yO hDp).trans hd,rd⟩
   .cases f1
  .cases f1
 .cases f1
end PX
namespace L2
open PySem PySem.Spec PyProof.Rows PX
def PTs (X:Cx) (cs:List Expr) (t:TT):Prop :=
 ∀ (pins:List (Addr×Obj)) (s:Shared) (Z:St) (H:Hp) (Q:Bool->Hp->Prop),Inv X pins Z H s->t Z H Q->wpAny (model X.prog X.w) X.A (forIn cs true fun c r=>if r=true then do let ok <- isTrue c X.env (eval c X.env);pure (ForInStep.yield ok) else pure (ForInStep.yield r)) (TP X pins Z Q) X.xe s
def yDf:TT:=fun _ H Q=>Q true H
theorem PTs.nil {X:Cx}:PTs X [] yDf:=fun p s Z H Q I q=>wpAny_tests_nil ⟨H,I,q⟩
theorem yrT {a:TI}{ix:List Nat}{te:TE}:yjx a ix yDf te=ypA a ix te:=rfl
theorem yyP {X:Cx}{e:Expr}{b:TI}{ix:List Nat}{te:TE}(h:PE X e (yjx b ix yDf te)):PE X e (ypA b ix te):=yrT ▸ h
theorem yED {X:Cx}{e:Stmt}{b:TI}{ix:List Nat}{te:TE}{g:TG}(h:PS X e (ywp (yjx b ix yDf te) g)):PS X e (ywp (ypA b ix te) g):=yrT ▸ h
theorem ylZ {X:Cx}{elt iter:Expr}{cs:List Expr}{tc:TT}{x:Str}{px:Pos}{scope:Scope}{N:Pos}{wi:TI}{te:TE}(ix:List Nat) (B:List Str) (hc:X.calm=true) (hi:PI X (.Name x px) iter wi) (hfr:FrOk X scope ix B)
  (he:∀ (t:List (Str×Addr)) (C:Addr) (R:Shared) (O:Hp) (fp:List Addr) (g:List (Addr×Obj)),PE (cxC X scope t C (x::B) R O fp g) elt te)
  (hq:∀ (t:List (Str×Addr)) (C:Addr) (R:Shared) (O:Hp) (fp:List Addr) (g:List (Addr×Obj)),PTs (cxC X scope t C (x::B) R O fp g) cs tc)
  (hnd:(x::B).Nodup) (F:scope.kind=.function) (Q:∀ y∈scope.names,y.2≠.cell)
  (hnames:∀ y∈scope.names,y.2=.local->scope.names.lookup y.1=some .local) (hfree0:∀ y∈scope.names,y.2=.free->y.1∈B) (hx:scope.names.lookup x=some .local)
  (hs:∀ v,foldedSetIterable iter X.env v=pure v)
  {g:List (Addr×Obj)}{s:Shared}{K:St}{H:Hp}{Qf:VK}{use:Option (Value->Sem Unit)}{QQ:Value->Shared->Prop}{p2:Pos}(I:Inv X g K H s) (h:yjx wi ix tc te K H Qf)
  (fin0:∀ {t:List (Str×Addr)}{C:Addr}{s3:Shared}{E:Hp}{fp:List Addr},Inv X g K E s3->(∀ b∈fp,ytO X g E b)->s3.heap.objs.size=C->∀ {D:Addr}{K':St}{Z:Hp}{s':Shared},Inv (cxC X scope t C (x::B) s3 E fp g) [] K' Z s'->Qf (.ref D) Z->compPost (model X.prog X.w) X.A X.xe use QQ (.ref D) C (.ok .next) s') :
  wpAny (model X.prog X.w) X.A (comprehension (.ListComp elt [⟨.Name x px,iter,cs,0⟩] scope N) scope X.env p2 (newList []) false (eval iter X.env) use) QQ X.xe s:=by
 have hfn:X.env.scope.kind=.function:=I.ok.kind;have S:∀ y∈scope.names,y.2=.free->X.env.kindOf y.1=some .cell/\scope.names.lookup y.1=some .free:=fun y G e=>by obtain ⟨j,hj,ej⟩:=getElem_of_mem (hfree0 y G e);obtain ⟨i,_,_,h3,h4⟩:=hfr.get (j:=j) (y:=y.1) (by rw [List.getElem?_eq_getElem hj,ej]);exact ⟨h4,h3⟩
 obtain ⟨t,ecl,M,hcl2⟩:=yeQ (env:=X.env) scope.names [] fun n hn=>I.ok.has n (.inl (S _ hn rfl).1)
 have hclos:closureFor scope X.env=pure t:=by
  unfold closureFor;have:(forIn scope.names ([]:List (Str×Addr)) (fun (x:Str×NameKind) (r:List (Str×Addr))=>if (x.2 == NameKind.free)=true then do let c <- cellOf X.env x.1;pure (ForInStep.yield ((x.1,c)::r)) else pure (ForInStep.yield r)):Sem (List (Str×Addr)))=pure t:=ecl
  first
   | exact (by simpa using congrArg (· >>= fun r=>pure r) this)
   | (rw [show (pure t:Sem (List (Str×Addr)))=(pure t >>= fun r=>pure r) from rfl,<- this];rfl)
 have A:∀ y c,t.lookup y=some c->X.env.cells.lookup y=some c/\(y,NameKind.free)∈scope.names:=fun y c e=>by
  by_cases G:(y,NameKind.free)∈scope.names
  .exact ⟨by rw [<- M y G];exact e,G⟩
  .rw [hcl2 y G] at e;simp at e
 refine wpAny_comprehension_free rfl hs hclos F hnames ?_;refine thn (hi g s K H _ I h) fun v s1 h1=>thn h1 fun itv s2 h2=>?_
 obtain ⟨it,fp,tn,J,H2,e,I2,T,st2,f2,q2⟩:=h2;subst e;refine wpAny_newObj_type ?_;generalize hs3:({ s2 with heap:=s2.heap.push { cls:=.type "list",dict:=none,data:=.seq ([]:List Value).toArray } }:Shared)=s3;generalize hD:s2.heap.objs.size=D;have hDn:H2 D=none:=by rw [<- hD];exact I2.hok.fresh (Nat.le_refl _)
 have w:Inv X g K (upd H2 D (.lst [])) s3:=by rw [<- hs3,<- hD];exact I2.lnew (t':=s2.toks) (ys:=[]) (its:=[]) .nil (zero_le _)
 have k3:∀ b o,s2.heap.get? b=some o->s3.heap.get? b=some o:=fun b o e=>by rw [<- hs3];exact Heap.get?_push_of_some _ e
 have st3:tn 0 s3.heap:=T.keep _ _ _ st2 fun b _ o e=>k3 b o e
 have fne:∀ b∈fp,b≠D:=fun b q=>by obtain ⟨o,e,_⟩:=T.obj _ _ st2 b q;rw [<- hD];exact ne_of_lt (Heap.lt_size e)
 have Y:∀ b∈fp,ytO X g (upd H2 D (.lst [])) b:=fun b q=>⟨by rw [yO (fne b q)];exact (f2 b q).1,(f2 b q).2⟩
 have q3:=q2 D hDn;generalize upd H2 D (.lst [])=E at w Y q3;obtain ⟨W,⟨m0,w0⟩,turn⟩:=q3;refine wpAny_newFunctionEnv Q (by intro y G;simp at G) (fun h4 hns hsb=>?_) F
 try dsimp only at hns hsb ⊢
 generalize hC:s3.heap.objs.size=C at hns hsb ⊢;have k4:∀ b o,s3.heap.get? b=some o->h4.get? b=some o:=fun b o e=>(hsb.2 b (by rw [<- hC];exact ne_of_lt (Heap.lt_size e))).trans (Heap.get?_push_of_some _ e)
 have Cne:∀ b o,s3.heap.get? b=some o->b≠C:=fun b o e=>by rw [<- hC];exact ne_of_lt (Heap.lt_size e)
 have stk:=w.stkSub;have pinF:∀ p∈X.pn++g,p.1∉frs X.stack:=fun p hp z=>by
  obtain ⟨_,_,n1,n2,_⟩:=w.pin p hp;rcases mem_cons.mp (stk _ z) with z|z
  .exact n1 z
  .exact n2 z
 have okC:(cxC X scope t C (x::B) s3 E fp g).Ok:=by
  refine ⟨w.ok.mod,by show (relabel scope X.env).kind=_;exact F,w.ok.glob,w.ok.blt,le_of_eq hC,fun y z c h1 h2=>w.ok.inj y z c (A y c h1).1 (A z c h2).1,fun y G=>?_,fun y c hf _=>(by cases hf),w.ok.hd,w.ok.frames,.inl rfl,fun b q=>⟨?_,fun y c e z=>?_⟩,w.bs,?_,fun b o e q=>?_,fun b q z=>?_,w.stack,w.stkFree⟩
  .have G:((relabel scope X.env).names.lookup y=some .cell)\/((relabel scope X.env).names.lookup y=some .free):=G;rw [show (relabel scope X.env).names.lookup y=_ from yef y scope.names] at G;cases e:scope.names.lookup y with
   | none=>rw [e] at G;simp at G
   | some k =>
    have hm:(y,k)∈scope.names:=PySem.mem_of_lookup e;have hkf:k=.free:=by rw [e] at G;cases k<;>simp at G ⊢;exact absurd rfl (Q _ hm)
    subst hkf;obtain ⟨c,hc'⟩:=w.ok.has y (.inl (S _ hm rfl).1);exact ⟨c,by show t.lookup y=_;rw [M y hm];exact hc'⟩
  .obtain ⟨o,e,_⟩:=T.obj _ _ st3 b q;exact Cne b o e
  .exact (Y b q).2.2.2.2.1 y c (A y c e).1 z
  .exact Nat.le_trans w.ok.bsz w.sz
  .rcases (Y b q).2.2.2.1 with z|z
   .exact w.ok.noex b o e z
   .exact absurd (lt_of_lt_of_le (Heap.lt_size e) (Nat.le_trans w.ok.bsz z)) (lt_irrefl _)
  .rcases mem_cons.mp (stk _ z) with z|z
   .exact (Y b q).2.1 z
   .exact (Y b q).2.2.1 z
 have inn:∀ v,(inner ix K v)=some v::ix.map fun i=>(K[i]?).getD none:=fun _=>rfl
 have I4:Inv (cxC X scope t C (x::B) s3 E fp g) [] (none::ix.map fun i=>(K[i]?).getD none) E { s3 with heap:=h4,toks:=s3.toks+([]:List (Str×Value)).length }:=by
  refine ⟨okC,rfl,w.bare,Un.kept k4,⟨_,hns,fun j y v e1 L e3=>?_⟩,fun y c e=>?_,w.hok.fresh (le_of_eq hC),fun y c e=>w.freeC y c (A y c e).1,fun p hp=>?_,w.hok.kept k4,?_⟩
  .match j,e1,L with
   | 0,e1,L=>simp at L
   | j+1,e1,L =>
    obtain ⟨i,hi1,hi2,hi3,hi4⟩:=hfr.get (j:=j) (y:=y) (by have e1':(x::B)[j+1]?=some y:=e1;simpa using e1');have e2':K[i]?=some (some v):=by
     have L:(ix.map fun i=>(K[i]?).getD none)[j]?=some (some v):=by simpa using L
     rw [getElem?_map,hi1] at L;simp at L;cases z:K[i]? with
     | none=>rw [z] at L;simp at L
     | some o=>rw [z] at L;simp at L;rw [L]
    obtain ⟨m,_,hl⟩:=w.loc;obtain ⟨u,r,l⟩:=hl i y v hi2 e2' (.inr (.inl hi4));refine ⟨u,r,?_⟩;rcases l with ⟨k,_⟩|⟨k,c,ec,z⟩
    .rw [hi4] at k;cases k
    .have hm:(y,NameKind.free)∈scope.names:=PySem.mem_of_lookup hi3;refine .inr ⟨.inl ?_,c,by show t.lookup y=_;rw [M y hm];exact ec,?_⟩
     .show (relabel scope X.env).names.lookup y=_;rw [show (relabel scope X.env).names.lookup y=_ from yef y scope.names,hi3];simp [hfn,hi4]
     .obtain ⟨o,ho,hd⟩:=z;exact ⟨o,k4 _ _ ho,hd⟩
  .obtain ⟨v,o,ho,hd⟩:=w.cell y c (A y c e).1;exact ⟨v,o,k4 _ _ ho,hd⟩
  .have hp:p∈X.pn++g:=by simpa [cxC] using hp
   obtain ⟨e,n,ne,nf,d⟩:=w.pin p hp;exact ⟨k4 _ _ e,n,Cne _ _ e,pinF p hp,d⟩
  .show (none::ix.map fun i=>(K[i]?).getD none).length=(x::B).length;rw [length_cons,length_cons,length_map,hfr.len]
 have st4:tn 0 h4:=T.keep _ _ _ st3 fun b _ o e=>k4 b o e
 have f4:∀ b∈fp,b≠C/\b∉frs X.stack/\(∀ y c,t.lookup y=some c->c≠b)/\∀ p∈(X.pn++g)++([]:List (Addr×Obj)),p.1≠b:=fun b q=>by
  obtain ⟨o,e,_⟩:=T.obj _ _ st3 b q;refine ⟨Cne b o e,fun z=>?_,fun y c e=>(Y b q).2.2.2.2.1 y c (A y c e).1,fun p hp=>(Y b q).2.2.2.2.2 p (by simpa using hp)⟩;rcases mem_cons.mp (stk _ z) with z|z
  .exact (Y b q).2.1 z
  .exact (Y b q).2.2.1 z
 have P:∀ {Z:Hp},(∀ b∈fp,Z b=none)->∀ b∈fp,ytO (cxC X scope t C (x::B) s3 E fp g) [] Z b:=fun hn b q=>⟨hn b q,(f4 b q).1,(f4 b q).2.1,.inl q,(f4 b q).2.2.1,(f4 b q).2.2.2⟩
 have loop:∀ s5:Shared,s5={ s3 with heap:=h4,toks:=s3.toks+([]:List (Str×Value)).length } ->
   codeAny (model X.prog X.w) X.A (.compLoop (.ListComp elt [⟨.Name x px,iter,cs,0⟩] scope N) 0 (.ref it) (.ref D) (compEnvC scope t C X.env)) (compPost (model X.prog X.w) X.A X.xe use QQ (.ref D) C) s5:=by
  rintro s5 rfl;refine codeAny_loop rfl (fun n s'=>∃ i o Z,Inv (cxC X scope t C (x::B) s3 E fp g) [] (o::ix.map fun i=>(K[i]?).getD none) Z s'/\tn i s'.heap/\(∀ b∈fp,Z b=none)/\W i n Z) ?_ m0 ⟨0,none,E,I4,st4,fun b q=>(Y b q).1,w0⟩;rintro n s6 ⟨i,o,H6,I6,st6,fr6,w6⟩;show wpAny _ _ ((compTurn (.ListComp elt [⟨.Name x px,iter,cs,0⟩] scope N) 0 (.ref it) (.ref D) (compEnvC scope t C X.env)).onRaise (fun x=>do noteFrame x (compEnvC scope t C X.env);theTreesLotGoes x)) _ _ s6;refine wpAny_noted ?_;rw [compTurn_list];rcases turn i n H6 w6 with ⟨stop,qn⟩|⟨go,step⟩
  .refine wpAny_bind (wpAny_standAt (wpAny_bind (thn (T.done (cxC X scope t C (x::B) s3 E fp g) rfl rfl rfl hc i [] s6 _ H6 _ I6 (P fr6) st6 stop) fun r s7 ⟨hr,I7⟩=>?_)));subst hr;exact wpAny_pure (fin0 w Y hC I7 qn)
  .refine wpAny_bind (wpAny_standAt (wpAny_bind (thn (T.item (cxC X scope t C (x::B) s3 E fp g) rfl rfl rfl hc i [] s6 _ H6 _ I6 (P fr6) st6 go) fun r s7 ⟨u,hr,h7⟩=>?_)));subst hr;refine wpAny_bind (thn h7 fun _ s8 ⟨y,H8,I8,r8,y8,U,fr8⟩=>?_);have I8':=I8.pinned (P fr8) (T.obj _ _ U);have hx':Loc (cxC X scope t C (x::B) s3 E fp g).env.scope x:=.inl (lookup_relabel_local hx);refine wpAny_bind (wpAny_mono (ymP (X:=cxC X scope t C (x::B) s3 E fp g) (i:=0) (x:=x) (pos:=px) hnd rfl hx' (.inr (lookup_relabel_local hx)) _ s8 _ H8 y u (fun K9 H9=>K9=inner ix K y/\H9=H8) I8' r8 ⟨rfl,rfl⟩) (fun _ s9 ⟨K9,H9,I9,e9,e9'⟩=>?_) fun _ _ f=>f.elim);subst e9 e9';refine wpAny_bind (wpAny_mono (hq t C s3 E fp g _ s9 _ _ _ I9 (step y _ y8)) (fun kb s9b hkb=>?_) fun _ _ f=>f.elim);obtain ⟨H9b,I9b,q9b⟩:=hkb;cases kb with
   | false =>
    rw [if_neg (by decide)] at q9b;obtain ⟨m',hm',w10⟩:=q9b;refine wpAny_pure ⟨rfl,m',hm',i+1,some y,_,I9b.unpinned,T.keep _ _ _ U fun b q o e=>(I9b.pin (b,o) (mem_append_right _ (mem_append_right _ (ycZ q e)))).1,fun b q=>?_,w10⟩;obtain ⟨o,e,d⟩:=T.obj _ _ U b q;exact (I9b.pin (b,o) (mem_append_right _ (mem_append_right _ (ycZ q e)))).2.1
   | true =>
   rw [if_pos rfl] at q9b;refine wpAny_bind (wpAny_bind (wpAny_mono (he t C s3 E fp g _ s9b _ _ _ I9b q9b) (fun v s10 ⟨z,H10,I10,r10,acc,a10,l10,m',hm',w10⟩=>?_) fun _ _ f=>f.elim));refine wpAny_bind (wpAny_mono (yeP (X:=cxC X scope t C (x::B) s3 E fp g) _ s10 _ H10 (.ref D) [z] (.ref D) [v] (fun _ H11=>H11=upd H10 D (.lst (acc++[z]))) I10 rfl (.cons r10 .nil) ⟨D,acc,z,rfl,rfl,a10,l10,rfl⟩) (fun _ s11 ⟨_,H11,I11,_,e11⟩=>?_) fun _ _ f=>f.elim);subst e11;refine wpAny_pure (wpAny_pure ⟨rfl,m',hm',i+1,some y,_,I11.unpinned,T.keep _ _ _ U fun b q o e=>(I11.pin (b,o) (mem_append_right _ (mem_append_right _ (ycZ q e)))).1,fun b q=>?_,w10⟩);obtain ⟨o,e,d⟩:=T.obj _ _ U b q;exact (I11.pin (b,o) (mem_append_right _ (mem_append_right _ (ycZ q e)))).2.1
 exact codeAny_compStart_list (loop _ rfl) (T.self X.A 0 _ _ _ st4 (loop _ rfl))
theorem yko {X:Cx}{elt iter:Expr}{cs:List Expr}{tc:TT}{x:Str}{G:Pos}{scope:Scope}{w:Pos}{J:TI}{te:TE} ix t (L:X.calm=true) (hi:PI X (.Name x G) iter J) (F:FrOk X scope ix t)
  (M:∀ z C f g fp d,PE (cxC X scope z C (x::t) f g fp d) elt te)
  (W:∀ z C f g fp d,PTs (cxC X scope z C (x::t) f g fp d) cs tc)
  (E:(x::t).Nodup) (l:scope.kind=.function) (p:∀ y∈scope.names,y.2≠.cell)
  (j:∀ y∈scope.names,y.2=.local->scope.names.lookup y.1=some .local) (i:∀ y∈scope.names,y.2=.free->y.1∈t) (O:scope.names.lookup x=some .local)
  (hs:∀ v,foldedSetIterable iter X.env v=pure v):PE X (.ListComp elt [⟨.Name x G,iter,cs,0⟩] scope w) (yjx J ix tc te):=by
 intro d s K H Q I h;refine ylZ ix t L hi F M W E l p j i O hs I h fun {z C s3 H3 fp} T A Y {D Z B s'} u P=>?_
 have k:∀ b o,s3.heap.get? b=some o->b≠C:=fun b o e=>by rw [<- Y];exact ne_of_lt (Heap.lt_size e)
 obtain ⟨m,hn,_⟩:=u.loc;refine ⟨m,hn,fun h' R=>⟨.ref D,B,?_,rfl,P⟩⟩;have S:B C=none:=u.free;have same:=fun b r=>R.2 b r
 have U:=u.base;have N:Un (frs X.stack) fp H3 B s3.heap h':=by
  refine ⟨fun b o e n h1 h2=>?_,fun b o e n h1 h2=>?_,U.free,fun b o e h2=>?_,U.tups,U.frzs,U.tbls⟩
  .rw [same b (k b o e)];exact U.keep b o e n h1 h2
  .rw [same b (k b o e)];exact U.slot b o e n h1 h2
  .rw [same b (k b o e)];exact U.there b o e h2
 refine T.call' (by exact u.os) N ?_ u.bare fun b r=>⟨(A b r).2.2.2.1,(A b r).2.1,(A b r).2.2.2.2.1,(A b r).2.2.2.2.2⟩
 intro b ob e;refine (u.hok b ob e).stay (fun c w' L q=>?_) (fun _ q=>q) fun _ _ q=>q
 grind
theorem yvm {y:Str}{W n:Pos}{iy:Nat}{X:Cx}{elt iter:Expr}{cs:List Expr}{tc:TT}{x:Str}{M:Pos}{scope:Scope}{l:Pos}{Y:TI}{te:TE} ix t (hc:X.calm=true) (hi:PI X (.Name x M) iter Y) (N:FrOk X scope ix t)
  (he:∀ A C g d fp c,PE (cxC X scope A C (x::t) g d fp c) elt te)
  (E:∀ A C g d fp c,PTs (cxC X scope A C (x::t) g d fp c) cs tc)
  (F:(x::t).Nodup) (q:scope.kind=.function) (p:∀ y∈scope.names,y.2≠.cell)
  (k:∀ y∈scope.names,y.2=.local->scope.names.lookup y.1=some .local) (j:∀ y∈scope.names,y.2=.free->y.1∈t) (hx:scope.names.lookup x=some .local)
  (hs:∀ v,foldedSetIterable iter X.env v=pure v)
  (hN:X.N.Nodup) (O:X.N[iy]?=some y) (B:Loc X.env.scope y) (L:X.fn y=true\/X.env.scope.names.lookup y=some .local) (P:swapsWith (.ListComp elt [⟨.Name x M,iter,cs,0⟩] scope l) (some (.Name y W)) n.line X.env=pure true) :
  PS X (.Assign [.Name y W] (.ListComp elt [⟨.Name x M,iter,cs,0⟩] scope l) n) (ywp (yjx Y ix tc te) (yqs iy)):=by
 intro c s f H D0 I h;rw [exec_Assign_Name_used _ _ _ _ P];refine wpAny_bind (wpAny_standAt (wpAny_bind ?_));refine wpAny_bind (wpAny_mono (ylZ ix t hc hi N he E F q p k j hx hs I h fun {A C s3 H3 fp} T w hC {D f' R s'} r q'=>?_) (fun _ s' E=>wpAny_pure (wpAny_pure E)) fun _ _ e=>e);obtain ⟨m,hn,_⟩:=r.loc;have S:R C=none:=r.free;have U:=r.base;have U':Un (frs X.stack) fp H3 R s3.heap s'.heap:=⟨U.keep,U.slot,U.free,U.there,U.tups,U.frzs,U.tbls⟩
 have IX:=T.call' (by exact r.os) U' r.hok r.bare fun b hb=>⟨(w b hb).2.2.2.1,(w b hb).2.1,(w b hb).2.2.2.2.1,(w b hb).2.2.2.2.2⟩
 have hCf:=T.fpOk (le_of_eq hC) S;obtain ⟨o,es,ep,eo,r1,r2,r3⟩:=hn;have IP:=IX.pinned (fp:=[C]) (fun b hb=>by have e:=(by simpa using hb);subst e;exact hCf) (fun b hb=>by have e:=(by simpa using hb);subst e;exact ⟨o,eo,fun v z=>by simp_all⟩);refine thn (ymP hN O B L _ s' f R (.ref D) _ D0.nx IP rfl q') fun _ s2 ⟨Q,J,u,G⟩=>?_
 have Z:=u.pin (C,o) (mem_append_right _ (mem_append_right _ (ycZ (by simp) eo)));exact ⟨m,⟨o,es,ep,Z.1,r1,r2,r3⟩,fun h' sb=>⟨Q,J,u.unpinned.turned (fun b ob hb e=>(sb.2 b hb).trans e) Z.2.1 hCf.2.1 hCf.2.2.2.1 hCf.2.2.2.2.1 hCf.2.2.2.2.2,G⟩⟩
end L2
namespace PX
open PySem L2 PySem.Spec PyProof.Rows
section
variable (K:Ck)
noncomputable def cE (x:XE):TE:=fun Z H Q=>∃ (W0 W:Wd) (ρ:PSt) (y:PV) (h':AH),W.H=H/\Good K W0 W ρ Z/\x ρ W.h=some (y,h')/\∀ v W',W'.h=h'->Le K W W'->ycN K W' y v->Q v W'.H
noncomputable def cO (x:XO):TE:=fun Z H Q=>∃ (W0 W:Wd) (ρ:PSt) (d:Nd) (h':AH),W.H=H/\Good K W0 W ρ Z/\x ρ W.h=some (d,h')/\∀ p W',W'.h=h'->Le K W W'->p∉W'.m->W.H p=none->d≠.dead->NdAt K W'.F W'.H W'.m d p->Q (.ref p) W'.H
noncomputable def cT (x:XT):TT:=fun Z H Q=>∃ (W0 W:Wd) (ρ:PSt) (y:Bool) (h':AH),W.H=H/\Good K W0 W ρ Z/\x ρ W.h=some (y,h')/\∀ W',W'.h=h'->Le K W W'->Q y W'.H
noncomputable def cA (x:XA):TA:=fun Z H Q=>∃ (W0 W:Wd) (ρ:PSt) (y:List PV) (h':AH),W.H=H/\Good K W0 W ρ Z/\x ρ W.h=some (y,h')/\∀ v W',W'.h=h'->Le K W W'->ycI K W' y v->Q v W'.H
noncomputable def cP (x:PSt->AH->Option (Option Int×AH)):TO:=fun Z H Q=>∃ (W0 W:Wd) (ρ:PSt) (y:Option Int) (h':AH),W.H=H/\Good K W0 W ρ Z/\x ρ W.h=some (y,h')/\∀ W',W'.h=h'->Le K W W'->Q y W'.H
noncomputable def cI (x:XA):TI:=fun Z H R=>∃ (W0 W:Wd) (ρ:PSt) (y:List PV) (h':AH),W.H=H/\Good K W0 W ρ Z/\x ρ W.h=some (y,h')/\∀ J W',W'.h=h'->Le K W W'->yDQ K W' J y->R J W'.H
noncomputable def cG (y:XG):TG:=fun v Z H Q=>∃ (W0 W:Wd) (ρ ρ':PSt) (x:PV),W.H=H/\Good K W0 W ρ Z/\ycN K W x v/\y x ρ=some ρ'/\∀ Z',Good K W0 W ρ' Z'->Q Z' W.H
noncomputable def cGs (y:XGs):TGs:=fun v Z H Q=>∃ (W0 W:Wd) (ρ ρ':PSt) (x:List PV),W.H=H/\Good K W0 W ρ Z/\ycI K W x v/\y x ρ=some ρ'/\∀ Z',Good K W0 W ρ' Z'->Q Z' W.H
noncomputable def cS (s:XS):TS:=fun D Z H=>∃ (W0 W:Wd) (ρ:PSt) (o:Out) (h':AH),W.H=H/\Good K W0 W ρ Z/\s ρ W.h=some (o,h')/\Ends.Ok K W0 W D h' o
noncomputable def cF (s:XS):TS:=fun D Z H=>∃ (W0 W:Wd) (ρ ρ':PSt) (h':AH),W.H=H/\Good K W0 W ρ Z/\s ρ W.h=some (.nx ρ',h')/\∀ W',W'.h=h'->Lf K W W'->Good K W0 W' ρ' Z->D.nx Z W'.H
end
section
variable {K:Ck}
theorem sE {x:XE}:ybX K (cE K x) x:=fun b W ρ Z Q y h' g e q=>⟨b,W,ρ,y,h',rfl,g,e,q⟩
theorem sO {x:XO}:ymH K (cO K x) x:=fun b W ρ Z Q y h' g e q=>⟨b,W,ρ,y,h',rfl,g,e,q⟩
theorem sT {x:XT}:ymF K (cT K x) x:=fun b W ρ Z Q y h' g e q=>⟨b,W,ρ,y,h',rfl,g,e,q⟩
theorem sA {x:XA}:ymG K (cA K x) x:=fun b W ρ Z Q y h' g e q=>⟨b,W,ρ,y,h',rfl,g,e,q⟩
theorem sP {x}:yzX K (cP K x) x:=fun b W ρ Z Q y h' g e q=>⟨b,W,ρ,y,h',rfl,g,e,q⟩
theorem sI {x:XA}:yyl K (cI K x) x:=fun b W ρ Z Q y h' g e q=>⟨b,W,ρ,y,h',rfl,g,e,q⟩
theorem sG {y:XG}:ytB K (cG K y) y:=fun b W ρ ρ' Z x v Q g r e q=>⟨b,W,ρ,ρ',x,rfl,g,r,e,q⟩
theorem sGs {y:XGs}:ypG K (cGs K y) y:=fun b W ρ ρ' Z x v Q g r e q=>⟨b,W,ρ,ρ',x,rfl,g,r,e,q⟩
theorem sS {s:XS}:yfr K (cS K s) s:=fun b W ρ Z D o h' g e q=>⟨b,W,ρ,o,h',rfl,g,e,q⟩
theorem sF {s:XS}:ytE K (cF K s) s:=fun b W ρ ρ' Z D h' g e q=>⟨b,W,ρ,ρ',h',rfl,g,e,q⟩
end
noncomputable abbrev ckX (X:Cx) (A:Nat->Addr):Ck:=⟨X.K,A⟩
structure ZE (X:Cx) (A:Nat->Addr) (e:Expr) (x:XE):Prop where of:PE X e (cE (ckX X A) x)
structure ZO (X:Cx) (A:Nat->Addr) (e:Expr) (x:XO):Prop where of:PE X e (cO (ckX X A) x)
structure ZT (X:Cx) (A:Nat->Addr) (e:Expr) (x:XT):Prop where of:PT X e (cT (ckX X A) x)
structure ZW (X:Cx) (A:Nat->Addr) (e:Expr) (x:XT):Prop where of:PW X e (cT (ckX X A) x)
structure ZA (X:Cx) (A:Nat->Addr) (e:List Expr) (n:Nat) (x:XA):Prop where
 of:PA X e (cA (ckX X A) x)
 len:∀ ρ h xs h',x ρ h=some (xs,h')->xs.length=n
structure ZP (X:Cx) (A:Nat->Addr) (e:Option Expr) (x:PSt->AH->Option (Option Int×AH)):Prop where of:PO X e (cP (ckX X A) x)
structure ZI (X:Cx) (A:Nat->Addr) (tg e:Expr) (x:XA):Prop where of:PI X tg e (cI (ckX X A) x)
structure ZG (X:Cx) (A:Nat->Addr) (e:Expr) (y:XG):Prop where of:PG X e (cG (ckX X A) y)
structure ZGs (X:Cx) (A:Nat->Addr) (e:List Expr) (y:XGs):Prop where of:PGs X e (cGs (ckX X A) y)
structure ZS (X:Cx) (A:Nat->Addr) (e:Stmt) (s:XS):Prop where of:PS X e (cS (ckX X A) s)
structure ZSs (X:Cx) (A:Nat->Addr) (e:List Stmt) (s:XS):Prop where of:PSs X e (cS (ckX X A) s)
structure ZF (X:Cx) (A:Nat->Addr) (e:Stmt) (s:XS):Prop where of:PS X e (cF (ckX X A) s)
structure ZFs (X:Cx) (A:Nat->Addr) (e:List Stmt) (s:XS):Prop where of:PSs X e (cF (ckX X A) s)
section
variable {X:Cx}{A:Nat->Addr}{e:Expr}{es:List Expr}
theorem wE {t:TE}{x:XE}(p:PE X e t) (s:ybX (ckX X A) t x):ZE X A e x:=⟨fun b st Z H Q I ⟨d,W,ρ,y,h',f,g,c,q⟩=>by subst f;exact p b st Z _ Q I (s d W ρ Z Q y h' g c q)⟩
theorem wO {t:TE}{x:XO}(p:PE X e t) (s:ymH (ckX X A) t x):ZO X A e x:=⟨fun b st Z H Q I ⟨d,W,ρ,y,h',f,g,c,q⟩=>by subst f;exact p b st Z _ Q I (s d W ρ Z Q y h' g c q)⟩
theorem wT {t:TT}{x:XT}(p:PT X e t) (s:ymF (ckX X A) t x):ZT X A e x:=⟨fun b st Z H Q I ⟨d,W,ρ,y,h',f,g,c,q⟩=>by subst f;exact p b st Z _ Q I (s d W ρ Z Q y h' g c q)⟩
theorem wW {t:TT}{x:XT}(p:PW X e t) (s:ymF (ckX X A) t x):ZW X A e x:=⟨fun wh b st Z H Q I ⟨d,W,ρ,y,h',f,g,c,q⟩=>by subst f;exact p wh b st Z _ Q I (s d W ρ Z Q y h' g c q)⟩
theorem wA {t:TA}{x:XA}{n:Nat}(p:PA X es t) (s:ymG (ckX X A) t x) (l:∀ ρ h xs h',x ρ h=some (xs,h')->xs.length=n):ZA X A es n x:=⟨fun pos b st Z H Q I ⟨d,W,ρ,y,h',f,g,c,q⟩=>by subst f;exact p pos b st Z _ Q I (s d W ρ Z Q y h' g c q),l⟩
theorem wP {o:Option Expr}{t:TO}{x} (p:PO X o t) (s:yzX (ckX X A) t x):ZP X A o x:=⟨fun b st Z H Q I ⟨d,W,ρ,y,h',f,g,c,q⟩=>by subst f;exact p b st Z _ Q I (s d W ρ Z Q y h' g c q)⟩
theorem wI {c:Expr}{t:TI}{x:XA}(p:PI X c e t) (s:yyl (ckX X A) t x):ZI X A c e x:=⟨fun b st Z H Q I ⟨f,W,ρ,y,h',h,g,d,q⟩=>by subst h;exact p b st Z _ Q I (s f W ρ Z Q y h' g d q)⟩
theorem wG {t:TG}{y:XG}(p:PG X e t) (s:ytB (ckX X A) t y):ZG X A e y:=⟨fun b st Z H v u Q I h ⟨d,W,ρ,ρ',x,f,g,r,c,q⟩=>by subst f;exact p b st Z _ v u Q I h (s d W ρ ρ' Z x v Q g r c q)⟩
theorem wGs {t:TGs}{y:XGs}(p:PGs X es t) (s:ypG (ckX X A) t y):ZGs X A es y:=⟨fun b st Z H v u Q I h ⟨d,W,ρ,ρ',x,f,g,r,c,q⟩=>by subst f;exact p b st Z _ v u Q I h (s d W ρ ρ' Z x v Q g r c q)⟩
theorem wS {st:Stmt}{t:TS}{x:XS}(p:PS X st t) (s:yfr (ckX X A) t x):ZS X A st x:=⟨fun b st Z H D I ⟨d,W,ρ,o,h',f,g,c,q⟩=>by subst f;exact p b st Z _ D I (s d W ρ Z D o h' g c q)⟩
theorem wSs {st:List Stmt}{t:TS}{x:XS}(p:PSs X st t) (s:yfr (ckX X A) t x):ZSs X A st x:=⟨fun b st Z H D I ⟨d,W,ρ,o,h',f,g,c,q⟩=>by subst f;exact p b st Z _ D I (s d W ρ Z D o h' g c q)⟩
theorem wF {st:Stmt}{t:TS}{x:XS}(p:PS X st t) (s:ytE (ckX X A) t x):ZF X A st x:=⟨fun b st Z H D I ⟨d,W,ρ,ρ',h',f,g,c,q⟩=>by subst f;exact p b st Z _ D I (s d W ρ ρ' Z D h' g c q)⟩
theorem wFs {st:List Stmt}{t:TS}{x:XS}(p:PSs X st t) (s:ytE (ckX X A) t x):ZFs X A st x:=⟨fun b st Z H D I ⟨d,W,ρ,ρ',h',f,g,c,q⟩=>by subst f;exact p b st Z _ D I (s d W ρ ρ' Z D h' g c q)⟩
end
structure Nm (x:Str):Prop where
 d:(x == ("__debug__":Str))=false
 c:(x == ("__classdict__":Str))=false
 n:x≠"__name__"
section
variable {X:Cx}{A:Nat->Addr}{a b c o:Expr}{es:List Expr}{xa xb xc:XE}{xo:XO}{aa:XA}{pos p apos:Pos}{x:Str}{n k:Nat}
theorem yiV {j}:ZE X A (.Constant .none j pos) (xC .non):=wE yAj yxT
theorem yjz {b j}:ZE X A (.Constant (.bool b) j pos) (xC (.bl b)):=wE yDm yAO
theorem yg {i j}:ZE X A (.Constant (.int i) j pos) (xC (.int i)):=wE yAi yqW
theorem yx {x j}:ZE X A (.Constant (.str x) j pos) (xC (.str x)):=wE yAk yqX
theorem z_v {i:Nat}(m:Nm x:=by exact ⟨by rfl',by rfl',by rfl'⟩) (e:X.N[i]?=some x:=by rfl) (d:Vis X.env.scope x:=by first|exact Or.inl rfl|exact Or.inr (Or.inl rfl)):ZE X A (.Name x pos) (ye i):=wE (yjj e d m.d m.c) (yxS i)
theorem yfu {n:Int}{t:Tok}(f:X.mg x=some (.int n t)) (m:Nm x:=by exact ⟨by rfl',by rfl',by rfl'⟩) (e:Gl X x:=by rfl):ZE X A (.Name x pos) (xC (.int n)):=wE (yxP e f m.d) yqW
theorem yma {n:Str}{t:Tok}(f:X.mg x=some (.str n t)) (m:Nm x:=by exact ⟨by rfl',by rfl',by rfl'⟩) (e:Gl X x:=by rfl):ZE X A (.Name x pos) (xC (.str n)):=wE (yxQ e f m.d) yqX
theorem yeG {k:Nat}(f:X.mg x=some (.ref (A k))) (m:Nm x:=by exact ⟨by rfl',by rfl',by rfl'⟩) (e:Gl X x:=by rfl):ZE X A (.Name x pos) (xC (.cls k)):=wE (ync e f m.d) (yxU)
theorem yhq {n:String}(g:X.mg x=none) (m:Nm x:=by exact ⟨by rfl',by rfl',by rfl'⟩) (e:Gl X x:=by rfl) (f:bootBuiltins x=some (.type n):=by rfl'):ZE X A (.Name x pos) (xC (.ty n)):=wE (yAN e g f m.n m.d) yAP
theorem yck (h:ZO X A a xo):ZE X A a (xFz xo):=wE h.of (ywB sO)
theorem yev (h:ZO X A a xo):ZE X A a (yiQ xo):=wE h.of (yyb sO)
theorem yY {op:Operator}{r:R2}{q:P2}(g:OpR X (binaryOp op) r) (h:yco (ckX X A) r q) (e:ZE X A a xa) (f:ZE X A b xb):ZE X A (.BinOp a op b pos) (xOp q xa xb):=wE (yAC g e.of f.of) (yoq h sE sE)
theorem yiW {op:Operator}{r:R2}{q:P2O}(g:OpR X (binaryOp op) r) (h:yop (ckX X A) r q) (e:ZE X A a xa) (f:ZE X A b xb):ZO X A (.BinOp a op b pos) (ynm q xa xb):=wO (yAC g e.of f.of) (yxV h sE sE)
theorem yBI {op:UnaryOp}{r} {q} (e:UnR X (unaryOp op) r) (g:yxR (ckX X A) r q) (f:ZE X A a xa):ZE X A (.UnaryOp op a pos) (xUn q xa):=wE (yDt e f.of) (yAQ g sE)
theorem yBJ (e:ZE X A a xa):ZE X A (.UnaryOp .Not a pos) (yuh xa):=wE (yAu e.of) (yuk sE)
theorem yeK {op:CmpOp}{r:R2}{q:P2}(h:OpR X (compareOp op) r) (i:yco (ckX X A) r q) (e:ZE X A a xa) (g:ZE X A b xb) (f:behindInMarks op b=false:=by first|exact yli _|with_unfolding_all rfl):ZE X A (.Compare a [op] [b] pos) (xOp q xa xb):=wE (yxz h e.of g.of f) (yoq i sE sE)
theorem ynE {op e:CmpOp}{r i:R2}{q h:P2}(s:OpR X (compareOp op) r) (f:OpR X (compareOp e) i) (u:yco (ckX X A) r q) (g:yco (ckX X A) i h) (m:ZE X A a xa) (l:ZE X A b xb) (t:ZE X A c xc) (j:lastMarks [op,e] [b,c]=false:=by first|exact yli _|with_unfolding_all rfl):ZE X A (.Compare a [op,e] [b,c] pos) (yei q h xa xb xc):=wE (ytR s f m.of l.of t.of j) (ylO u g sE sE sE)
theorem ykp {op} (h:ZE X A a xa):ZE X A (.BoolOp op [a] pos) xa:=⟨yAs h.of⟩
theorem yif (f:ZE X A a xa) (e:ZE X A (.BoolOp .And (b::es) pos) xb):ZE X A (.BoolOp .And (a::b::es) pos) (yfW xa xb):=wE (yAt f.of e.of) (yuj sE sE)
section
variable {ca cb:XT}
theorem yrU (g:ZT X A c ca) (f:ZE X A a xa) (e:ZE X A b xb):ZE X A (.IfExp c a b pos) (xIf ca xa xb):=wE (ytK g.of f.of e.of) (yAT sT sE sE)
theorem yu {op:CmpOp}{r:R2}{q:P2}(h:OpR X (compareOp op) r) (i:yco (ckX X A) r q) (e:ZE X A a xa) (g:ZE X A b xb) (f:behindInMarks op b=false:=by first|exact yli _|with_unfolding_all rfl):ZT X A (.Compare a [op] [b] pos) (yn (xOp q xa xb)):=wT (yxB h e.of g.of f) (yhD (yoq i sE sE))
theorem yfj {op e:CmpOp}{r i:R2}{q h:P2}(s:OpR X (compareOp op) r) (f:OpR X (compareOp e) i) (u:yco (ckX X A) r q) (g:yco (ckX X A) i h) (m:ZE X A a xa) (l:ZE X A b xb) (t:ZE X A c xc) (j:lastMarks [op,e] [b,c]=false:=by first|exact yli _|with_unfolding_all rfl):ZT X A (.Compare a [op,e] [b,c] pos) (yn (yei q h xa xb xc)):=wT (ytS s f m.of l.of t.of j) (yhD (ylO u g sE sE sE))
theorem ybS (e:ZT X A a ca):ZT X A (.UnaryOp .Not a pos) (yfE ca):=wT (yAp e.of) (yxX sT)
theorem ybj (h:ZE X A a xa) (f:∀ e,isTrue a X.env e=(do let v <- e;standAt a.pos;holding [v] (truthy v)):=by exact fun _=>rfl):ZT X A a (yn xa):=wT (yAm h.of f) (yAR sE)
theorem ykq (h:ZW X A a ca):ZT X A a ca:=⟨PW.pt h.of⟩
theorem ymb (f:ZT X A a ca) (e:ZW X A (.BoolOp .And (b::es) pos) cb):ZW X A (.BoolOp .And (a::b::es) pos) (yui ca cb):=wW (yAo f.of e.of) (yxW sT sT)
theorem ydO (f:ZT X A a ca) (e:ZW X A (.BoolOp .Or (b::es) pos) cb):ZW X A (.BoolOp .Or (a::b::es) pos) (xOr ca cb):=wW (yDo f.of e.of) (yAS sT sT)
theorem yig (e:ZT X A a ca):ZW X A (.BoolOp .And [a] pos) ca:=⟨yxv e.of⟩
theorem ydS (e:ZT X A a ca):ZW X A (.BoolOp .Or [a] pos) ca:=⟨yAn e.of⟩
end
theorem yf:ZA X A [] 0 yi:=wA yjn yjY yno
theorem ya (f:ZE X A a xa) (e:ZA X A es n aa) (hs:starEach (a::es) X.env=(false,eval a X.env)::starEach es X.env:=by rfl):ZA X A (a::es) (n+1) (yc xa aa):=wA (yfC f.of e.of hs) (yul sE sA) (yuo e.len)
theorem ycp (h:ZA X A es n aa):ZO X A (.List es pos) (yeg aa):=wO (yAF h.of) (yya sA)
theorem ydv {q} (h:ZA X A es n aa):ZE X A (.Tuple es q pos) (ygz aa):=wE (yAE h.of) (yxZ sA)
theorem yEE:ZP X A none yhR:=wP yxI ypF
theorem yih (h:ZE X A a xa):ZP X A (some a) (ygC xa):=wP (yxJ h.of) (yup sE)
section
variable {lo hi:Option Expr}{xl xh:PSt->AH->Option (Option Int×AH)}{p2:Pos}
theorem yBK {r} {q} (g:SlR X r) (d:yor (ckX X A) r q) (e:ZE X A a xa) (hl:ZP X A lo xl) (f:ZP X A hi xh):ZO X A (.Subscript a (.Slice lo hi none p2) pos) (ytz q xa xl xh):=wO (yua g e.of hl.of f.of) (yra d sE sP sP)
end
theorem ybe {r:R2}{q:P2}(g:IxR X r) (h:yco (ckX X A) r q) (e:ZE X A a xa) (f:ZE X A b xb) (hs:yqL b:=by exact fun _ _=>rfl):ZE X A (.Subscript a b pos) (xOp q xa xb):=wE (yDy g e.of f.of hs) (yoq h sE sE)
theorem yC {cs:List Nat}{f:Str}(h:∀ k∈cs,Cls X.K (A k)/\NoAttr X.K (A k) f) (e:ZE X A a xa) (g:attributeBase a f X.env (eval a X.env)=eval a X.env:=by rfl):ZE X A (.Attribute a f pos) (ybd cs f xa):=wE (yAD e.of g) (yyr h sE)
section
variable {f C:Addr}{fd:FuncData}{ps:List Str}{lv:Nat}{fn:Fn}
theorem yQ (F:FnOk X.prog X.w X.K X.mg X.base CX0 lv f fd ps (spE (ckX X A) (n+1) fn)) (j:X.mg x=some (.ref f)) (i:keepIn X.K (.ref f)=true) (l:Binds X.K fd ps []) (e:ZA X A (a::es) (n+1) aa) (hr:Room lv X.A:=by exact hr.mono (by omega)) (m:Nm x:=by exact ⟨by rfl',by rfl',by rfl'⟩) (g:Gl X x:=by rfl) (h:starEach (a::es) X.env=(false,eval a X.env)::starEach es X.env:=by rfl) (d:(backTo pos (starEach es X.env)).any (·.1)=false:=by rfl):ZE X A (.Call (.Name x p) (a::es) [] pos) (yT fn aa) :=
 wE (yxG F hr g j i l .nil ylu e.of m.d h d) (yun sA e.len)
theorem yfv {k:Nat}{g} (M:Mk X.K (A k) f) (F:FnOk X.prog X.w X.K X.mg X.base CX0 lv f fd ps (spI (ckX X A) (n+1) k g)) (h:X.mg x=some (.ref (A k))) (j:Binds X.K fd ps []) (e:ZA X A (a::es) (n+1) aa) (hr:Room (lv+1) X.A:=by exact hr.mono (by omega)) (m:Nm x:=by exact ⟨by rfl',by rfl',by rfl'⟩) (l:Gl X x:=by rfl) (i:starEach (a::es) X.env=(false,eval a X.env)::starEach es X.env:=by rfl) (d:(backTo pos (starEach es X.env)).any (·.1)=false:=by rfl):ZO X A (.Call (.Name x p) (a::es) [] pos) (yfG g aa) :=
 wO (yqH M F hr l h j .nil ylu e.of m.d i d) (yox sA e.len)
theorem yyQ {k:Nat}(j:makesIn X.K (A k)=true) (i:findIn X.K (.ref (A k)) "__init__" = some (some (.builtin "object.__init__"))) (g:keepIn X.K (.ref (A k))=true) (e:X.mg x=some (.ref (A k))) (m:Nm x:=by exact ⟨by rfl',by rfl',by rfl'⟩) (h:Gl X x:=by rfl):ZO X A (.Call (.Name x p) [] [] pos) (yrq k) :=
 wO (yud j i g h e m.d) (yrr)
theorem yrV {m:Str}{d:Nat->Fn}{pl:Sem Bool}(h:ZE X A o xa) (G:ynb X.prog X.w X.K X.mg X.base lv A m fun k=>spE (ckX X A) 1 (d k)) (hr:Room lv X.A:=by exact hr.mono (by omega)) (g:eval (.Call (.Attribute o m apos) [] [] pos) X.env=(do
   let e <- eval o X.env
   standAt apos.atName
   let (f,first) <- holding [e] (getMethod e m pl)
   callWith pos f first (backTo pos (starEach [] X.env)) (backToKw pos (keywordEach [] X.env))):=by rfl):ZE X A (.Call (.Attribute o m apos) [] [] pos) (ynw m d xa) :=
 wE (yqU h.of G hr g) (yuM sE)
end
theorem ycW {id:String}{r} {q} (j:yfA X (.builtin id) r) (s:yhS (ckX X A) r q) (i:X.mg x=none) (h:ZA X A (a::es) n aa) (m:Nm x:=by exact ⟨by rfl',by rfl',by rfl'⟩) (l:Gl X x:=by rfl) (f:bootBuiltins x=some (.builtin id):=by rfl') (g:starEach (a::es) X.env=(false,eval a X.env)::starEach es X.env:=by rfl) (e:(backTo pos (starEach es X.env)).any (·.1)=false:=by rfl):ZE X A (.Call (.Name x p) (a::es) [] pos) (xCB q aa) :=
 wE (yjO j l i f h.of m.n m.d g e) (ywC s sA)
theorem yrW {T:String}{r} {q} (j:yfA X (.type T) r) (s:yhS (ckX X A) r q) (i:X.mg x=none) (h:ZA X A (a::es) n aa) (m:Nm x:=by exact ⟨by rfl',by rfl',by rfl'⟩) (l:Gl X x:=by rfl) (f:bootBuiltins x=some (.type T):=by rfl') (g:starEach (a::es) X.env=(false,eval a X.env)::starEach es X.env:=by rfl) (e:(backTo pos (starEach es X.env)).any (·.1)=false:=by rfl):ZE X A (.Call (.Name x p) (a::es) [] pos) (xCB q aa) :=
 wE (ylo j l i f h.of m.n m.d g e) (ywC s sA)
theorem ycr {T:String}{r} {q} (j:yfA X (.type T) r) (s:yqV (ckX X A) r q) (i:X.mg x=none) (h:ZA X A (a::es) n aa) (m:Nm x:=by exact ⟨by rfl',by rfl',by rfl'⟩) (l:Gl X x:=by rfl) (f:bootBuiltins x=some (.type T):=by rfl') (g:starEach (a::es) X.env=(false,eval a X.env)::starEach es X.env:=by rfl) (e:(backTo pos (starEach es X.env)).any (·.1)=false:=by rfl):ZO X A (.Call (.Name x p) (a::es) [] pos) (ygA q aa) :=
 wO (ylo j l i f h.of m.n m.d g e) (yyc s sA)
section
variable {name:Str}{cpos:Pos}{T id:String}{r:V->List V->Hp->VK->Prop}{cc:PV->AH->Bool}{q:PM}
theorem yyR (l:PlainAttrs T) (h:Slot T name id) (j:typeOf (.builtin id)=pure (.type "method_descriptor")) (s:MtR X id r) (m:yiT (ckX X A) T cc r q) (u:ZE X A o xa) (t:ZA X A (a::es) n aa) (g:attributeBase o name X.env (eval o X.env)=eval o X.env:=by rfl) (i:((backTo cpos (starEach (a::es) X.env)).all (fun x=>!x.1) && (backToKw cpos (keywordEach [] X.env)).all (fun x=>x.1.isSome)
   && decide ((a::es).length+([]:List Keyword).length+(if ([]:List Keyword).isEmpty then 0 else 1)<30))=true:=by rfl) (f:(apos.endLine == cpos.line)=true:=by rfl) (hs:starEach (a::es) X.env=(false,eval a X.env)::starEach es X.env:=by rfl) (e:(backTo cpos (starEach es X.env)).any (·.1)=false:=by rfl) :
  ZE X A (.Call (.Attribute o name apos) (a::es) [] cpos) (xBM cc q xa aa):=wE (yxK l h j s u.of t.of g i f hs e) (ywD m sE sA)
theorem yvn (l:PlainAttrs T) (g:Slot T name id) (h:typeOf (.builtin id)=pure (.type "method_descriptor")) (i:MtR X id r) (m:yiT (ckX X A) T cc r q) (j:ZE X A o xa) (f:attributeBase o name X.env (eval o X.env)=eval o X.env:=by rfl) (e:(apos.endLine == cpos.line)=true:=by rfl) :
  ZE X A (.Call (.Attribute o name apos) [] [] cpos) (xBM cc q xa yi):=wE (ywy l g h i j.of f e) (yyd m sE)
theorem yoQ {i:Nat}(j:ZE X A a xa) (l:PE X o (yqh i):=by exact yjj rfl (by first|exact Or.inl rfl|exact Or.inr (Or.inl rfl)) (by rfl') (by rfl')) (e:attributeBase o "append" X.env (eval o X.env)=eval o X.env:=by rfl) (g:((backTo cpos (starEach [a] X.env)).all (fun x=>!x.1) && (backToKw cpos (keywordEach [] X.env)).all (fun x=>x.1.isSome)
   && decide ([a].length+([]:List Keyword).length+(if ([]:List Keyword).isEmpty then 0 else 1)<30))=true:=by rfl) (f:(apos.endLine == cpos.line)=true:=by rfl) (hs:starEach [a] X.env=(false,eval a X.env)::starEach [] X.env:=by rfl) (d:(backTo cpos (starEach [] X.env)).any (·.1)=false:=by rfl) (h:swapsWith (.Call (.Attribute o "append" apos) [a] [] cpos) none pos.line X.env=pure false:=by rfl) :
  ZS X A (.Expr (.Call (.Attribute o "append" apos) [a] [] cpos) pos) (yhm i xa) :=
 wS (yjM (yxK plainAttrs_list PySem.F.slot_list_append PySem.F.type_list_append yeP l (yfC j.of yjn hs) e g f hs d) h) (yuy i sE)
end
section
variable {tg:Expr}
theorem yci (h:ZE X A a xa):ZI X A tg a (xIL xa):=wI (ymQ h.of) (yrf sE)
theorem yBL (h:ZE X A a xa):ZI X A tg a (xIS xa):=wI (yAM h.of) (yuz sE)
theorem ynF (hm:X.mg "range" = none) (ha:ZA X A [a] n aa) (hg:Gl X "range":=by rfl) (hs:starEach [a] X.env=[(false,eval a X.env)]:=by rfl):ZI X A tg (.Call (.Name "range" p) [a] [] pos) (yre aa):=wI (yqv hg hm ha.of hs) (yrg sA)
end
theorem ycj {i:Nat}(f:X.N.Nodup:=by exact nd) (g:X.N[i]?=some x:=by rfl) (h:Loc X.env.scope x:=by first|exact Or.inl rfl|exact Or.inr rfl) (e:X.fn x=true\/X.env.scope.names.lookup x=some .local:=by exact Or.inl rfl):ZG X A (.Name x pos) (yr i):=wG (ymP f g h e) (yhU i)
theorem ykr:ZGs X A [] ywE:=wGs yxx yuu
theorem ydT {y:XG}{ys:XGs}(h1:ZG X A a y) (h2:ZGs X A es ys) (hs:(assignEach (a::es) X.env).map (·.2)=assign a X.env::(assignEach es X.env).map (·.2):=by rfl):ZGs X A (a::es) (yfX y ys):=wGs (ytM h1.of h2.of hs) (yrb sG sGs)
theorem yoR {ys:XGs}{q:Nat}(h:ZGs X A es ys) (hc:X.calm=true:=by rfl) (hn:(assignEach es X.env).length=n:=by rfl) (hst:(assignEach es X.env).findIdx? (·.1)=none:=by rfl):ZG X A (.Tuple es q pos) (yuq n ys):=wG (yAy hc h.of hn hst) (yuv (K:=ckX X A) sGs)
theorem ygY {elt iter:Expr}{w:Pos}{scope:Scope}{q:Pos}{u:XA}{xe:XE}{ix:List Nat} m (D:ZI X A (.Name x w) iter u) (z:∀ r C f g fp e,ZE (cxC X scope r C (x::m) f g fp e) A elt xe) (E:X.calm=true:=by rfl) (t:FrOk X scope ix m:=by repeat' first|exact True.intro|exact rfl|refine And.intro ?_ ?_) (s:(x::m).Nodup:=by rfl') (j:scope.kind=.function:=by rfl) (l:∀ y∈scope.names,y.2≠.cell:=by rfl') (h:∀ y∈scope.names,y.2=.local->scope.names.lookup y.1=some .local:=by rfl') (i:∀ y∈scope.names,y.2=.free->y.1∈m:=by rfl') (B:scope.names.lookup x=some .local:=by rfl) (hs:∀ v,foldedSetIterable iter X.env v=pure v:=by exact fun _=>rfl):ZO X A (.ListComp elt [⟨.Name x w,iter,[],0⟩] scope q) (yfY u ix xe) :=
 wO (yyP (yko ix m E D.of t (fun r C f g fp e=>(z r C f g fp e).of) (fun _ _ _ _ _ _=>.nil) s j l h i B hs)) (yos ix sI sE)
section
variable {st:Stmt}{rest:List Stmt}{s u:XS}
theorem yh (h:ZE X A a xa):ZS X A (.Return (some a) pos) (yN xa):=wS (yAw h.of) (yyg sE)
theorem yP (h:ZE X A a xa) (hs:swapsWith a none pos.line X.env=pure false:=by rfl):ZS X A (.Expr a pos) (ybk xa):=wS (yjM h.of hs) (yut sE)
theorem yw {i:Nat}{e:Pos}(h:ZE X A a xa) (f:X.N.Nodup:=by exact nd) (l:X.N[i]?=some x:=by rfl) (g:Loc X.env.scope x:=by first|exact Or.inl rfl|exact Or.inr rfl) (hs:swapsWith a (some (.Name x e)) pos.line X.env=pure false:=by rfl) (j:X.fn x=true\/X.env.scope.names.lookup x=some .local:=by exact Or.inl rfl):ZS X A (.Assign [.Name x e] a pos) (ybL xa (yr i)) :=
 wS (ywq f l g h.of hs j) (yrc sE (yhU i))
theorem yfK {i:Nat}{e:Pos}(h:ZO X A a xo) (f:X.N.Nodup:=by exact nd) (l:X.N[i]?=some x:=by rfl) (g:Loc X.env.scope x:=by first|exact Or.inl rfl|exact Or.inr rfl) (hs:swapsWith a (some (.Name x e)) pos.line X.env=pure false:=by rfl) (j:X.fn x=true\/X.env.scope.names.lookup x=some .local:=by exact Or.inl rfl):ZS X A (.Assign [.Name x e] a pos) (yhT xo i) :=
 wS (ywq f l g h.of hs j) (yuw i sO)
theorem yby {cs:List Nat}{f:Str}{d:Pos}{i:Nat}(e:∀ k∈cs,Cls X.K (A k)/\NoAttr X.K (A k) f) (h:ZE X A a xa) (g:PE X o (yqh i):=by exact yjj rfl (by first|exact Or.inl rfl|exact Or.inr (Or.inl rfl)) (by rfl') (by rfl')) (hs:swapsWith a (some (.Attribute o f d)) pos.line X.env=pure false:=by rfl):ZF X A (.Assign [.Attribute o f d] a pos) (ycB cs i f xa):=wF (ywu g h.of hs) (yuJ e sE)
theorem yL {e:XT}{l m:List Stmt}(h:ZT X A c e) (f:ZSs X A l s) (g:ZSs X A m u):ZS X A (.If c l m pos) (ybr e s u):=wS (yDq h.of f.of g.of) (yyh sT sS sS)
theorem yeH {e iter:Expr}{f:XA}{y:XG}(j:ZI X A e iter f) (g:ZG X A e y) (h:ZSs X A rest s) (hp:PassesOwn (model X.prog X.w) X.A X.env X.xe:=by exact PassesOwn.never) (i:X.calm=true:=by rfl) (hs:∀ x,foldedSetIterable iter X.env x=pure x:=by exact fun _=>rfl):ZS X A (.For e iter rest [] pos) (yhF f y s):=wS (yqx hp i j.of g.of h.of hs) (yym sI sG sS)
theorem yks {e:XT}{f:Nat}(h:ZT X A c e) (g:ZSs X A rest s) (hp:PassesOwn (model X.prog X.w) X.A X.env X.xe:=by exact PassesOwn.never):ZS X A (.While c rest [] pos) (yfs f e s):=wS (ytN hp h.of g.of) (yrh f sT sS)
theorem ym:ZSs X A [] yM:=wSs yxw yus
theorem yd (h:ZS X A st s):ZSs X A [st] s:=⟨yqq h.of⟩
theorem yb (h:ZS X A st s) (e:ZSs X A rest u):ZSs X A (st::rest) (yl s u):=wSs (yof h.of e.of) (yyf sS sS)
theorem ygL {i:Nat}(h:ZSs X A rest s):ZSs X A rest (ytA i s):=wSs h.of (yyi i sS)
theorem ydw (h:ZF X A st s):ZFs X A [st] s:=⟨yqq h.of⟩
theorem ybp (h:ZF X A st s) (e:ZFs X A rest u):ZFs X A (st::rest) (yl s u):=wFs (yof h.of e.of) (yuK sF sF)
end
end
section
variable {P:Program}{w:World}{K:PySem.W.Frag}{mg:Str->Option Value}{base:Heap}{A:Nat->Addr}
theorem zfn {x b:Str}{st:Stmt}{f:Addr}{g:FuncData}{N ps:List Str}{k:Nat}{s:XS}(F:Fun K x b st f g) (S:yes N ps (ybK st))
  (h:∀ c d outer e H E,Room k (d.deeper (envOfC b (ybK st) e.heap.objs.size f c))->ZSs (ytZ CX0 P w K mg base N b (ybK st) f c d outer e H E).nox A (yfD st) s) :
  FnOk P w K mg base CX0 (k+1) f g ps (spE ⟨K,A⟩ ps.length (ybs N.length s)) :=
 F.ok S (fun _ _ _ _ h=>yyn h) fun c d outer e H vs Q E i j=>⟨_,(h c d outer e H E i).of,yuA sS j⟩
theorem zin {x b:Str}{st:Stmt}{f:Addr}{i:FuncData}{N ps:List Str}{k g n:Nat}{s:XS}(F:Fun K x b st f i) (S:yes N ps (ybK st)) (m:ps.length=n+1) (l:n+1<=N.length)
  (h:∀ c e outer d H E,Room k (e.deeper (envOfC b (ybK st) d.heap.objs.size f c))->ZFs (ytZ CX0 P w K mg base N b (ybK st) f c e outer d H E).nox A (yfD st) s) :
  FnOk P w K mg base CX0 (k+1) f i ps (spI ⟨K,A⟩ n g (ymJ N.length g s)) :=
 F.ok S (fun _ _ _ _ h=>(yys h).trans m.symm) fun c e outer d H vs Q E o j=>⟨_,(h c e outer d H E o).of,yuL l sF j⟩
end
section
variable {X:Cx}{A:Nat->Addr}{a b c o i:Expr}{es:List Expr}{xa xb xc xd xk xv:XE}{xo:XO}{aa:XA}{pos p apos cpos pos':Pos}{x:Str}{n k:Nat}
theorem ywV (g:ZE X A o xd) (f:ZE X A i xk) (e:X.A.units+1<cLine:=by exact yxL hr) (hs:yEs i:=by exact fun _ _=>rfl):ZE X A (.Subscript o i pos) (yhZ xd xk):=wE (yyA e g.of f.of hs) (yuW sE sE)
theorem yBM (g:ZE X A i xk) (f:ZE X A o xd) (e:X.A.units+1<cLine:=by exact yxL hr) (h:behindInMarks .In o=false:=by first|exact yli _|with_unfolding_all rfl):ZT X A (.Compare i [.In] [o] pos) (yn (yAa false xk xd)):=wT (yAl (yBz e g.of f.of) h) (yhD (yyD sE sE))
theorem ynG (f:ZE X A o xd) (g:ZE X A i xk) (h:ZE X A a xv) (e:X.A.units+1<cLine:=by exact yxL hr) (hs:swapsWith a (some (.Subscript o i pos')) pos.line X.env=pure false:=by rfl):ZS X A (.Assign [.Subscript o i pos'] a pos) (yki xd xk xv):=wS (yyB e f.of g.of h.of hs) (yuX sE sE sE)
theorem yoS:ZO X A (.Dict [] [] pos) ypL:=wO yuU yuY
theorem yfL (h:ZE X A a xv) (j:ZE X A o xd) (m:ZE X A i xk) (l:∀ v,assign (.Subscript o i pos') X.env v=(do
   let e <- holding [v] (eval o X.env)
   let f <- holding [v,e] (eval i X.env)
   standAt pos'
   holding [v,e,f] (setItem e f v)
   release [v,e,f] []):=by exact fun _=>rfl) (hs:swapsWithSole [.Subscript o i pos'] a pos.line X.env=pure false:=by rfl) (g:swappedStores [.Subscript o i pos'] a X.env=pure none:=by rfl) (h1:(assignEach [.Subscript o i pos'] X.env).map (·.2)=[assign (.Subscript o i pos') X.env]:=by rfl) :
  ZS X A (.Assign [.Subscript o i pos'] a pos) (yho xd xk xv):=wS (yAA h.of (yAz j.of m.of set_list l) hs g h1) (yuV sE sE sE)
end
theorem ynH:bootBuiltins "reversed" = some (.type "reversed"):=by rfl'
section
variable {X:Cx}{A:Nat->Addr}{a b c o:Expr}{es:List Expr}{xa xb xc:XE}{pos p apos cpos:Pos}{x:Str}{n k:Nat}
theorem yBN {i:Nat}(j:ZE X A a xa) (l:PE X o (yqh i):=by exact yjj rfl (by first|exact Or.inl rfl|exact Or.inr (Or.inl rfl)) (by rfl') (by rfl')) (e:attributeBase o "extend" X.env (eval o X.env)=eval o X.env:=by rfl) (g:((backTo cpos (starEach [a] X.env)).all (fun x=>!x.1) && (backToKw cpos (keywordEach [] X.env)).all (fun x=>x.1.isSome)
   && decide ([a].length+([]:List Keyword).length+(if ([]:List Keyword).isEmpty then 0 else 1)<30))=true:=by rfl) (f:(apos.endLine == cpos.line)=true:=by rfl) (hs:starEach [a] X.env=(false,eval a X.env)::starEach [] X.env:=by rfl) (d:(backTo cpos (starEach [] X.env)).any (·.1)=false:=by rfl) (h:swapsWith (.Call (.Attribute o "extend" apos) [a] [] cpos) none pos.line X.env=pure false:=by rfl) :
  ZS X A (.Expr (.Call (.Attribute o "extend" apos) [a] [] cpos) pos) (ynC i xa) :=
 wS (yjM (yxK plainAttrs_list PySem.F.slot_list_extend PySem.F.type_list_extend yqO l (yfC j.of yjn hs) e g f hs d) h) (yva i sE)
theorem yrX {i:Nat}(h:X.mg x=none) (j:PE X a (yqh i):=by exact yjj rfl (by first|exact Or.inl rfl|exact Or.inr (Or.inl rfl)) (by rfl') (by rfl')) (m:Nm x:=by exact ⟨by rfl',by rfl',by rfl'⟩) (g:Gl X x:=by rfl) (f:bootBuiltins x=some (.builtin "len"):=by rfl') (e:starEach [a] X.env=(false,eval a X.env)::starEach [] X.env:=by rfl) (d:(backTo pos (starEach [] X.env)).any (·.1)=false:=by rfl) :
  ZE X A (.Call (.Name x p) [a] [] pos) (yhp i) :=
 wE (yjO yD g h f (yfC j yjn e) m.n m.d e d) (yvb i)
end
section
theorem ydx {xs:List V}{its:List Value}(r:Vals xs its) {j:Nat}(hj:j<its.toArray.size):∃ x,xs[j]?=some x/\RelV x its.toArray[j]:=by
 have hl:=r.length;have j1:j<its.length:=by simpa using hj
 have x1:xs[j]?=some xs[j]:=List.getElem?_eq_getElem (by omega);obtain ⟨u1,q1,w1⟩:=r.get x1;have g1:its.toArray[j]=u1:=by have:=List.getElem?_eq_getElem j1;rw [q1] at this;simpa using (Option.some.inj this).symm
 exact ⟨_,x1,by rw [g1];exact w1⟩
variable {X:Cx}
theorem yoT {i:List (Addr×Obj)}{Z:L2.St}{H:Hp}{s:Shared}(I:Inv X i Z H s) {n:Nat}{x y:V}{b:Bool}(r:EqR X.K H n x y b):∀ {A:Around}{u v:Value},RelV x u->RelV y v->A.units+n<cLine->SeqAt.EqAt A s u v b:=by
 induction r with
 | flat fx fy=>exact fun d f _=>eqAt_V d f fx fy
 | same =>
  intro A u v d f _;cases d;cases f;exact SeqAt.EqAt.same _
 | odd h =>
  obtain ⟨a,o,ob,h1,h2⟩:=h;have:=(I.bs a ob (I.ok.mod.kin a ob h2)).2;rw [h1] at this;cases this
 | nt hb =>
  intro A u v d f m;cases d;cases f;obtain ⟨l,r2,k,p⟩:=I.tuple hb;exact SeqAt.EqAt.none_tuple k (by omega)
 | tn hb =>
  intro A u v d f m;cases d;cases f;obtain ⟨l,r2,k,p⟩:=I.tuple hb;exact SeqAt.EqAt.tuple_none k (by omega)
 | @lst n a b xs ys e ha hb hl hne he ih =>
  intro A u v d f m;cases d;cases f;obtain ⟨q,t,g,F,P⟩:=I.lst ha;obtain ⟨l,C,r2,M,p⟩:=I.lst hb;have O:=g.length;have N:=r2.length;rw [show xs.length=q.toArray.size by simp only [size_toArray];omega];refine SeqAt.EqAt.of_refs hne (SeqAt.RcAt.lists ⟨_,F,rfl,t,rfl⟩ ⟨_,M,rfl,C,rfl⟩ (by simp only [size_toArray];omega) (by omega) fun j L B=>?_);obtain ⟨x1,G,E⟩:=ydx g L;obtain ⟨J,D,w⟩:=ydx r2 B;exact ih j x1 J G D E w (by show A.units+1+n<cLine;omega)
 | @lstN n a b xs ys ha hb hl =>
  intro A u v d f m;cases d;cases f;obtain ⟨q,t,g,F,P⟩:=I.lst ha;obtain ⟨l,C,r2,M,p⟩:=I.lst hb;have O:=g.length;have N:=r2.length;have hne:a≠b:=fun z=>by subst z;rw [ha] at hb;cases hb;exact hl rfl
  exact SeqAt.EqAt.of_refs hne (SeqAt.RcAt.lists_lengths ⟨_,F,rfl,t,rfl⟩ ⟨_,M,rfl,C,rfl⟩ (by simp only [size_toArray,bne_iff_ne];omega) (by omega))
 | @tup n a b xs ys e ha hb hne he ih =>
  intro A u v d f m;cases d;cases f;obtain ⟨q,g,Q,P⟩:=I.tuple ha;obtain ⟨l,r2,k,p⟩:=I.tuple hb;have O:=g.length;have N:=r2.length;rw [show xs.length=q.toArray.size by simp only [size_toArray];omega,show ys.length=l.toArray.size by simp only [size_toArray];omega];refine SeqAt.EqAt.of_refs hne (SeqAt.RcAt.tuples Q k (by omega) fun j L B=>?_);obtain ⟨x1,G,E⟩:=ydx g L;obtain ⟨J,D,w⟩:=ydx r2 B;exact ih j x1 J G D E w (by show A.units+1+n<cLine;omega)
theorem yrY (M:X.A.units+60<cLine):OpR X (compareOp .Eq) (yFD X.K):=by
 intro G s Z H x y v u Q I f i h;obtain ⟨b,hb,q⟩:=h;cases hb with
 | nt hb =>
  cases f;cases i;obtain ⟨k,r2,g,l⟩:=I.tuple hb;exact SeqAt.RcAt.none_tuple g (by omega) _ _ _ _ ⟨.bl _,H,I,rfl,q⟩
 | tn hb =>
  cases f;cases i;obtain ⟨k,r2,g,l⟩:=I.tuple hb;exact SeqAt.RcAt.tuple_none g (by omega) _ _ _ _ ⟨.bl _,H,I,rfl,q⟩
 | @lst a b xs ys e ha hb hl he =>
  cases f;cases i;obtain ⟨m,t,d,z,F⟩:=I.lst ha;obtain ⟨k,A,r2,D,l⟩:=I.lst hb;have J:=d.length;have E:=r2.length;rw [show xs.length=m.toArray.size by simp only [size_toArray];omega] at q;refine SeqAt.RcAt.lists ⟨_,z,rfl,t,rfl⟩ ⟨_,D,rfl,A,rfl⟩ (by simp only [size_toArray];omega) (by omega) (fun j o r=>?_) _ _ _ _ ⟨.bl _,H,I,rfl,q⟩;obtain ⟨x1,p,w⟩:=ydx d o;obtain ⟨C,B,n⟩:=ydx r2 r;exact yoT I (he j x1 C p B) w n (by show X.A.units+1+40<cLine;omega)
 | @lstN a b xs ys ha hb hl =>
  cases f;cases i;obtain ⟨m,t,d,z,F⟩:=I.lst ha;obtain ⟨k,A,r2,D,l⟩:=I.lst hb;have J:=d.length;have E:=r2.length;exact SeqAt.RcAt.lists_lengths ⟨_,z,rfl,t,rfl⟩ ⟨_,D,rfl,A,rfl⟩ (by grind) (by omega) _ _ _ _ ⟨.bl _,H,I,rfl,q⟩
 | @tup a b xs ys e ha hb he =>
  cases f;cases i;obtain ⟨m,d,L,F⟩:=I.tuple ha;obtain ⟨k,r2,g,l⟩:=I.tuple hb;have J:=d.length;have E:=r2.length;rw [show xs.length=m.toArray.size by simp only [size_toArray];omega,show ys.length=k.toArray.size by simp only [size_toArray];omega] at q;refine SeqAt.RcAt.tuples L g (by omega) (fun j o r=>?_) _ _ _ _ ⟨.bl _,H,I,rfl,q⟩;obtain ⟨x1,p,w⟩:=ydx d o;obtain ⟨C,B,n⟩:=ydx r2 r;exact yoT I (he j x1 C p B) w n (by show X.A.units+1+40<cLine;omega)
theorem yBO (hu:X.A.units+60<cLine):OpR X (compareOp .NotEq) (yFE X.K):=by
 intro pins s Z H x y v u Q I rx ry h;obtain ⟨b,hb,q⟩:=h;cases hb with
 | nt hb =>
  cases rx;cases ry;obtain ⟨i2,r2,p2,z2⟩:=I.tuple hb;exact SeqAt.RcNeAt.none_tuple p2 (by omega) _ _ _ _ ⟨.bl _,H,I,rfl,q⟩
 | tn hb =>
  cases rx;cases ry;obtain ⟨i2,r2,p2,z2⟩:=I.tuple hb;exact SeqAt.RcNeAt.tuple_none p2 (by omega) _ _ _ _ ⟨.bl _,H,I,rfl,q⟩
 | @lst a b xs ys e ha hb hl he =>
  cases rx;cases ry;obtain ⟨i1,n1,r1,e1,z1⟩:=I.lst ha;obtain ⟨i2,n2,r2,e2,z2⟩:=I.lst hb;have l1:=r1.length;have l2:=r2.length;rw [show xs.length=i1.toArray.size by simp only [size_toArray];omega] at q;refine SeqAt.RcNeAt.lists ⟨_,e1,rfl,n1,rfl⟩ ⟨_,e2,rfl,n2,rfl⟩ (by simp only [size_toArray];omega) (by omega) (fun j j1 j2=>?_) _ _ _ _ ⟨.bl _,H,I,rfl,q⟩;obtain ⟨x1,q1,w1⟩:=ydx r1 j1;obtain ⟨y1,q2,w2⟩:=ydx r2 j2;exact yoT I (he j x1 y1 q1 q2) w1 w2 (by show X.A.units+1+40<cLine;omega)
 | @lstN a b xs ys ha hb hl =>
  cases rx;cases ry;obtain ⟨i1,n1,r1,e1,z1⟩:=I.lst ha;obtain ⟨i2,n2,r2,e2,z2⟩:=I.lst hb;have l1:=r1.length;have l2:=r2.length;exact SeqAt.RcNeAt.lists_lengths ⟨_,e1,rfl,n1,rfl⟩ ⟨_,e2,rfl,n2,rfl⟩ (by simp only [size_toArray,bne_iff_ne];omega) (by omega) _ _ _ _ ⟨.bl _,H,I,rfl,q⟩
 | @tup a b xs ys e ha hb he =>
  cases rx;cases ry;obtain ⟨i1,r1,p1,z1⟩:=I.tuple ha;obtain ⟨i2,r2,p2,z2⟩:=I.tuple hb;have l1:=r1.length;have l2:=r2.length;rw [show xs.length=i1.toArray.size by simp only [size_toArray];omega,show ys.length=i2.toArray.size by simp only [size_toArray];omega] at q;refine SeqAt.RcNeAt.tuples p1 p2 (by omega) (fun j j1 j2=>?_) _ _ _ _ ⟨.bl _,H,I,rfl,q⟩;obtain ⟨x1,q1,w1⟩:=ydx r1 j1;obtain ⟨y1,q2,w2⟩:=ydx r2 j2;exact yoT I (he j x1 y1 q1 q2) w1 w2 (by show X.A.units+1+40<cLine;omega)
theorem yoU {k:Nat}{A:Around}(r:Room k A):A.units+60<cLine:=by have:=r.un;omega
end
section
variable {X:Cx}{A:Nat->Addr}{o e:Expr}{es:List Expr}{xa xb:XE}{aa:XA}{pos apos pos':Pos}{m f:Str}{n k kc:Nat}{pl:Sem Bool}{p:Fn}{fa:Addr}{fd:FuncData}{ps:List Str}
theorem ycl {st:Stmt}:ZS X A st yfq:=wS ytL (yve)
theorem yt (l:ZE X A o xa) (i:Meth X.K (A kc) m fa) (F:FnOk X.prog X.w X.K X.mg X.base CX0 k fa fd ps (spE (ckX X A) (n+1) p)) (h:Binds X.K fd ps []) (d:ZA X A (e::es) n aa) (c:Cls X.K (A kc):=by exact T.cl _) (hr:Room k X.A:=by exact hr.mono (by omega)) (b:starEach (e::es) X.env=(false,eval e X.env)::starEach es X.env:=by rfl) (a:(backTo pos (starEach es X.env)).any (·.1)=false:=by rfl) (j:eval (.Call (.Attribute o m apos) (e::es) [] pos) X.env=(do
   let g <- eval o X.env
   standAt apos.atName
   let (f,first) <- holding [g] (getMethod g m pl)
   callWith pos f first (backTo pos (starEach (e::es) X.env)) (backToKw pos (keywordEach [] X.env))):=by rfl) :
  ZE X A (.Call (.Attribute o m apos) (e::es) [] pos) (yk kc m p xa aa):=wE (yxH l.of c i F hr h .nil ylu d.of b a j) (ylU sE sA d.len)
theorem yv (b:ZE X A o xa) (h:Meth X.K (A kc) m fa) (F:FnOk X.prog X.w X.K X.mg X.base CX0 k fa fd ps (spE (ckX X A) 1 p)) (d:Binds X.K fd ps []) (c:Cls X.K (A kc):=by exact T.cl _) (hr:Room k X.A:=by exact hr.mono (by omega)) (g:eval (.Call (.Attribute o m apos) [] [] pos) X.env=(do
   let a <- eval o X.env
   standAt apos.atName
   let (f,first) <- holding [a] (getMethod a m pl)
   callWith pos f first (backTo pos (starEach [] X.env)) (backToKw pos (keywordEach [] X.env))):=by rfl) :
  ZE X A (.Call (.Attribute o m apos) [] [] pos) (yk kc m p xa yi):=wE (ytX b.of c h F hr d .nil ylu g) (ylU sE yjY yno)
theorem ybF {cs:List Nat}{value:Expr}(d:∀ k∈cs,Cls X.K (A k)/\NoAttr X.K (A k) f) (c:ZE X A o xa) (b:ZE X A value xb) (hs:swapsWith value (some (.Attribute o f pos')) pos.line X.env=pure false:=by rfl) :
  ZS X A (.Assign [.Attribute o f pos'] value pos) (yda cs f xa xb):=wS (ywu c.of b.of hs) (yvf d sE sE)
end
end PX
namespace KasS
open PySem PySem.W PyProof.Rows
noncomputable def run {Z:Type}(lt:Nat->Nat->Bool):KasT Z->Z
 | .ret a=>a
 | .ask i j k=>run lt (k (lt i j))
theorem yfk {Z b:Type} lt (f:Z->KasT b):∀ t,run lt (t.bind f)=run lt (f (run lt t))
 | .ret _=>rfl
 | .ask i j k=>yfk lt f (k _)
section
variable (key:Nat->Int)
noncomputable def ltK (i j:Nat):Bool:=decide (key i<key j)
noncomputable def Kp (p:Array Nat) (i:Nat):Int:=key (p[i]?.getD 0)
def Up (p:Array Nat) (k:Nat):Prop:=∀ i j,i<=j->j<k->Kp key p i<=Kp key p j
def Dn (p:Array Nat) (k:Nat):Prop:=∀ i j,i<=j->j<k->Kp key p j<=Kp key p i
variable {key}
theorem ykt (p:Array Nat) i:p.getD i 0=p[i]?.getD 0:=by simp_all
theorem yrZ p i j:ltK key (p.getD i 0) (p.getD j 0)=decide (Kp key p i<Kp key p j):=by rw [ykt,ykt];rfl
theorem Up.succ {p:Array Nat}{n:Nat}(h:Up key p n) (h1:1<=n) (hn:Kp key p (n-1)<=Kp key p n):Up key p (n+1):=fun i j hij hj=>by
 by_cases e:j=n
 .subst e
  by_cases e2:i=j
  .subst e2;exact Int.le_refl _
  .exact Int.le_trans (h i (j-1) (by omega) (by omega)) hn
 .exact h i j hij (by omega)
theorem Dn.succ {p:Array Nat}{n:Nat}(h:Dn key p n) (h1:1<=n) (hn:Kp key p n<=Kp key p (n-1)):Dn key p (n+1):=fun i j hij hj=>by
 by_cases e:j=n
 .subst e
  by_cases e2:i=j
  .subst e2;exact Int.le_refl _
  .exact Int.le_trans hn (h i (j-1) (by omega) (by omega))
 .exact h i j hij (by omega)
theorem ysa (p:Array Nat):∀ (f n:Nat),1<=n->Up key p n->n<=run (ltK key) (kas_asc p f n)/\run (ltK key) (kas_asc p f n)<=n+f/\Up key p (run (ltK key) (kas_asc p f n))/\(run (ltK key) (kas_asc p f n)<n+f->Kp key p (run (ltK key) (kas_asc p f n))<Kp key p (run (ltK key) (kas_asc p f n)-1))
 | 0,n,_,h=>⟨Nat.le_refl _,Nat.le_refl _,h,fun z=>by exact absurd z (lt_irrefl _)⟩
 | f+1,n,h1,h=>by
  have e:run (ltK key) (kas_asc p (f+1) n)=run (ltK key) (if ltK key (p.getD n 0) (p.getD (n-1) 0)=true then .ret n else kas_asc p f (n+1)):=rfl;rw [e,yrZ]
  by_cases hc:Kp key p n<Kp key p (n-1)
  .rw [decide_eq_true hc,if_pos rfl];exact ⟨Nat.le_refl _,by show n<=n+(f+1);omega,h,fun _=>hc⟩
  .rw [decide_eq_false hc,if_neg (by simp)];obtain ⟨a,b,c,d⟩:=ysa p f (n+1) (by omega) (h.succ h1 (by omega));exact ⟨by omega,by omega,c,fun z=>d (by omega)⟩
theorem ysb {p:Array Nat}{i j:Nat}(b:j<=p.size) k:Kp key (kas_rev p i j) k=if i<=k/\k<j then Kp key p (i+j-1-k) else Kp key p k:=by unfold Kp kas_rev;rw [getElem?_mirror_all b];split<;>rfl
theorem yew p i j:(kas_rev p i j).size=p.size:=mirror_size _ _ _ _
theorem ydA p i j:(kas_rev p i j).Perm p:=mirror_perm _ _ _ _
theorem yii {p:Array Nat}{i j:Nat}(hj:j<=p.size) (he:∀ k,i<=k->k<j->Kp key p k=Kp key p (j-1)) (k:Nat):Kp key (kas_rev p i j) k=Kp key p k:=by
 rw [ysb hj];split
 .rename_i h;rw [he (i+j-1-k) (by omega) (by omega),he k h.1 h.2]
 .rfl
theorem yku:∀ (f:Nat) (p:Array Nat) (n q:Nat),n+f<=p.size->q+1<=n->Dn key p n->(∀ k,n-(q+1)<=k->k<n->Kp key p k=Kp key p (n-1)) ->
  let r:=run (ltK key) (kas_desc f p n q)
  r.1.Perm p/\r.1.size=p.size/\n<=r.2.1/\r.2.1<=n+f/\r.2.2+1<=r.2.1/\Dn key r.1 r.2.1/\(∀ k,r.2.1-(r.2.2+1)<=k->k<r.2.1->Kp key r.1 k=Kp key r.1 (r.2.1-1))
 | 0,p,n,q,hs,g,b,d=>⟨Array.Perm.refl _,rfl,Nat.le_refl _,Nat.le_refl _,g,b,d⟩
 | f+1,p,n,q,hs,g,b,d=>by
  intro r;have e:r=run (ltK key) (if ltK key (p.getD n 0) (p.getD (n-1) 0)=true then (if q>0 then kas_desc f (kas_rev p (n-(q+1)) n) (n+1) 0 else kas_desc f p (n+1) 0)
   else .ask (p.getD (n-1) 0) (p.getD n 0) _):=rfl
  rw [yrZ] at e
  by_cases s:Kp key p n<Kp key p (n-1)
  .rw [decide_eq_true s,if_pos rfl] at e
   by_cases m:q>0
   .rw [if_pos m] at e;have o:∀ k,Kp key (kas_rev p (n-(q+1)) n) k=Kp key p k:=fun k=>yii (by omega) d k
    have l:Dn key (kas_rev p (n-(q+1)) n) (n+1):=fun i j h t=>by rw [o,o];exact b.succ (by omega) (by omega) i j h t
    obtain ⟨a1,a2,a3,a4,a5,a6,a7⟩:=yku f (kas_rev p (n-(q+1)) n) (n+1) 0 (by rw [yew];omega) (by omega) l (fun k h1 h2=>by rw [show k=n+1-1 by omega]);rw [e];exact ⟨a1.trans (ydA _ _ _),a2.trans (yew _ _ _),by omega,by omega,a5,a6,a7⟩
   .rw [if_neg m] at e;obtain ⟨a1,a2,a3,a4,a5,a6,a7⟩:=yku f p (n+1) 0 (by omega) (by omega) (b.succ (by omega) (by omega)) (fun k h1 h2=>by rw [show k=n+1-1 by omega]);rw [e];exact ⟨a1,a2,by omega,by omega,a5,a6,a7⟩
  .rw [decide_eq_false s,if_neg (by simp)] at e;have e:r=run (ltK key) (if ltK key (p.getD (n-1) 0) (p.getD n 0)=true then .ret (p,n,q) else kas_desc f p (n+1) (q+1)):=e;rw [yrZ] at e
   by_cases c:Kp key p (n-1)<Kp key p n
   .rw [decide_eq_true c,if_pos rfl] at e;rw [e];exact ⟨Array.Perm.refl _,rfl,Nat.le_refl _,by show n<=n+(f+1);omega,g,b,d⟩
   .rw [decide_eq_false c,if_neg (by simp)] at e;have u:Kp key p n=Kp key p (n-1):=by omega
    obtain ⟨a1,a2,a3,a4,a5,a6,a7⟩:=yku f p (n+1) (q+1) (by omega) (by omega) (b.succ (by omega) (by omega)) (fun k h1 h2=>by grind)
    rw [e];exact ⟨a1,a2,by omega,by omega,a5,a6,a7⟩
theorem Dn.rev {p:Array Nat}{n:Nat}(hn:n<=p.size) (h:Dn key p n):Up key (kas_rev p 0 n) n:=fun i j hij hj=>by rw [ysb hn,ysb hn,if_pos ⟨by omega,by omega⟩,if_pos ⟨by omega,by omega⟩];exact h _ _ (by omega) (by omega)
theorem yoV {p:Array Nat}{n nrem:Nat}(h1:1<=n) (hn:n<=nrem) (hs:nrem<=p.size) (h:Dn key p n) :
  let r:=run (ltK key) (kas_tail3 n nrem p)
  r.2.Perm p/\r.2.size=p.size/\1<=r.1/\r.1<=nrem/\Up key r.2 r.1:=by
 intro r;have e:r=(run (ltK key) (kas_asc (kas_rev p 0 n) (nrem-n) n),kas_rev p 0 n):=by show run _ (KasT.bind _ _)=_;rw [yfk];rfl
 obtain ⟨a,b,c,_⟩:=ysa (kas_rev p 0 n) (nrem-n) n h1 (h.rev (by omega));rw [e];exact ⟨ydA _ _ _,yew _ _ _,by omega,by omega,c⟩
theorem yij {p:Array Nat}{n nrem:Nat}(h1:1<=n) (u:n<nrem) (hs:nrem<=p.size) (h:Dn key p (n+1)) :
  let r:=run (ltK key) (kas_descPart n nrem p)
  r.2.Perm p/\r.2.size=p.size/\1<=r.1/\r.1<=nrem/\Up key r.2 r.1:=by
 intro r;obtain ⟨a1,a2,a3,a4,a5,a6,a7⟩:=yku (nrem-(n+1)) p _ 0 (by omega) (by omega) h (fun k h1 h2=>by grind);generalize s:run _ _=d at *;have e:r=run (ltK key) (if d.2.2>0 then kas_tail3 d.2.1 nrem (kas_rev d.1 (d.2.1-(d.2.2+1)) d.2.1) else kas_tail3 d.2.1 nrem d.1):=by show run _ (KasT.bind _ _)=_;rw [yfk,s]
 by_cases q:d.2.2>0
 .rw [if_pos q] at e;have o:=fun k=>yii (by omega) a7 k
  obtain ⟨g,l,f,b,m⟩:=yoV (p:=kas_rev d.1 (d.2.1-(d.2.2+1)) d.2.1) (n:=d.2.1) (nrem:=nrem) (by omega) (by omega) (by rw [yew];omega) (fun i j c t=>by rw [o,o];exact a6 i j c t);rw [e];exact ⟨g.trans ((ydA _ _ _).trans a1),l.trans ((yew _ _ _).trans a2),f,b,m⟩
 .rw [if_neg q] at e;obtain ⟨g,l,f,b,m⟩:=yoV (nrem:=nrem) (by omega) (by omega) (by omega) a6;rw [e];exact ⟨g.trans a1,l.trans a2,f,b,m⟩
theorem yoW {p:Array Nat}{nrem:Nat}(h1:1<=nrem) (hs:nrem<=p.size) :
  let r:=run (ltK key) (kas_count nrem p)
  r.2.Perm p/\r.2.size=p.size/\1<=r.1/\r.1<=nrem/\Up key r.2 r.1:=by
 intro r;obtain ⟨a,b,c,d⟩:=ysa (key:=key) p (nrem-1) 1 (Nat.le_refl _) (fun i j g v=>by rw [show i=j by omega];exact Int.le_refl _);generalize y:run (ltK key) (kas_asc p (nrem-1) 1)=n at *;have e:r=run (ltK key) (if (n == nrem)=true then .ret (n,p) else if n>1 then .ask (p.getD 0 0) (p.getD (n-1) 0) fun c=>if c=true then .ret (n,p) else kas_descPart n nrem (kas_rev p 0 n)
  else kas_descPart n nrem p):=by show run _ (KasT.bind _ _)=_;rw [yfk,y]
 by_cases x:n=nrem
 .rw [if_pos (by simp [x])] at e;rw [e];exact ⟨Array.Perm.refl _,rfl,a,by show n<=nrem;omega,c⟩
 .rw [if_neg (by simp [x])] at e;have B:=d (by omega)
  by_cases h2:n>1
  .rw [if_pos h2] at e;have e:r=run (ltK key) (if ltK key (p.getD 0 0) (p.getD (n-1) 0)=true then .ret (n,p) else kas_descPart n nrem (kas_rev p 0 n)):=e;rw [yrZ] at e
   by_cases w:Kp key p 0<Kp key p (n-1)
   .rw [decide_eq_true w,if_pos rfl] at e;rw [e];exact ⟨Array.Perm.refl _,rfl,a,by show n<=nrem;omega,c⟩
   .rw [decide_eq_false w,if_neg (by simp)] at e;have l:∀ k,0<=k->k<n->Kp key p k=Kp key p (n-1):=fun k _ z=>by have u1:=c 0 k (by omega) z;have C:=c k (n-1) (by omega) (by omega);omega
    have A:∀ k,Kp key (kas_rev p 0 n) k=Kp key p k:=fun k=>yii (by omega) l k
    have s:Dn key (kas_rev p 0 n) (n+1):=fun i j g v=>by grind
    obtain ⟨m,o,u,t,h⟩:=yij (key:=key) (p:=kas_rev p 0 n) (n:=n) (nrem:=nrem) a (by omega) (by rw [yew];omega) s;rw [e];exact ⟨m.trans (ydA _ _ _),o.trans (yew _ _ _),u,t,h⟩
  .rw [if_neg h2] at e;have q:n=1:=by omega
   subst q;obtain ⟨m,o,u,t,h⟩:=yij (key:=key) (p:=p) (n:=1) (nrem:=nrem) (by omega) (by omega) hs (fun i j g v=>by grind)
   rw [e];exact ⟨m,o,u,t,h⟩
theorem ykv {p:Array Nat}{k:Nat}(hu:Up key p k):∀ (f l r:Nat),r<=k->l<=r->r-l<=f->(∀ i,i<l->Kp key p i<=Kp key p k)->(∀ i,r<=i->i<k->Kp key p k<Kp key p i) ->
  let m:=run (ltK key) (kas_place p k f l r)
  m<=k/\(∀ i,i<m->Kp key p i<=Kp key p k)/\(∀ i,m<=i->i<k->Kp key p k<Kp key p i)
 | 0,l,r,hr,hl,hf,h1,h2=>by
  have:l=r:=by omega
  subst this;exact ⟨hr,h1,h2⟩
 | f+1,l,r,hr,hl,hf,h1,h2=>by
  intro m;have e:m=run (ltK key) (if l>=r then .ret l else .ask (p.getD k 0) (p.getD ((l+r)/2) 0) fun c=>if c=true then kas_place p k f l ((l+r)/2) else kas_place p k f ((l+r)/2+1) r):=rfl
  by_cases hlr:l>=r
  .rw [if_pos hlr] at e;have:l=r:=by omega
   subst this;rw [e];exact ⟨hr,h1,h2⟩
  .rw [if_neg hlr] at e;have e:m=run (ltK key) (if ltK key (p.getD k 0) (p.getD ((l+r)/2) 0)=true then kas_place p k f l ((l+r)/2) else kas_place p k f ((l+r)/2+1) r):=e;rw [yrZ] at e
   by_cases hc:Kp key p k<Kp key p ((l+r)/2)
   .rw [decide_eq_true hc,if_pos rfl] at e;rw [e];exact ykv hu f l ((l+r)/2) (by omega) (by omega) (by omega) h1 (fun i h3 h4=>by have:=hu ((l+r)/2) i h3 h4;omega)
   .rw [decide_eq_false hc,if_neg (by simp)] at e;rw [e];exact ykv hu f ((l+r)/2+1) r hr (by omega) (by omega) (fun i h3=>by have:=hu i ((l+r)/2) (by omega) (by omega);omega) h2
theorem ysc {p:Array Nat}{b d:Nat}(hs:b<p.size) (c:d<=b) k:Kp key (bubble p b d) k=if k=b-d then Kp key p b else if b-d<k/\k<=b then Kp key p (k-1) else Kp key p k:=by
 unfold Kp;rw [getElem?_bubble hs d c]
 repeat' split
 all_goals rfl
theorem ywW:∀ (f:Nat) (p:Array Nat) (k:Nat),k+f<=p.size->Up key p k->(run (ltK key) (kas_bin f p k)).Perm p/\Up key (run (ltK key) (kas_bin f p k)) (k+f)
 | 0,p,k,_,h=>⟨Array.Perm.refl _,h⟩
 | f+1,p,k,hs,h=>by
  obtain ⟨a1,a2,a3⟩:=ykv (key:=key) h k 0 k (Nat.le_refl _) (by omega) (by omega) (fun i hi=>by omega) (fun i h1 h2=>by omega);generalize hl:run (ltK key) (kas_place p k k 0 k)=l at *;have e:run (ltK key) (kas_bin (f+1) p k)=run (ltK key) (kas_bin f (bubble p k (k-l)) (k+1)):=by show run _ (KasT.bind _ _)=_;rw [yfk,hl]
  have hk:∀ i,Kp key (bubble p k (k-l)) i=if i=l then Kp key p k else if l<i/\i<=k then Kp key p (i-1) else Kp key p i:=fun i=>by rw [ysc (by omega) (by omega),show k-(k-l)=l by omega]
  have hu:Up key (bubble p k (k-l)) (k+1):=fun i j hij hj=>by
   rw [hk,hk]
   by_cases i1:i=l
   .rw [if_pos i1]
    by_cases j1:j=l
    .rw [if_pos j1];exact Int.le_refl _
    .rw [if_neg j1,if_pos ⟨by omega,by omega⟩];have:=a3 (j-1) (by omega) (by omega);omega
   .rw [if_neg i1]
    by_cases i2:l<i/\i<=k
    .rw [if_pos i2,if_neg (by omega),if_pos ⟨by omega,by omega⟩];exact h _ _ (by omega) (by omega)
    .rw [if_neg i2];have il:i<l:=by omega
     by_cases j1:j=l
     .rw [if_pos j1];exact a2 i il
     .rw [if_neg j1];split
      .exact h _ _ (by omega) (by omega)
      .exact h _ _ (by omega) (by omega)
  obtain ⟨b1,b2⟩:=ywW f (bubble p k (k-l)) (k+1) (by rw [bubble_size];omega) hu;rw [e];exact ⟨b1.trans (bubble_perm _ _ _),by rw [show k+(f+1)=k+1+f by omega];exact b2⟩
theorem ysd {n:Nat}(h1:1<=n):(run (ltK key) (kas_sort n)).Perm (toArray (List.range n))/\Up key (run (ltK key) (kas_sort n)) n:=by
 have hs:(toArray (List.range n)).size=n:=by simp
 obtain ⟨a1,a2,a3,a4,a5⟩:=yoW (key:=key) (p:=toArray (List.range n)) (nrem:=n) h1 (by omega);generalize hr:run (ltK key) (kas_count n (toArray (List.range n)))=r at *;have e:run (ltK key) (kas_sort n)=run (ltK key) (if r.1<n then kas_bin (n-max r.1 1) r.2 (max r.1 1) else .ret r.2):=by show run _ (KasT.bind _ _)=_;rw [yfk,hr]
 by_cases h:r.1<n
 .rw [if_pos h] at e;obtain ⟨b1,b2⟩:=ywW (key:=key) (n-max r.1 1) r.2 (max r.1 1) (by omega) (by rw [Nat.max_eq_left a3];exact a5);rw [e];exact ⟨b1.trans a1,by rw [show max r.1 1+(n-max r.1 1)=n by omega] at b2;exact b2⟩
 .rw [if_neg h] at e;rw [e];exact ⟨a1,by rw [show n=r.1 by omega];exact a5⟩
noncomputable def AskIn {Z:Type}(P:Nat->Prop) (lt:Nat->Nat->Bool):KasT Z->Prop
 | .ret _=>True
 | .ask i j k=>P i/\P j/\AskIn P lt (k (lt i j))
theorem AskIn.bind {Z e:Type}{P:Nat->Prop}{lt:Nat->Nat->Bool}{f:Z->KasT e}:∀ {t:KasT Z},AskIn P lt t->AskIn P lt (f (run lt t))->AskIn P lt (t.bind f)
 | .ret _,_,h=>h
 | .ask _ _ _,⟨a,b,c⟩,h=>⟨a,b,AskIn.bind c h⟩
theorem yBP {Z:Type}{P:Nat->Prop}{lt:Nat->Nat->Bool}{e:Nat->Nat->(Bool->Shared->Prop)->Shared->Prop}{s:Shared}(f:∀ i j C,P i->P j->C (lt i j) s->e i j C s) {Q:Z->Shared->Prop} :
  ∀ t,AskIn P lt t->Q (run lt t) s->t.kasWp e Q s
 | .ret _,_,h=>h
 | .ask i j k,⟨a,b,c⟩,h=>f i j _ a b (yBP f _ c h)
section
variable {P:Nat->Prop}{lt:Nat->Nat->Bool}
noncomputable def All (P:Nat->Prop) (p:Array Nat):Prop:=∀ i,P (p.getD i 0)
theorem All.of_perm {p q:Array Nat}(h0:P 0) (h:All P p) (e:q.Perm p):All P q:=fun i=>by
 rw [ykt]
 by_cases hi:i<q.size
 .rw [Array.getElem?_eq_getElem hi];show P q[i];have hm:q[i]∈p:=(e.mem_iff).mp (Array.getElem_mem hi);obtain ⟨j,hj,e2⟩:=Array.getElem_of_mem hm;have:=h j;rw [ykt,Array.getElem?_eq_getElem hj] at this;rw [<- e2];exact this
 .rw [Array.getElem?_eq_none (by omega)];exact h0
theorem yse {p:Array Nat}(h:All P p):∀ (f n:Nat),AskIn P lt (kas_asc p f n)
 | 0,_=>trivial
 | f+1,n=>⟨h _,h _,by show AskIn P lt (if _ then _ else _);split;trivial;exact yse h f (n+1)⟩
theorem ykw (b:P 0):∀ f p n q,All P p->AskIn P lt (kas_desc f p n q)
 | 0,_,_,_,_=>trivial
 | f+1,p,n,q,h=>by
  refine ⟨h _,h _,?_⟩;show AskIn P lt (if _ then _ else _);split
  .split
   .exact ykw b f _ _ _ (h.of_perm b (ydA _ _ _))
   .exact ykw b f _ _ _ h
  .refine ⟨h _,h _,?_⟩;show AskIn P lt (if _ then _ else _);split
   .trivial
   .exact ykw b f _ _ _ h
theorem ygb:∀ f p n q,(run lt (kas_desc f p n q)).1.Perm p
 | 0,_,_,_=>Array.Perm.refl _
 | f+1,p,n,q=>by
  show (run lt (if lt _ _=true then (if q>0 then kas_desc f _ _ 0 else kas_desc f p _ 0)
   else .ask _ _ _)).1.Perm p
  split
  .split
   .exact (ygb f _ _ _).trans (ydA _ _ _)
   .exact ygb f _ _ _
  .show (run lt (if lt _ _=true then .ret _ else kas_desc f p _ _)).1.Perm p;split
   .exact Array.Perm.refl _
   .exact ygb f _ _ _
theorem yoX (b:P 0) {p:Array Nat}(h:All P p) n nrem:AskIn P lt (kas_tail3 n nrem p):=AskIn.bind (yse (h.of_perm b (ydA _ _ _)) _ _) trivial
theorem yik (b:P 0) {p:Array Nat}(h:All P p) n nrem:AskIn P lt (kas_descPart n nrem p):=by
 refine AskIn.bind (ykw b _ _ _ _ h) ?_;have:=h.of_perm b (ygb (lt:=lt) (nrem-(n+1)) p (n+1) 0);split
 .exact yoX b (this.of_perm b (ydA _ _ _)) _ _
 .exact yoX b this _ _
theorem yvo (b:P 0) {p:Array Nat}(h:All P p) nrem:AskIn P lt (kas_count nrem p):=by
 refine AskIn.bind (yse h _ _) ?_;split
 .trivial
 .split
  .refine ⟨h _,h _,?_⟩;show AskIn P lt (if _ then _ else _);split
   .trivial
   .exact yik b (h.of_perm b (ydA _ _ _)) _ _
  .exact yik b h _ _
theorem ykx {p:Array Nat}(h:All P p) k:∀ f l r,AskIn P lt (kas_place p k f l r)
 | 0,_,_=>trivial
 | f+1,l,r=>by
  show AskIn P lt (if _ then _ else _);split
  .trivial
  .refine ⟨h _,h _,?_⟩;show AskIn P lt (if _ then _ else _);split
   .exact ykx h k f _ _
   .exact ykx h k f _ _
theorem ywX (b:P 0):∀ f p k,All P p->AskIn P lt (kas_bin f p k)
 | 0,_,_,_=>trivial
 | f+1,p,k,h=>AskIn.bind (ykx h k _ _ _) (ywX b f _ _ (h.of_perm b (bubble_perm _ _ _)))
end
theorem yyS {n:Nat}(h1:1<=n):AskIn (· < n) (ltK key) (kas_sort n):=by
 have h:All (· < n) (toArray (List.range n)):=fun i=>by
  by_cases b:i<n
  .simp [b]
  .simp [b];omega
 refine AskIn.bind (yvo (by omega) h n) ?_;obtain ⟨a1,_⟩:=yoW (p:=toArray (List.range n)) h1 (by simp);split
 .exact ywX (by omega) _ _ _ (h.of_perm (by omega) a1)
 .trivial
end
open PySem.Calls
noncomputable def Tps (h:Heap):List Value->List (Int×Tok×Value)->Prop
 | [],[]=>True
 | v::vs,p::ps=>(∃ b o m,v=.ref b/\h.get? b=some o/\o.cls=.type "tuple"/\o.data=.seq #[.int p.1 p.2.1,p.2.2] m)/\Tps h vs ps
 | _,_=>False
theorem Tps.len {h:Heap}:∀ {vs:List Value}{ps:List _},Tps h vs ps->ps.length=vs.length
 | [],[],_=>rfl
 | _::_,_::_,⟨_,t⟩=>by rw [length_cons,length_cons,Tps.len t]
 | [],_::_,t=>t.elim
 | _::_,[],t=>t.elim
theorem Tps.get {h:Heap}:∀ {vs:List Value}{ps:List (Int×Tok×Value)},Tps h vs ps->∀ i,i<vs.length->∃ p b o m,ps[i]?=some p/\vs.getD i .none=.ref b/\h.get? b=some o/\o.cls=.type "tuple"/\o.data=.seq #[.int p.1 p.2.1,p.2.2] m
 | _::_,p::_,⟨⟨b,o,m,e1,e2,e3,e4⟩,_⟩,0,_=>⟨p,b,o,m,rfl,by rw [e1];rfl,e2,e3,e4⟩
 | _::vs,_::ps,⟨_,t⟩,i+1,hi=>by obtain ⟨p,b,o,m,e1,e2,e3⟩:=Tps.get t i (by simpa using hi);exact ⟨p,b,o,m,by simpa using e1,by simpa using e2,e3⟩
 | [],[],_,_,hi=>by simp at hi
 | [],_::_,t,_,_=>t.elim
 | _::_,[],t,_,_=>t.elim
theorem Tps.mono {h h':Heap}:∀ {vs:List Value}{ps:List (Int×Tok×Value)},Tps h vs ps->(∀ b o,Value.ref b∈vs->h.get? b=some o->h'.get? b=some o)->Tps h' vs ps
 | [],[],_,_=>trivial
 | _::_,_::_,⟨⟨b,o,m,e1,e2,e3⟩,t⟩,k=>⟨⟨b,o,m,e1,k b o (by rw [e1];exact mem_cons_self) e2,e3⟩,Tps.mono t fun b o hb=>k b o (mem_cons_of_mem _ hb)⟩
 | [],_::_,t,_=>t.elim
 | _::_,[],t,_=>t.elim
theorem Tps.kat {h:Heap}:∀ {vs:List Value}{ps:List _},Tps h vs ps->KatTups h vs (ps.map fun p=>Value.int p.1 p.2.1)
 | [],[],_=>trivial
 | _::_,p::_,⟨⟨b,o,m,d,c,f,e⟩,t⟩=>⟨⟨b,o,_,m,d,c,f,e,rfl⟩,Tps.kat t⟩
 | [],_::_,t=>t.elim
 | _::_,[],t=>t.elim
noncomputable def ygc (ps:List (Int×Tok×Value)) (i:Nat):Int:=((ps[i]?).map (·.1)).getD 0
theorem ysf {ps:List _}(d:(ps.map (·.1)).Nodup) {i j:Nat}(c:i<ps.length) (b:j<ps.length) (e:ygc ps i=ygc ps j):i=j:=by
 unfold ygc at e;rw [List.getElem?_eq_getElem c,List.getElem?_eq_getElem b] at e;have h1:i<(ps.map (·.1)).length:=by simpa using c
 have h2:j<(ps.map (·.1)).length:=by simpa using b
 exact (List.getElem_inj (h₀:=h1) (h₁:=h2) d).mp (by simpa using e)
section
variable {prog:Program}{w:World}{A:Around}{E:Value->Shared->Prop}{s:Shared}
theorem yyT {vs:List Value}{ps:List _}(c:Tps s.heap vs ps) (t:(ps.map (·.1)).Nodup) (i j:Nat) C (n:i<vs.length) (l:j<vs.length) (f:C (ltK (ygc ps) i j) s) :
  kas_ask prog w A (tuples' true) vs i j C s:=by
 obtain ⟨p,b,o,m,k,q,z,D,v⟩:=c.get i n;obtain ⟨d,G,H,m',h,u,r,F,B⟩:=c.get j l;have k1:ygc ps i=p.1:=by unfold ygc;rw [k];rfl
 have k2:ygc ps j=d.1:=by unfold ygc;rw [h];rfl
 unfold ltK at f;rw [k1,k2] at f;unfold kas_ask;rw [q,u];refine kat_lt z v r B ?_;refine kat_cons (L2.eqAt_V (y:=.int p.1) (x:=.int d.1) ⟨_,rfl⟩ ⟨_,rfl⟩ rfl rfl prog w _ _ ?_);show KatGo prog w A true _ C _ _ _ 0 (p.1 == d.1) s
 by_cases e:p.1=d.1
 .rw [beq_iff_eq.mpr e];have g:i=j:=ysf t (by rw [c.len];exact n) (by rw [c.len];exact l) (by rw [k1,k2,e]);subst g;rw [k] at h;cases h;refine kat_yes (kat_cons (SeqAt.EqAt.same _ prog w _ _ (kat_yes (kat_nil ?_))));grind
 .rw [beq_eq_false_iff_ne.mpr e];exact kat_no (oneLt_int f)
theorem yvp {a:Addr}{vs:List Value}{ps:List (Int×Tok×Value)}{n:Nat}{P:PySem.Fin->Shared->Prop}(B:s.heap.get? a=some (seqObj "list" vs.toArray n)) (R:Tps s.heap vs ps) (V:Value.ref a∉vs) (Y:(ps.map (·.1)).Nodup) (F:vs.length<64)
  (h:∀ q:Array Nat,q.Perm (toArray (List.range vs.length))->Up (ygc ps) q vs.length->P (.done (.ret .none)) { s with heap:=sortedHeap s.heap a vs (toArray (q.toList.map fun i=>vs.getD i Value.none)) }) :
  wpAny (model prog w) A (Builtin.«list.sort» ⟨[.ref a],[]⟩) P E s:=by
 have ha:a<s.heap.objs.size:=Heap.lt_size B;have u:vs.length<=sizeLine:=by rw [sizeLine_eq];omega
 rw [list_sort_plain];obtain ⟨H,l⟩:∃ H,(s.heap.update a (Obj.mapSeq fun _=>(#[]:Array Value))).get? a=some (seqObj "list" #[] H):=⟨_,get?_update_seq B _⟩
 refine wpAny_bind (listItems_at B rfl (wpAny_bind (listUpdate_at B rfl (wpAny_bind (seqEpoch_at l rfl (wpAny_bind (wpAny_newTuple (wpAny_bind (wpAny_newList (wpAny_holding ?_) (zero_le _))) (by simpa using u))))) (by simpa using u) (zero_le _))));generalize I:((s.heap.update a (Obj.mapSeq fun _=>(#[]:Array Value))).push (seqObj "tuple" vs.toArray 0)).push (seqObj "list" #[] 0)=g;have t:∀ b o,b≠a->s.heap.get? b=some o->g.get? b=some o:=fun b o L e=>by rw [<- I];exact Heap.get?_push_of_some _ (Heap.get?_push_of_some _ ((Heap.get?_update_other _ _ (Ne.symm L)).trans e))
 have d:g.get? a=some (seqObj "list" #[] H):=by rw [<- I];exact Heap.get?_push_of_some _ (Heap.get?_push_of_some _ l)
 have k:Tps g vs ps:=R.mono fun b o L e=>t b o (fun z=>V (z ▸ L)) e
 show wpAny (model prog w) A _ P E { s with heap:=g };dsimp only;have m:=fun q h1 h2=>by have:=h q h1 h2;unfold sortedHeap at this;rw [I] at this;exact this
 by_cases h2:vs.toArray.size<2
 .rw [if_pos h2,if_pos h2];refine wpAny_bind (wpAny_pure ?_);rw [StateT.run_pure];have hz:((arrOf (SortSt.mk' general' (vs.toArray.zip vs.toArray) #[] 7 none)).map (·.2))=toArray ((toArray (List.range vs.length)).toList.map fun i=>vs.getD i Value.none):=by
   show (vs.toArray.zip vs.toArray).map (·.2)=_;apply Array.toList_inj.mp;simp only [Array.toList_map,Array.toList_zip,List.map_snd_zip (Nat.le_refl _)];apply List.ext_getElem
   .simp
   .intro i Z h4;simp;rw [List.getElem?_eq_getElem (by simpa using Z)];rfl
  refine wpAny_bind (wpAny_pure (wpAny_bind (seqEpoch_at d rfl (wpAny_bind (listUpdate_at d rfl ?_ (zero_le _) ?_)))))
  .dsimp only;rw [hz];simp only [bne_self_eq_false,Bool.false_eq_true,if_false];exact wpAny_pure (m _ (Array.Perm.refl _) fun i j U O=>by rw [show i=j by (simp at h2);omega];exact Int.le_refl _)
  .rw [hz];simp;omega
 .rw [if_neg h2,if_neg h2];have N:2<=vs.length:=by simp at h2;omega
  refine wpAny_bind (kat_kind (s:={ s with heap:=g }) (T:=.type "int") k.kat (by rw [length_map,R.len];omega) (fun v X=>?_) rfl ?_)
  .obtain ⟨p,_,rfl⟩:=List.mem_map.mp X;exact .now
  have y:=kat_run (prog:=prog) (w:=w) (A:=A) (E:=E) (s:={ s with heap:=g }) (κ:=tuples' true) (ks:=vs) (vs:=vs)
   (Q:=fun f s'=>s'={ s with heap:=g }/\∃ q:Array Nat,q.Perm (toArray (List.range vs.length))/\Up (ygc ps) q vs.length/\(arrOf f).map (·.2)=toArray (q.toList.map fun i=>vs.getD i Value.none)/\failedOf f=none)
   (G:=fun q s'=>s'={ s with heap:=g }/\q.Perm (toArray (List.range vs.length))/\Up (ygc ps) q vs.length) rfl N F
   (fun q f s' J M D r=>⟨r.1,q,r.2.1,r.2.2,kat_snds rfl M,D⟩)
   (yBP (P:=(· < vs.length)) (lt:=ltK (ygc ps)) (fun i j C S O W=>yyT k Y i j C S O W) _ (yyS (by omega)) ⟨rfl,(ysd (by omega)).1,(ysd (by omega)).2⟩)
  refine wpAny_bind (wpAny_mono y ?_ fun _ _ x=>x);rintro ⟨⟨⟩,f⟩ s' ⟨rfl,q,J,M,D,r⟩;refine wpAny_bind (seqEpoch_at d rfl (wpAny_bind (listUpdate_at d rfl ?_ (zero_le _) ?_)))
  .dsimp only;rw [D,r];simp only [bne_self_eq_false,Bool.false_eq_true,if_false];exact wpAny_pure (m q J M)
  .dsimp only;rw [D];have:=J.size_eq;simp at this ⊢;omega
end
end KasS
namespace PXS
open PySem L2 PySem.Spec PyProof.Rows KasS PX
theorem yvq {P:Program}{w:World}{H:Hp}{h:Heap}{a:Addr}{o:HO}(x:ObjOk P w H h a o):∃ u,h.get? a=some u:=by
 cases o with
 | lst xs=>obtain ⟨_,_,_,_,e⟩:=x;exact ⟨_,e⟩
 | tup xs=>obtain ⟨_,_,_,ob,e,_⟩:=x;exact ⟨_,e⟩
 | dK kvs=>obtain ⟨_,_,_,_,o,_,_,e,_⟩:=x;exact ⟨_,e⟩
 | dT kvs=>obtain ⟨_,_,_,_,o,_,_,e,_⟩:=x;exact ⟨_,e⟩
 | set S n=>obtain ⟨o,_,_,_,e,_⟩:=x;exact ⟨_,e⟩
 | ins C dx fs=>obtain ⟨_,_,_,e,_⟩:=x;exact ⟨_,e⟩
 | own y=>obtain ⟨_,e⟩:=x;exact ⟨_,e⟩
 | xd fs=>obtain ⟨_,⟨_,_,_,e,_⟩,_⟩:=x;exact ⟨_,e⟩
 | rng lo hi=>obtain ⟨_,_,_,e⟩:=x;exact ⟨_,e⟩
 | frz ob u=>obtain ⟨e,_⟩:=x;exact ⟨_,e⟩
 | tbl ps=>exact ⟨_,x⟩
 | met f y=>exact ⟨_,x⟩
 | ext O=>obtain ⟨_,⟨_,e⟩,_⟩:=x;exact ⟨_,e⟩
section
variable {X:Cx}
theorem yvr:MtM X "dict.items" ywP:=by intro c s Z H x vs v us Q I j l h;obtain ⟨d,kvs,rfl,rfl,g,q⟩:=h;cases j;have b:=l.zero;subst b;obtain ⟨z,i,ws,m,f⟩:=I.hok d _ g;refine call_meetsIn PySem.F.slot_dict_items f.typeIs PySem.F.entry_dict_items (PySem.F.args_dict_items_1 _) (meets_dict_items _ d i) ⟨⟨ws,f⟩,?_⟩;refine ⟨.ref _,_,I.laid (o:=ypN s.heap.objs.size d) (fun _ _ q=>Heap.get?_push_of_some _ q) (Nat.le_refl _) ⟨Heap.get?_push_size _ rfl,⟨_,Heap.get?_push_size _ rfl⟩,fun h1 h2 e k=>k _ e⟩,rfl,q _ I.fresh⟩
theorem yyU {d:List _}{Z:L2.St}{H f:Hp}{s:Shared}{h':Heap}{t':Nat}(I:Inv X d Z H s) (k:∀ b u,s.heap.get? b=some u->h'.get? b=some u) (sub:∀ b o,H b=some o->f b=some o)
  (h:∀ b o,H b=none->f b=some o->s.heap.get? b=none/\ObjOk X.prog X.w f h' b o):Inv X d Z f { s with heap:=h',toks:=t' }:=by
 refine I.un ⟨fun b u q _ _ _=>k b u q,fun b u q _ _ _=>⟨u.slots,k b u q⟩,fun b u q n _=>?_,fun b u q _=>⟨u,k b u q⟩,fun b xs q=>sub _ _ q,fun b u xs q=>sub _ _ q,fun b ps q=>⟨#[],by rw [sub _ _ q];simp⟩⟩ fun b o e=>?_
 .cases e:f b with
  | none=>rfl
  | some o=>simp_all
 .cases g:H b with
  | none=>exact (h b o g e).2
  | some u =>
   have:=sub _ _ g;rw [e] at this;cases this;exact (I.hok b o g).stay (fun c v _ q=>k c v q) (fun c q=>sub _ _ q) fun c xs q=>sub _ _ q
theorem ywY {h:Heap}:∀ (as:List Addr) (ws:List (Key×Value)) (ns:List Int),as.length=ws.length->ws.map (·.1)=ns.map Sum.inl ->
  (∀ (j:Nat) (a:Addr),as[j]?=some a->∃ key k x,ws[j]?=some (k,x)/\ymL k key=true/\h.get? a=some { cls:=.type "tuple",data:=.seq #[key,x] }) ->
  ∃ ps,Tps h (as.map Value.ref) ps/\ps.map (·.1)=ns/\ps.map (·.2.2)=ws.map (·.2)
 | [],[],ns,_,e,_=>⟨[],trivial,by cases ns with|nil=>rfl|cons=>simp at e,rfl⟩
 | [],_::_,_,hl,_,_=>by simp at hl
 | _::_,[],_,hl,_,_=>by simp at hl
 | a::as,(k,x)::ws,ns,hl,e,hp=>by
  cases ns with
  | nil=>simp at e
  | cons n ns =>
   simp only [map_cons,List.cons.injEq] at e;obtain ⟨ps,t,e1,e2⟩:=ywY as ws ns (by simpa using hl) e.2 fun j b hb=>by obtain ⟨key,k',x',f1,f2,f3⟩:=hp (j+1) b (by simpa using hb);exact ⟨key,k',x',by simpa using f1,f2,f3⟩
   obtain ⟨key,k',x',f1,f2,f3⟩:=hp 0 a rfl;simp at f1;obtain ⟨rfl,rfl⟩:=f1;obtain ⟨j,tk,g1,rfl⟩:∃ j tk,k=Sum.inl j/\key=Value.int j tk:=by
    rcases ybu f2 with ⟨j,tk,g1,g2⟩|⟨y,tk,g1,g2⟩
    .exact ⟨j,tk,g1,g2⟩
    .rw [g1] at e;cases e.1
   rw [g1] at e;obtain rfl:j=n:=by injection e.1
   exact ⟨(j,tk,x)::ps,⟨⟨a,_,_,rfl,f3,rfl,rfl⟩,t⟩,by rw [map_cons,e1],by rw [map_cons,e2];rfl⟩
theorem yex {Z:Type}:∀ {d:List Addr}{ts:List Z}{b:Addr}{t:Z},(d.zip ts).lookup b=some t->∃ j:Nat,d[j]?=some b/\ts[j]?=some t
 | [],_,_,_,h=>by simp at h
 | _::_,[],_,_,h=>by simp at h
 | a::d,u::ts,b,t,h=>by
  rw [zip_cons_cons,lookup_cons] at h;split at h
  .rename_i e;cases h;exact ⟨0,by rw [eq_of_beq e];rfl,rfl⟩
  .obtain ⟨j,h1,h2⟩:=yex h;exact ⟨j+1,by simpa using h1,by simpa using h2⟩
theorem yoY:∀ {kvs:List (Key×V)}{ws:List _},KV kvs ws->ws.map (·.1)=kvs.map (·.1)/\∀ i,i<kvs.length->RelV ((kvs.map (·.2)).getD i .non) ((ws.map (·.2)).getD i .none):=by
 intro kvs ws h
 induction h with
 | nil=>exact ⟨rfl,fun i b=>rfl⟩
 | @cons p q _ _ h1 _ ih =>
  refine ⟨by rw [map_cons,map_cons,ih.1,h1.1],fun i b=>?_⟩;cases i with
  | zero=>exact h1.2
  | succ i=>simpa using ih.2 i (by simpa using b)
theorem yoZ {Z:Type}{f:Z->V}{g:Z->Value}:∀ {l:List Z},(∀ i∈l,RelV (f i) (g i))->Vals (l.map f) (l.map g)
 | [],_=>.nil
 | i::l,h=>.cons (h i mem_cons_self) (yoZ fun j hj=>h j (mem_cons_of_mem _ hj))
theorem yhr (hc:X.calm=true):yfA X (.builtin "sorted") rSI:=by
 intro pins s K H xs us Q I rr hh;obtain ⟨r,d,kvs,ns,rfl,hr,hd,hk,h64,q⟩:=hh;obtain ⟨u,rfl,rx⟩:=vals1 rr;cases rx;obtain ⟨W,_,_⟩:=I.hok r _ hr;obtain ⟨z,sy,ws,kv,hD⟩:=I.hok d _ hd;obtain ⟨ep,hat⟩:=hD.dictAt;obtain ⟨M,kv2⟩:=yoY kv;have lw:ws.length=kvs.length:=by have:=congrArg length M;simpa using this
 have ln:ns.length=kvs.length:=by have:=congrArg length hk;simpa using this.symm
 have nd:ns.Nodup:=by obtain ⟨_,_,_,_,_,_,_,_,n⟩:=hD;rw [M,hk] at n;exact (List.pairwise_map.mp n).imp fun h e=>h (by rw [e])
 refine Calls.call_function_entry kind_sorted plain_sorted entry_sorted (args_sorted1 _) ?_;unfold Builtin.«sorted»;refine wpAny_bind (m:=checkCount "sorted" 1 1 _) (wpAny_pure ?_);refine wpAny_bind (PySem.W.kdx_collect (A:=X.A.in1) (knd:=ycP X.prog X.w) (kvs:=ws) (ep:=ep) (I.ok.hd hc) ⟨_,W,rfl,rfl⟩ hat (by rw [lw];exact z) fun h' P g N hl hG=>wpAny_bind (wpAny_newList ?_ (by rw [length_map,hl,lw];exact z)));obtain ⟨ps,tp,e1,G⟩:=ywY (h:=h') g ws ns hl (by rw [M,hk]) fun j a v=>hG.pairs j a v
 have la:g.length=ns.length:=by omega
 have U:∀ a∈g,s.heap.objs.size<a:=hG.above;have F:∀ a∈g,a<h'.objs.size:=fun a v=>hG.there v
 generalize hB:h'.objs.size=B at *;have L:s.heap.get? B=none:=by
  cases e:s.heap.get? B with
  | none=>rfl
  | some o=>exact absurd (Heap.lt_size (N B o e)) (by rw [hB];exact lt_irrefl _)
 have T:∀ a∈g,s.heap.get? a=none:=fun a v=>Heap.get?_none_of_le (le_of_lt (U a v))
 have D:∀ b,s.heap.get? b=none->H b=none:=fun b e=>by
  cases G:H b with
  | none=>rfl
  | some o=>obtain ⟨u,hu⟩:=yvq (I.hok b o G);rw [e] at hu;cases hu
 have Y:(h'.push { cls:=.type "list",data:=.seq (g.map Value.ref).toArray }).get? B=some (seqObj "list" (g.map Value.ref).toArray 0):=by rw [<- hB];exact Heap.get?_push_size _ rfl
 refine wpAny_bind (wpAny_holding (wpAny_call_entry PySem.F.slot_list_sort ⟨_,Y,rfl⟩ PySem.F.entry_list_sort ?body (PySem.F.args_list_sort_1 _)))
 case body =>
  refine yvp (s:={ s with heap:=h'.push { cls:=.type "list",data:=.seq (g.map Value.ref).toArray },toks:=P }) (ps:=ps) Y (tp.mono fun b o _ e=>Heap.get?_push_of_some _ e) (fun z=>?_) (by rw [e1];exact nd) (by rw [length_map];omega) fun w z1 z2=>?_
  .obtain ⟨a,v,e⟩:=List.mem_map.mp z;cases e;exact absurd (F B v) (lt_irrefl _)
  refine ⟨_,rfl,wpAny_pure ⟨_,rfl,?_⟩⟩;have lq:w.toList.length=ns.length:=by have:=z1.size_eq;simpa [la] using this
  have pq:w.toList.Perm (List.range ns.length):=by have:=Array.perm_iff_toList_perm.mp z1;simpa [la] using this
  have E:∀ i∈w.toList,i<ns.length:=fun i C=>by have:=pq.mem_iff.mp C;simpa using this
  have nda:g.Nodup:=hG.rise.imp fun h=>ne_of_lt h
  have ndq:w.toList.Nodup:=pq.nodup_iff.mpr List.nodup_range;generalize hS:sortedHeap (h'.push { cls:=.type "list",data:=.seq (g.map Value.ref).toArray }) B (g.map Value.ref) (toArray (w.toList.map fun i=>(g.map Value.ref).getD i Value.none))=S;have hFa:∀ b o,b≠B->h'.get? b=some o->S.get? b=some o:=fun b o hb e=>by rw [<- hS];unfold sortedHeap;exact (Heap.get?_update_other _ _ (Ne.symm hb)).trans (Heap.get?_push_of_some _ (Heap.get?_push_of_some _ ((Heap.get?_update_other _ _ (Ne.symm hb)).trans (Heap.get?_push_of_some _ e))))
  have hFB:∃ c,S.get? B=some (seqObj "list" (toArray (w.toList.map fun i=>(g.map Value.ref).getD i Value.none)) c):=by rw [<- hS];unfold sortedHeap;exact ⟨_,get?_update_seq (Heap.get?_push_of_some _ (Heap.get?_push_of_some _ (get?_update_seq Y _))) _⟩
  have hF:∀ b o,s.heap.get? b=some o->S.get? b=some o:=fun b o e=>hFa b o (fun z=>by rw [z,L] at e;cases e) (N b o e)
  have p:∀ i,i<ns.length->∃ a,g[i]?=some a/\g.getD i 0=a/\a∈g:=fun i C=>by
   have h1:i<g.length:=by omega
   exact ⟨g[i],List.getElem?_eq_getElem h1,by simp [getD,List.getElem?_eq_getElem h1],getElem_mem h1⟩
  have O:∀ a∈(w.toList.map fun i=>g.getD i 0),a∈g:=fun a v=>by obtain ⟨i,C,rfl⟩:=List.mem_map.mp v;obtain ⟨a,_,e,m⟩:=p i (E i C);rw [e];exact m
  have neB:∀ a∈g,a≠B:=fun a v=>ne_of_lt (F a v)
  have Z:∀ i,ygc ps i=ns.getD i 0:=fun i=>by unfold ygc;rw [<- e1];simp [getD]
  refine ⟨.ref B,yDe H B (w.toList.map fun i=>g.getD i 0) (w.toList.map fun i=>[V.int (ns.getD i 0),(kvs.map (·.2)).getD i .non]),?_,rfl,q B _ w.toList pq ?_ nd (by simp) ?_ ?_⟩
  .show L2.Inv X pins K _ { s with heap:=S,toks:=P };refine yyU I hF (fun b o e=>?_) fun b o e G=>?_
   .unfold yDe upd yoJ;rw [if_neg fun z=>by rw [z,D _ L] at e;cases e];cases e3:List.lookup b ((w.toList.map fun i=>g.getD i 0).zip (w.toList.map fun i=>[V.int (ns.getD i 0),(kvs.map (·.2)).getD i .non])) with
    | none=>exact e
    | some t =>
     obtain ⟨j,l,_⟩:=yex e3;rw [D _ (T b (O b (mem_of_getElem? l)))] at e;cases e
   .unfold yDe upd yoJ at G;split at G
    .rename_i hb;subst hb;cases G;obtain ⟨c,hc⟩:=hFB;refine ⟨L,by simp [lq];rw [ln];exact z,_,c,?_,hc⟩;rw [map_map];refine yoZ fun i C=>?_
     obtain ⟨a,f1,f2,_⟩:=p i (E i C);show RelV (V.ref (g.getD i 0)) _;rw [f2];simp [getD,f1];rfl
    .split at G
     .rename_i t e3;cases G;obtain ⟨j,l,J⟩:=yex e3;rw [getElem?_map] at l J;cases e4:w.toList[j]? with
      | none=>rw [e4] at l;cases l
      | some i =>
       rw [e4] at l J;have C:=E i (mem_of_getElem? e4);obtain ⟨a,f1,f2,f3⟩:=p i C;simp only [Option.map_some,Option.some.injEq] at l J;rw [f2] at l;subst l;subst J;obtain ⟨key,k,x,w1,w2,w3⟩:=hG.pairs i a f1;have wk:k=Sum.inl (ns.getD i 0):=by
        have h1:(ws.map (·.1))[i]?=some k:=by rw [getElem?_map,w1];rfl
        rw [M,hk,getElem?_map] at h1;rw [List.getElem?_eq_getElem C] at h1;simp [getD,List.getElem?_eq_getElem C] at h1 ⊢;exact h1.symm
       obtain ⟨tk2,rfl⟩:∃ P,key=Value.int (ns.getD i 0) P:=by
        rcases ybu w2 with ⟨j,P,l,J⟩|⟨y,P,l,J⟩
        .rw [wk] at l;cases l;exact ⟨P,J⟩
        .rw [wk] at l;cases l
       have wx:(ws.map (·.2)).getD i .none=x:=by simp [getD,w1]
       refine ⟨T a f3,by simp [sizeLine_eq],[_,x],.cons ⟨_,rfl⟩ (.cons ?_ .nil),_,hFa a _ (neB a f3) w3,rfl,_,rfl⟩;rw [<- wx];exact kv2 i (by omega)
     .rw [e] at G;cases G
  .refine List.pairwise_iff_getElem.mpr fun i j C hj R=>?_
   have:=z2 i j (le_of_lt R) (by simpa [la,lq] using hj);unfold Kp at this;rw [Z,Z] at this;have hi':i<w.size:=by simpa using C
   have hj':j<w.size:=by simpa using hj
   rw [Array.getElem?_eq_getElem hi',Array.getElem?_eq_getElem hj'] at this;simpa using this
  .intro a v;rcases mem_cons.mp v with rfl|v
   .exact D _ L
   .exact D _ (T a (O a v))
  .refine List.nodup_cons.mpr ⟨fun h=>neB _ (O _ h) rfl,?_⟩;refine List.pairwise_map.mpr (ndq.imp_of_mem fun {i j} C hj R e=>R ?_);obtain ⟨a,f1,f2,_⟩:=p i (E i C);obtain ⟨b,l,J,_⟩:=p j (E j hj);rw [f2,J] at e;subst e;exact (List.getElem?_inj (by have:=E i C;omega) nda).mp (f1.trans l.symm)
variable {A:Nat->Addr}{o:Expr}{xa:XE}{pos p apos cpos:Pos}{x:Str}
theorem z_sortI (h:ZE X A o xa) (j:X.mg x=none) (i:X.calm=true:=by rfl) (m:Nm x:=by exact ⟨by rfl',by rfl',by rfl'⟩) (f:Gl X x:=by rfl) (g:bootBuiltins x=some (.builtin "sorted"):=by rfl') (b:attributeBase o "items" X.env (eval o X.env)=eval o X.env:=by rfl) (c:(apos.endLine == cpos.line)=true:=by rfl) (e:starEach [.Call (.Attribute o "items" apos) [] [] cpos] X.env=(false,eval (.Call (.Attribute o "items" apos) [] [] cpos) X.env)::starEach [] X.env:=by rfl) (d:(backTo pos (starEach [] X.env)).any (·.1)=false:=by rfl) :
  ZO X A (.Call (.Name x p) [.Call (.Attribute o "items" apos) [] [] cpos] [] pos) (yjw xa) :=
 wO (yjO (yhr i) f j g (yfC (ywy PySem.F.plainAttrs_dict PySem.F.slot_dict_items PySem.F.type_dict_items yvr h.of b c) yjn e) m.n m.d e d) (yrI sE)
end
end PXS
namespace PX
open PySem L2 PySem.Spec PyProof.Rows
section
theorem yvs {P:Program}{w:World}{K:PySem.W.Frag}{O:Expr}(a l:Addr) (m:Nat):Turn P w K O (ItR K a m) [l] l (fun i h=>i<=m/\h.IsRevIter l a ((m:Int)-1-(i:Nat))) where
 mem:=by simp
 obj:=fun i h st b n=>by
  have e:b=l:=by simpa using n
  subst e;obtain ⟨_,o,e,c,d⟩:=st;simp_all
 keep:=fun i h h' st k=>⟨st.1,st.2.at fun o e=>k l (by simp) o e⟩
 item:=by
  intro X J G F C i q s σ H E I r st t;subst J G F;obtain ⟨Z,xs,x,D,B⟩:=t;obtain ⟨its,Y,p,hz⟩:=I.list D;obtain ⟨u,S,Q⟩:=Y.get B;obtain ⟨f0,z,T,A,v,y⟩:=r l (by simp);have U:(m:Int)-1-(i:Nat)=((m-1-i:Nat):Int):=by omega
  have g:=st.2;rw [U] at g;refine wpAny_pyNext_rev_item g p.isList (x:=u) (by simpa using S) fun h' j W=>?_
  have L:=I.turned (t':=s.toks) (fun b o n e=>(W.2 b n).trans e) f0 z A v y;obtain ⟨o,e,c,d⟩:=id j;have R:((m-1-i:Nat):Int)-1=(m:Int)-1-((i+1:Nat):Int):=by omega
  rw [R] at j;exact ⟨u,rfl,yqt e c d (by decide) ⟨x,H,L,Q,⟨rfl,fun ys N=>by rw [I.list_inj N D];exact B⟩,⟨Z,j⟩,fun b n=>(r b n).1⟩⟩
 done:=by intro X J G F C i q s σ H E I r st t;obtain rfl:i=m:=t;obtain ⟨f0,z,T,A,v,y⟩:=r l (by simp);have g:=st.2;rw [show (i:Int)-1-(i:Nat)=-1 by omega] at g;exact wpAny_pyNext_rev_end (I.ok.hd C) g fun h' M=>⟨rfl,I.turned (fun b o n e=>M b o n e) f0 z A v y⟩
 self:=fun _ _ _ _ _ st h=>wpAny_pyIter_revIter st.2 h
variable {X:Cx}{A:Nat->Addr}{tg a:Expr}{p pos:Pos}{xa:XE}
theorem yBQ {j:TE}(m:Gl X "reversed") (v:X.mg "reversed" = none) (t:PE X a j) (n:starEach [a] X.env=(false,eval a X.env)::starEach [] X.env) (hs:starEach [a] X.env=[(false,eval a X.env)]):PI X tg (.Call (.Name "reversed" p) [a] [] pos) (yFG X.K j):=by
 intro d s Z H R I h;refine Call_ (ylf I m v ynH (PyProof.Rows.callWith_type1 (thn (yfC t yjn n pos d s Z H (fun vs f=>match vs with|[x]=>∃ b xs,x=.ref b/\SqL X.K f b xs/\R (ItR X.K b xs.length) f|_=>False) I h) fun us s1 ⟨vs,f,g,l,i⟩=>?_) hs rfl));cases l with
 | nil=>exact i.elim
 | cons r rr =>
  cases rr with
  | cons=>exact i.elim
  | nil =>
  obtain ⟨b,xs,e,u,q⟩:=i;subst e;cases r;obtain ⟨its,y,k,hz⟩:=g.list u;have hl:=y.length;refine call_reversed_list k.isList (wpAny_pyIter_revIter ⟨_,Heap.get?_push_size _ rfl,rfl,rfl⟩ ?_);refine ⟨s1.heap.objs.size,_,_,_,f,rfl,g.kept fun b o e=>Heap.get?_push_of_some _ e,yvs b _ xs.length,⟨zero_le _,_,Heap.get?_push_size _ rfl,rfl,?_⟩,fun b w=>?_,q⟩
  .show Data.fields _=Data.fields _;rw [hl];simp
  .have e:=by simpa using w
   subst e;exact g.fpOk (Nat.le_refl _) (g.hok.fresh (Nat.le_refl _))
theorem yyV {rest:List Stmt}{s:XS}{y:XG}(f:ZE X A a xa) (c:ZG X A tg y) (d:ZSs X A rest s) (hp:PassesOwn (model X.prog X.w) X.A X.env X.xe:=by exact PassesOwn.never) (e:X.calm=true:=by rfl) (hs:∀ x,foldedSetIterable a X.env x=pure x:=by exact fun _=>rfl):ZS X A (.For tg a rest [] pos) (ykm false xa y s) :=
 wS (yqx hp e (ymQ f.of) c.of d.of hs) (yvh sE sG sS)
theorem yyW {rest:List Stmt}{s:XS}{y:XG}{c:Pos}(k:X.mg "reversed" = none) (g:ZE X A a xa) (i:ZG X A tg y) (h:ZSs X A rest s) (hp:PassesOwn (model X.prog X.w) X.A X.env X.xe:=by exact PassesOwn.never) (f:X.calm=true:=by rfl) (d:Gl X "reversed":=by rfl) (j:starEach [a] X.env=(false,eval a X.env)::starEach [] X.env:=by rfl) (e:starEach [a] X.env=[(false,eval a X.env)]:=by rfl) (hs:∀ x,foldedSetIterable (.Call (.Name "reversed" p) [a] [] c) X.env x=pure x:=by exact fun _=>rfl):ZS X A (.For tg (.Call (.Name "reversed" p) [a] [] c) rest [] pos) (ykm true xa y s) :=
 wS (yqx hp f (yBQ d k g.of j e) i.of h.of hs) (yvi sE sG sS)
end
section
variable {X:Cx}{A:Nat->Addr}{a o:Expr}{xa xb:XE}{pos apos cpos:Pos}
theorem yBR:MtM X "dict.update" yFH:=by
 intro p s Z H x vs v us Q I r B h;obtain ⟨d,b,kvs,g,rfl,rfl,m,n,w,hz,q⟩:=h;cases r;obtain ⟨u,rfl,t⟩:=B.one;cases t;obtain ⟨z,D,vs,f,dd⟩:=yyy I.hok n;obtain ⟨E,k,j,e,l⟩:=yyy I.hok w;refine call_meetsIn PySem.F.slot_dict_update dd.typeIs PySem.F.entry_dict_update (PySem.F.args_dict_update_2 _ _) (meets_dict_update _ d b m k) ⟨vs,j,dd,l,by rw [<- f.length,<- e.length];exact hz,fun h' i _ hs=>?_⟩;have C:∃ q,h'.get? d=some q:=let ⟨q,_,_,y,_⟩:=i;⟨q,y⟩
 refine ⟨.non,_,ynx I (by rw [n];exact True.intro) hs C (ywL ?_ D (e.merge f) i),rfl,q⟩;exact Nat.le_trans (yga g kvs) hz
end
variable {X:Cx}{A:Nat->Addr}{x y:Str}{py spos:Pos}{iy:Nat}
theorem ypa {elt iter:Expr}{l:Pos}{scope:Scope}{g:Pos}{s:XA}{xe:XE}{ix:List Nat} j (B:ZI X A (.Name x l) iter s) (w:∀ k C c d fp b,ZE (cxC X scope k C (x::j) c d fp b) A elt xe) (u:X.calm=true:=by rfl) (o:FrOk X scope ix j:=by repeat' first|exact True.intro|exact rfl|refine And.intro ?_ ?_) (n:(x::j).Nodup:=by rfl') (i:scope.kind=.function:=by rfl) (h:∀ y∈scope.names,y.2≠.cell:=by rfl') (e:∀ y∈scope.names,y.2=.local->scope.names.lookup y.1=some .local:=by rfl') (f:∀ y∈scope.names,y.2=.free->y.1∈j:=by rfl') (t:scope.names.lookup x=some .local:=by rfl) (hs:∀ v,foldedSetIterable iter X.env v=pure v:=by exact fun _=>rfl) (z:X.N.Nodup:=by exact nd) (q:X.N[iy]?=some y:=by rfl) (m:Loc X.env.scope y:=by first|exact Or.inl rfl|exact Or.inr rfl) (r:X.fn y=true\/X.env.scope.names.lookup y=some .local:=by exact Or.inl rfl) (p:swapsWith (.ListComp elt [⟨.Name x l,iter,[],0⟩] scope g) (some (.Name y py)) spos.line X.env=pure true:=by rfl):ZS X A (.Assign [.Name y py] (.ListComp elt [⟨.Name x l,iter,[],0⟩] scope g) spos) (ybL (xFz (yfY s ix xe)) (yr iy)) :=
 wS (yED (yvm ix j u B.of o (fun k C c d fp b=>(w k C c d fp b).of) (fun _ _ _ _ _ _=>.nil) n i h e f t hs z q m r p)) (yrc (ywB (yos ix sI sE)) (yhU iy))
theorem yyX {k b:Nat}{f:Addr}{a:FuncData}{ps:List Str}{p pos:Pos}{c} (M:Mk X.K (A k) f) (F:FnOk X.prog X.w X.K X.mg X.base CX0 b f a ps (spI (ckX X A) 0 k c)) (g:X.mg x=some (.ref (A k))) (e:Binds X.K a ps []) (hr:Room (b+1) X.A:=by exact hr.mono (by omega)) (m:Nm x:=by exact ⟨by rfl',by rfl',by rfl'⟩) (d:Gl X x:=by rfl):ZO X A (.Call (.Name x p) [] [] pos) (yfG c yi) :=
 wO (ytY M F hr d g e .nil ylu m.d) (yox yjY yno)
end PX
namespace PX
open PySem L2 PySem.Spec PyProof.Rows KasS PXS
section
variable {X:Cx}{A:Nat->Addr}
theorem yhQ {vs:List Value}{ns:List Int}(h:IntsAre vs ns):Vals (ns.map V.int) vs:=by
 induction h with
 | nil=>exact .nil
 | cons n t _ ih=>exact .cons ⟨t,rfl⟩ ih
variable {a:Expr}{xa:XE}{aa:XA}{pos p:Pos}{x:Str}{n:Nat}
end
section
noncomputable def NF (X:Cx) (a:Addr):Prop:=∀ o u,X.H₀ a≠some (.frz o u)
theorem yFJ {X:Cx}{f:List _}{Z:L2.St}{H:Hp}{s:Shared}{d:Addr}{g u1:HO}(I:L2.Inv X f Z H s) (v:H d=some g) (B:∀ xs,g≠.tup xs) (A:∀ y,g≠.own y) (nb:∀ ps,g≠.tbl ps) (m:NF X d)
  (w:ObjOk X.prog X.w H s.heap d g->ObjOk X.prog X.w H s.heap d u1):L2.Inv X f Z (upd H d u1) s:=by
 have i:∀ {b:Addr},H b=none->upd H d u1 b=none:=fun {b} e=>(yO fun z=>by simp_all).trans e
 refine ⟨I.ok,I.os,I.bare,⟨I.base.keep,I.base.slot,fun b o e n t=>i (I.base.free b o e n t),I.base.there,fun b xs e=>?_,fun b o u e=>?_,fun b ps e=>?_⟩,I.loc,I.cell,i I.free,fun x c e=>i (I.freeC x c e),fun p hp=>?_,fun b u e=>?_,I.len⟩
 .have:=I.base.tups b xs e
  exact (yO fun z=>by simp_all).trans this
 .have:=I.base.frzs b o u e
  exact (yO fun z=>by subst z;exact m o u e).trans this
 .obtain ⟨h,this⟩:=I.base.tbls b ps e;exact ⟨h,(yO fun z=>by simp_all).trans this⟩
 .obtain ⟨h1,h2,r⟩:=I.pin p hp;exact ⟨h1,i h2,r⟩
 .have l:∀ c y,H c=some _->upd H d u1 c=some (.own y):=fun c y q=>(yO fun z=>by simp_all).trans q
  have k:∀ c xs,H c=some _->upd H d u1 c=some (.tup xs):=fun c xs q=>(yO fun z=>by simp_all).trans q
  by_cases j:b=d
  .subst j;rw [yK] at e;cases e;exact (w (I.hok b g v)).stay (fun _ _ _ q=>q) (fun c q=>l c b q) k
  .rw [yO j] at e;exact (I.hok b u e).stay (fun _ _ _ q=>q) (fun c q=>l c b q) k
theorem ysg {P:Program}{w:World}{K:PySem.W.Frag}{tg:Expr}(d t:Addr) (ob:Obj) (kvs:List (Key×V)) {es:Array DictEntry}{ep:Nat}(n:ob.data=.dict es ep):Turn P w K tg (ItD d ob kvs) [t] t (fun i h=>h.IsKeyIter t d i kvs.length ep) where
 mem:=by simp
 obj:=fun i h st b p=>by
  have e:b=t:=by simpa using p
  subst e;obtain ⟨o,e,c,q⟩:=st;exact ⟨o,e,fun v z=>by rw [q] at z;cases z⟩
 keep:=fun i h h' st k=>st.at fun o e=>k t (by simp) o e
 item:=by
  intro X hP L hK hc i m s σ H E I C st Z;subst hP L hK;obtain ⟨r,S⟩:=Z;obtain ⟨u,z,sy,ws,T,hD⟩:=I.hok d _ S;obtain ⟨M,f⟩:=hD.dictAt;obtain ⟨o',J,g,D,j,G⟩:=id f;rw [u] at g;cases g;rw [n] at j;cases j;obtain ⟨l,F⟩:=yoY T;have lw:ws.length=kvs.length:=by have:=congrArg length l;simpa using this
  have A:i<ws.length:=by omega
  obtain ⟨f0,R,f2,f3,Y,O⟩:=C t (by simp);rw [<- lw] at st;refine wpAny_pyNext_dict_item st f (k:=ws[i].1) (v:=ws[i].2) (List.getElem?_eq_getElem A) fun key h' B x sb=>?_
  have I1:L2.Inv X m σ H { s with heap:=h' }:=I.turned (t':=s.toks) (fun b o p e=>(sb.2 b p).trans e) f0 R f3 Y O;obtain ⟨o,e,c,q⟩:=id x;rw [lw] at x;have hk:(kvs[i]'r).1=ws[i].1:=by
   have h1:(ws.map (·.1))[i]?=(kvs.map (·.1))[i]?:=by rw [l]
   rw [getElem?_map,getElem?_map,List.getElem?_eq_getElem A,List.getElem?_eq_getElem r] at h1;exact (Option.some.inj h1).symm
  have Q:RelV (kV (kvs[i]'r).1) key:=by
   rw [hk];rcases ybu B with ⟨i,N,W,U⟩|⟨y,N,W,U⟩
   .rw [W,U];exact ⟨N,rfl⟩
   .rw [W,U];exact ⟨N,rfl⟩
  exact ⟨key,rfl,yqt (s:={ s with heap:=h' }) e c q (by decide) ⟨kV (kvs[i]'r).1,H,I1,Q,⟨rfl,_,List.getElem?_eq_getElem r,rfl⟩,x,fun b p=>(C b p).1⟩⟩
 done:=by
  intro X hP L hK hc i m s σ H E I C st Z;subst hP L hK;obtain ⟨r,S⟩:=Z;subst r;obtain ⟨u,z,sy,ws,T,hD⟩:=I.hok d _ S;obtain ⟨M,f⟩:=hD.dictAt;obtain ⟨o',J,g,D,j,G⟩:=id f;rw [u] at g;cases g;rw [n] at j;cases j;obtain ⟨l,F⟩:=yoY T;have lw:ws.length=kvs.length:=by have:=congrArg length l;simpa using this
  obtain ⟨f0,R,f2,f3,Y,O⟩:=C t (by simp);rw [<- lw] at st;exact wpAny_pyNext_dict_end (I.ok.hd hc) st f (by simp) fun h' eb=>⟨rfl,I.turned (t':=s.toks) (fun b o p e=>eb b o p e) f0 R f3 Y O⟩
 self:=fun _ _ _ _ _ st h=>wpAny_pyIter_keyiter st h
variable {X:Cx}{A:Nat->Addr}{tg a:Expr}{p pos:Pos}{xa:XE}
theorem yyY {n:TE}(y:PE X a n):PI X tg a (yBE (NF X) n):=by
 intro f s Z H R I h;refine thn (y f s Z H _ I h) fun v s1 ⟨x,M,i,L,B⟩=>?_
 obtain ⟨d,kvs,e,r,q⟩:=B;subst e;cases L;have m:NF X d:=fun o u z=>by have:=i.base.frzs d o u z;simp_all
 obtain ⟨z,D,ws,J,G⟩:=id (i.hok d _ r);obtain ⟨ep,g⟩:=G.dictAt;obtain ⟨ob,es,E,t,k,w⟩:=id g;obtain ⟨l,F⟩:=yoY J;have lw:=by have:=congrArg length l;simpa using this
 have j:=yFJ (u1:=.frz ob _) i r (fun _ z=>by cases z) (fun _ z=>by cases z) (fun _ z=>by cases z) m fun x=>⟨E,x⟩
 refine wpAny_pyIter_dict D g ?_;refine ⟨s1.heap.objs.size,_,_,_,_,rfl,j.kept fun b o e=>Heap.get?_push_of_some _ e,ysg d _ ob kvs k,⟨_,Heap.get?_push_size _ rfl,rfl,by rw [lw];rfl⟩,fun b C=>?_,q ob m⟩;have e:=by simpa using C
 subst e;exact j.fpOk (Nat.le_refl _) (j.hok.fresh (Nat.le_refl _))
end
end PX
namespace PX
open PySem L2 PySem.Spec PyProof.Rows
section
variable {X:Cx}{A:Nat->Addr}
theorem yyZ:MtR X "str.find" yqR:=by
 intro b s Z H x xs v us Q I f g h;obtain ⟨z,c,rfl,rfl,hz,d,q⟩:=h;obtain ⟨t,rfl⟩:=f;obtain ⟨u,rfl,i,rfl⟩:=vals1 g;rcases yqS z c with ⟨_,h2⟩|⟨r,h1,_⟩
 .exact absurd d h2
 .refine SC.find ?_;have e:Txt.find z ⟨#[c]⟩=(z.cps.toList.idxOf c:Int):=by unfold Txt.find;rw [h1]
  rw [e];exact ⟨.int _,H,I.tok _,⟨_,rfl⟩,q⟩
variable {pos p apos:Pos}{x m:Str}{e:Expr}{es:List Expr}{aa:XA}{n:Nat}
theorem yBS {a:Addr}{ss:List Str}(f:X.mg x=some (.ref a)) (c:KTp X.K a (ss.map V.str)) (nm:Nm x:=by exact ⟨by rfl',by rfl',by rfl'⟩) (d:Gl X x:=by rfl):ZE X A (.Name x pos) (xC (.tup (ss.map PV.str))):=wE (ync d f nm.d) (yvk c)
structure yvt (K:PySem.W.Frag) (C:Addr) (m:Str) (f:Addr):Prop where
 rd:PySem.W.readsIn K C (.type "type")=true
 fc:PySem.W.findCls K (.ref C) (.type "type") m=some (.val (.ref f))
 sp:PySem.W.specialIn K (.ref C) "__getattribute__" = some (some (.builtin "type.__getattribute__"))
 kp:keepIn K (.ref f)=true
theorem yza {C f:Addr}{k:Nat}{l:FuncData}{ps:List Str}{sp:Sp}{E:XK}{t:TA}{pl:Sem Bool}{CX:CXT}(c:yvt X.K C m f) (J:Gl X x) (N:X.mg x=some (.ref C)) (F:FnOk X.prog X.w X.K X.mg X.base CX k f l ps sp) (y:Room k X.A) (O:Binds X.K l ps []) (G:yfU CX X E) (L:PA X (e::es) t)
  (P:(x == "__debug__")=false)
  (i:starEach (e::es) X.env=(false,eval e X.env)::starEach es X.env) (g:(backTo pos (starEach es X.env)).any (·.1)=false)
  (B:eval (.Call (.Attribute (.Name x p) m apos) (e::es) [] pos) X.env=do
   let q <- eval (.Name x p) X.env
   standAt apos.atName
   let (f,first) <- holding [q] (getMethod q m pl)
   callWith pos f first (backTo pos (starEach (e::es) X.env)) (backToKw pos (keywordEach [] X.env))) :
  PE X (.Call (.Attribute (.Name x p) m apos) (e::es) [] pos) (ytV sp [] E t):=by
 intro b s Z H Q I h;refine PySem.W.methodCall_KW (thn (ync J N P b s Z H (fun v j=>v=.ref C/\j=H) I ⟨rfl,rfl⟩) fun u s1 ⟨v,j,d,z,w,D⟩=>?_) B;subst w D;obtain rfl:u=Value.ref C:=z;refine PySem.W.method_cls d.kIn c.sp (PySem.W.cls_value d.kIn c.rd c.fc rfl ?_);have d:=d.tok (s1.toks+1);refine PySem.W.callWith_K I.ok.mod.kin c.kp (thn (L pos b _ Z j _ d h) fun us s2 ⟨vs,R,o,r,M⟩=>⟨o.kIn,?_⟩) i g;exact ylj F y O .nil G o r M
theorem yzb {C f:Addr}{d k:Nat}{g:FuncData}{ps:List Str}{j} {pl:Sem Bool}{o:Expr}{sp:Pos}(c:yvt X.K C m f) (l:X.mg x=some (.ref C)) (F:FnOk X.prog X.w X.K X.mg X.base CX0 d f g ps (spJ (ckX X A) n k j)) (q:Binds X.K g ps []) (h:ZA X A es n aa) (nm:Nm x:=by exact ⟨by rfl',by rfl',by rfl'⟩) (u:Gl X x:=by rfl) (hr:Room d X.A:=by exact hr.mono (by omega)) (s:PE X o (yqh 0):=by exact yjj rfl (by first|exact Or.inl rfl|exact Or.inr (Or.inl rfl)) (by rfl') (by rfl')) (a:starEach (o::es) X.env=(false,eval o X.env)::starEach es X.env:=by rfl) (b:(backTo pos (starEach es X.env)).any (·.1)=false:=by rfl) (r:eval (.Call (.Attribute (.Name x p) m apos) (o::es) [] pos) X.env=(do
   let i <- eval (.Name x p) X.env
   standAt apos.atName
   let (f,first) <- holding [i] (getMethod i m pl)
   callWith pos f first (backTo pos (starEach (o::es) X.env)) (backToKw pos (keywordEach [] X.env))):=by rfl) (t:swapsWith (.Call (.Attribute (.Name x p) m apos) (o::es) [] pos) none sp.line X.env=pure false:=by rfl):ZF X A (.Expr (.Call (.Attribute (.Name x p) m apos) (o::es) [] pos) sp) (xBI k j aa) :=
 wF (yjM (yza c u l F hr q ylu (yfC s h.of a) nm.d a b r) t) (yyN sA h.len)
end
section
variable {P:Program}{w:World}{K:PySem.W.Frag}{mg:Str->Option Value}{base:Heap}{A:Nat->Addr}
theorem yGf {x b:Str}{st:Stmt}{f:Addr}{i:FuncData}{N ps:List Str}{k g n:Nat}{s:XS}(F:Fun K x b st f i) (S:yes N ps (ybK st)) (m:ps.length=n+1) (l:n+1<=N.length)
  (h:∀ c e outer d H E,Room k (e.deeper (envOfC b (ybK st) d.heap.objs.size f c))->ZFs (ytZ CX0 P w K mg base N b (ybK st) f c e outer d H E).nox A (yfD st) s) :
  FnOk P w K mg base CX0 (k+1) f i ps (spJ ⟨K,A⟩ n g (ymJ N.length g s)) :=
 F.ok S (fun _ _ _ _ h=>(yyM h).trans m.symm) fun c e outer d H vs Q E o j=>⟨_,(h c e outer d H E o).of,yrM l sF j⟩
end
open Builtin Builtin.Str in
section
variable {prog:Program}{w:World}{A:Around}{E:Value->Shared->Prop}{s:Shared}
theorem ypO {x y:Str}{t u:Tok}{Q:Value->Shared->Prop}(e:(y.length == 0)=false) (hz:x.length+2<=sizeLine)
  (h:∀ l k,l.map (·.1)=Txt.split x y->Q (.ref s.heap.objs.size) { s with heap:=s.heap.push { cls:=.type "list",data:=.seq (strValues l).toArray },toks:=k }) :
  wpAny (model prog w) A (call (.builtin "str.split") [.str x t,.str y u]) Q E s:=by
 have h2:(partsBetween x (occurrences x y 0 x.length (x.length+1)) y.length).length<=sizeLine:=by have:=StrLaws.occ_length_le x y 0 x.length (x.length+1);rw [length_partsBetween];omega
 by_cases b:(decide (x.length<y.length) || decide (strKind x<strKind y))=true
 .exact call_meets F.slot_str_split (typeIs_str _ _ _) F.entry_str_split (F.args_str_split_2 _ _) (meets_str_split_cannot_occur x y t u b) (h [(x,t)] s.toks (if_pos b).symm)
 .have c:(decide (x.length<y.length) || decide (strKind x<strKind y))=false:=by simpa using b
  by_cases d:(occurrences x y 0 x.length (x.length+1)).isEmpty=true
  .exact call_meets F.slot_str_split (typeIs_str _ _ _) F.entry_str_split (F.args_str_split_2 _ _) (meets_str_split_not_found x y t u c e d) (h [(x,t)] s.toks ((if_neg b).trans (if_pos d)).symm)
  .refine call_meets F.slot_str_split (typeIs_str _ _ _) F.entry_str_split (F.args_str_split_2 _ _) (meets_str_split_sep x y t u c e (by simpa using d) (by omega) h2) ?_;rw [strsFrom_eq];exact h _ _ ((numbered_texts _ _).trans ((if_neg b).trans (if_neg d)).symm)
end
theorem ypb z:Txt.split z " " = ywR z:=by have e:(" ":Str)=⟨#[32]⟩:=rfl;have h:=yie (Txt.split z " ") (fun q=>by have:=split_pos z " ";rw [q] at this;simp at this) (by exact StrLaws.split_free z 32);rw [StrLaws.join_split] at h;exact h.symm
theorem ymc:∀ l,Vals ((l.map (·.1)).map V.str) (strValues l)
 | []=>.nil
 | (_,t)::l=>.cons ⟨t,rfl⟩ (ymc l)
section
variable {X:Cx}{A:Nat->Addr}
theorem yvu:MtR X "str.split" ywS:=by
 intro c s Z H x xs v us Q I i j h;obtain ⟨z,rfl,rfl,hz,q⟩:=h;obtain ⟨t,rfl⟩:=i;obtain ⟨u,rfl,f⟩:=vals1 j;obtain ⟨t',rfl⟩:=f;have hs:z.length+2<=sizeLine:=by simp only [PySem.sizeLine_eq];omega
 refine ypO (rfl) hs fun l k e=>?_
 have g:=e.trans (ypb z);have d:=split_le z " ";rw [ypb] at d;refine ⟨.ref s.heap.objs.size,_,I.laid (fun b o e=>Heap.get?_push_of_some _ e) (Nat.le_refl _) ?_,rfl,q _ (I.hok.fresh (Nat.le_refl _))⟩;exact ⟨by rw [length_map];exact Nat.le_trans d hs,_,0,g ▸ ymc l,Heap.get?_push_size _ rfl⟩
end
section
variable {X:Cx}{A:Nat->Addr}{tg a:Expr}{p pos:Pos}{xa:XE}{x:Str}{es:List Expr}{aa:XA}{n:Nat}
theorem ysh {f:Addr}{g:FuncData}{ps:List Str}{c k:Nat}{e:Fn}(M:Mk X.K (A k) f) (F:FnOk X.prog X.w X.K X.mg X.base CX0 c f g ps (spE (ckX X A) (n+1+1) e)) (h:X.mg x=some (.ref (A k))) (j:Binds X.K g ps []) (d:ZA X A (a::es) (n+1) aa) (hr:Room (c+1) X.A:=by exact hr.mono (by omega)) (m:Nm x:=by exact ⟨by rfl',by rfl',by rfl'⟩) (l:Gl X x:=by rfl) (i:starEach (a::es) X.env=(false,eval a X.env)::starEach es X.env:=by rfl) (b:(backTo pos (starEach es X.env)).any (·.1)=false:=by rfl):ZE X A (.Call (.Name x p) (a::es) [] pos) (yjy k e aa) :=
 wE (yqH M F hr l h j .nil ylu d.of m.d i b) (yrQ sA d.len)
theorem ypc (hc:X.calm=true):yfA X (.builtin "any") yFI:=by
 intro pins s Z H xs us Q I r h;obtain ⟨p,bs,rfl,hp,q⟩:=h;obtain ⟨u,rfl,rx⟩:=vals1 r;cases rx;obtain ⟨its,n,rv,e,hz⟩:=I.lst hp;have eb:=yjR rv;subst eb;have hl:s.heap.IsList p (bs.map Value.bool).toArray:=⟨_,e,rfl,n,rfl⟩
 have hlt:p<s.heap.objs.size:=Heap.lt_size e;refine call_any_walk (wpAny_pyIter_list hl ?_);refine ⟨s.heap.objs.size,[s.heap.objs.size,p],[s.heap.objs.size],(bs.map Value.bool).toArray.size,_,_,fun i=>(bs[i]?).getD false,rfl,Walks.list (A:=X.A.in1) (I.ok.hd hc) _ p (ne_of_lt hlt) _,
  ⟨⟨_,Heap.get?_push_size _ rfl,rfl,rfl⟩,hl.push _⟩,fun i v s' Q' E' hP hQ=>?_,fun h' tk hk=>?_⟩
 .have hP:(bs.map Value.bool)[i]?=some v:=by simpa using hP
  rw [getElem?_map] at hP;cases eb:bs[i]? with
  | none=>rw [eb] at hP;cases hP
  | some b =>
   rw [eb] at hP;cases hP;simp only [eb,Option.getD_some] at hQ;exact wpAny_truthy_bool hQ
 .have ea:((List.range (bs.map Value.bool).toArray.size).any fun i=>(bs[i]?).getD false)=bs.any id:=by rw [size_toArray,length_map];exact LSm.range_any bs
  rw [ea];exact ⟨.bl _,H,I.kept (t':=tk) fun b o eo=>hk b o (fun hm=>by rw [List.mem_singleton.mp hm] at eo;exact absurd (Heap.lt_size eo) (lt_irrefl _)) (Heap.get?_push_of_some _ eo),rfl,q⟩
theorem yzc {elt iter:Expr}{t:Pos}{scope:Scope}{k:Pos}{xe:XE}{ix:List Nat} j (u:ZE X A iter xa) (q:∀ l C d e fp c,ZE (cxC X scope l C (x::j) d e fp c) A elt xe) (r:X.calm=true:=by rfl) (o:FrOk X scope ix j:=by repeat' first|exact True.intro|exact rfl|refine And.intro ?_ ?_) (m:(x::j).Nodup:=by rfl') (h:scope.kind=.function:=by rfl) (i:∀ y∈scope.names,y.2≠.cell:=by rfl') (f:∀ y∈scope.names,y.2=.local->scope.names.lookup y.1=some .local:=by rfl') (g:∀ y∈scope.names,y.2=.free->y.1∈j:=by rfl') (s:scope.names.lookup x=some .local:=by rfl) (hs:∀ v,foldedSetIterable iter X.env v=pure v:=by exact fun _=>rfl):ZO X A (.ListComp elt [⟨.Name x t,iter,[],0⟩] scope k) (yoP xa ix xe) :=
 wO (yyP (yko ix j r (ymQ u.of) o (fun l C d e fp c=>(q l C d e fp c).of) (fun _ _ _ _ _ _=>.nil) m h i f g s hs)) (yrR ix sE sE)
end
open KasS PXS
section
variable {X:Cx}{A:Nat->Addr}{xa:XE}{x:Str}
theorem yzd {elt iter:Expr}{p:Pos}{scope:Scope}{i:Pos}{xe:XE}{ix:List Nat} l (E:ZE X A iter xa) (t:∀ m C c e fp b,ZE (cxC X scope m C (x::l) c e fp b) A elt xe) (D:X.calm=true:=by rfl) (n:FrOk X scope ix l:=by repeat' first|exact True.intro|exact rfl|refine And.intro ?_ ?_) (o:(x::l).Nodup:=by rfl') (k:scope.kind=.function:=by rfl) (j:∀ y∈scope.names,y.2≠.cell:=by rfl') (f:∀ y∈scope.names,y.2=.local->scope.names.lookup y.1=some .local:=by rfl') (g:∀ y∈scope.names,y.2=.free->y.1∈l:=by rfl') (G:scope.names.lookup x=some .local:=by rfl) (hs:∀ v,foldedSetIterable iter X.env v=pure v:=by exact fun _=>rfl):ZO X A (.ListComp elt [⟨.Name x p,iter,[],0⟩] scope i) (ylY xa ix xe):=by
 have u:PE X (.ListComp elt [⟨.Name x p,iter,[],0⟩] scope i) (ywU (NF X) (cE (ckX X A) xa) ix (cE (ckX X A) xe)):=by
  intro b s Z H Q I h;refine thn (yyP (yko ix l D (yyY E.of) n (fun m C c e fp b=>(t m C c e fp b).of) (fun _ _ _ _ _ _=>.nil) o k j f g G hs) b s Z H _ I h) fun v s1 ⟨y,J,B,w,d,ob,kvs,r,F,q⟩=>?_
  exact ⟨y,_,yFJ B F (fun _ z=>by cases z) (fun _ z=>by cases z) (fun _ z=>by cases z) r fun x=>x.2,w,q⟩
 exact wO u (yrS ix sE sE)
end
end PX
namespace L2
open PySem
noncomputable def ygM {Z:Type}(xs:List Z) (k n:Nat):List Z:=(List.range xs.length).filterMap fun j=>xs[k+j*n]?
theorem ymd {Z:Type}(xs:List Z) k n:(ygM xs k n).length<=xs.length:=Nat.le_trans (List.length_filterMap_le _ _) (by simp_all)
def yFK (K:PySem.W.Frag):V->Option Int->Option Int->Hp->VK->Prop:=fun x lo st H Q=>∃ a xs,∃ k n:Nat,x=.ref a/\SqL K H a xs/\lo=some (k:Int)/\st=some (n:Int)/\1<=n/\∀ p,H p=none->Q (.ref p) (upd H p (.lst (ygM xs k n)))
end L2
namespace PX
open PySem L2
variable {K:Ck}
theorem RepL.pick {F:Hp}{m:List Addr}{xs:List PV}{vs:List V}(r:RepL K F m xs vs) (f:Nat->Nat):∀ l:List Nat,RepL K F m (l.filterMap fun j=>xs[f j]?) (l.filterMap fun j=>vs[f j]?)
 | []=>rfl
 | j::l=>by
  rw [List.filterMap_cons,List.filterMap_cons];cases e:xs[f j]? with
  | none =>
   rw [show vs[f j]?=none by rw [List.getElem?_eq_none_iff] at e ⊢;rw [r.len];exact e];exact r.pick f l
  | some x =>
   obtain ⟨v,h1,h2⟩:=r.get e;rw [h1];exact ⟨v,_,rfl,h2,r.pick f l⟩
noncomputable def yze:PV->Option Int->Option Int->AH->Option (Nd×AH):=fun x lo st h=>match listOf x h,lo,st with|some xs,some k,some n=>if 0<=k/\1<=n then some (.lst (ygM xs k.toNat n.toNat),h) else none|_,_,_=>none
theorem yEF:yor K (yFK K.K) yze:=by
 intro W x v i j Q d h' w h e q;unfold yze at e;split at e
 .rename_i xs k n g;split at e
  .rename_i f;cases e;obtain ⟨a,vs,ev,hs,c⟩:=yfh w g h;refine ⟨a,vs,k.toNat,n.toNat,ev,hs,by rw [Int.toNat_of_nonneg f.1],by grind,by omega,fun p hp=>yzZ w hp ?_ q⟩;unfold ygM;rw [c.len];exact c.pick _ _
  .cases e
 .cases e
end PX
namespace L2
open PySem PySem.W PySem.Calls PyProof.Rows
section
variable {X:Cx}{te:TE}{tl th:TO}{e:Expr}{lo:Option Expr}{st:Expr}{p2 pos:Pos}
theorem ysi (its:List Value) (k n:Nat) (g:1<=n):slicePick its.toArray (some (k:Int)) none (some (n:Int))=(ygM its k n).toArray:=by
 unfold slicePick ygM;have hp:(n:Int)>0:=by omega
 simp only [sliceBounds,Option.getD_some,hp,if_true,size_toArray];rw [if_neg (show ¬ (k:Int)<0 by omega)];congr 1;unfold sliceRange;simp only [hp,if_true,List.filterMap_map]
 by_cases h:k<its.length
 .have h2:max 0 (min (k:Int) its.length)=k:=by omega
  rw [h2,if_pos (show (k:Int)<its.length by omega)];have d:∀ j:Nat,(((its.length:Int)-k+n-1)/n).toNat<=j->its[k+j*n]?=none:=fun j i=>by
   rw [List.getElem?_eq_none_iff];have c:((its.length:Int)-k+n-1)/n<j+1:=by omega
   have f:=(Int.ediv_lt_iff_lt_mul hp).mp c;grind
  have hl:(((its.length:Int)-k+n-1)/n).toNat<=its.length:=by have:=ceilDiv_le ((its.length:Int)-k) n (by omega) (by omega);omega
  have e:List.range its.length=List.range (((its.length:Int)-k+n-1)/n).toNat++(List.range (its.length-(((its.length:Int)-k+n-1)/n).toNat)).map (· + (((its.length:Int)-k+n-1)/n).toNat):=by have:=List.range_add (n:=(((its.length:Int)-k+n-1)/n).toNat) (m:=its.length-(((its.length:Int)-k+n-1)/n).toNat);rw [show (((its.length:Int)-k+n-1)/n).toNat+(its.length-(((its.length:Int)-k+n-1)/n).toNat)=its.length by omega] at this;rw [this];congr 1;exact List.map_congr_left fun a _=>Nat.add_comm _ _
  rw [e,List.filterMap_append,List.filterMap_map];have z:(List.range (its.length-(((its.length:Int)-k+n-1)/n).toNat)).filterMap ((fun j=>its[k+j*n]?) ∘ (· + (((its.length:Int)-k+n-1)/n).toNat))=[]:=by rw [List.filterMap_eq_nil_iff];exact fun a _=>d _ (Nat.le_add_left _ _)
  rw [z,append_nil];congr 1;funext a;show its.toArray[((k:Int)+n*a).toNat]?=_;rw [List.getElem?_toArray,show ((k:Int)+n*a).toNat=k+a*n by rw [Nat.mul_comm a n,<- Int.natCast_mul];omega]
 .rw [if_neg (by omega)];refine (List.filterMap_eq_nil_iff.mpr fun a _=>?_).symm;rw [List.getElem?_eq_none_iff];omega
theorem ysj (D:PE X e te) (hl:PO X lo tl) (A:PO X (some st) th):PE X (.Subscript e (.Slice lo none (some st) p2) pos) (tSl (yFK X.K) te tl th):=by
 intro d s Z H Q I h;refine Subscript_ (thn (D d s Z H _ I h) fun v s1 ⟨x,G,y,B,E⟩=>?_);refine wpAny_Slice (thn (hl d s1 Z G _ y E) fun w s2 ⟨l,L,z,pl,N⟩=>?_);refine wpAny_pure (thn (A d s2 Z L _ z N) fun C s3 ⟨u,m,o,O,t⟩=>?_);have g:Inv X d Z m { s3 with heap:=s3.heap.push { cls:=.type "slice",data:=.fields #[w,.none,C] } }:=o.kept fun b J q=>Heap.get?_push_of_some _ q
 obtain ⟨a,xs,k,n,rfl,M,rfl,rfl,F,q⟩:=t;cases B;obtain ⟨its,r,i,hz⟩:=g.list M;have f:=r.length;refine tail_any i.isList.typeIs slot_list_getitem.lookup ?_ (by with_unfolding_all rfl);refine wpAny_getItem_list_slice i.isList (Heap.IsSliceOf.new ..) pl .none O (by grind) ?_;rw [ysi its k n F];refine ⟨.ref _,_,g.laid (fun b J q=>Heap.get?_push_of_some _ q) (Nat.le_refl _) ?_,rfl,q _ (g.hok.fresh (Nat.le_refl _))⟩;have p:Vals (ygM xs k n) (ygM its k n):=by
  unfold ygM;rw [f];generalize List.range its.length=l
  induction l with
  | nil=>exact .nil
  | cons j l ih =>
   rw [List.filterMap_cons,List.filterMap_cons];cases e:xs[k+j*n]? with
   | none =>
    simp_all
   | some x =>
    obtain ⟨u,h1,h2⟩:=r.get e;rw [h1];exact .cons h2 ih
 exact ⟨Nat.le_trans (ymd _ _ _) hz,_,0,p,Heap.get?_push_size _ rfl⟩
end
end L2
namespace PX
open PySem L2
theorem yEG {X:Cx}{A:Nat->Addr}{a st:Expr}{e:Option Expr}{h pos:Pos}{xa:XE}{c d:PSt->AH->Option _}(f:ZE X A a xa) (hl:ZP X A e c) (g:ZP X A (some st) d):ZO X A (.Subscript a (.Slice e none (some st) h) pos) (ytz yze xa c d):=wO (ysj f.of hl.of g.of) (yra yEF sE sP sP)
end PX
namespace My
open PySem L2 PX
theorem yFL:("":Str).length=0:=by rfl'
theorem yzf:("abcdefgh":Str).length=8:=by rfl'
section
def sl_ (s:String):Array (Lean.TSyntax `Lean.Parser.Tactic.simpLemma):=(s.splitOn " ").toArray.map fun s=>⟨Lean.mkNode `Lean.Parser.Tactic.simpLemma #[Lean.mkNullNode,Lean.mkNullNode,Lean.mkIdent s.toName]⟩
local macro_rules|`(tactic|delta $x:ident)=>`(tactic|(unfold $x;rw [$(Lean.mkIdent `yp):ident]))
local macro_rules | `(tactic| simpa [$ls,*])=>`(tactic| simp only [$(sl_ "ycA yDR yBd yBe yBf x_c yDa yDT yFY yFA yyt ywH yBg yDU yFZ yDV yGa yuN yBh yDW yDX yDb yDY yDZ x_call yGb yEa yDc yyu yBi yBj ykb yBk yEb yrs ypJ yBl yrt yBm yBn yEc yEd yEe yEf yEg yEh yEi x_i yGc ykc yBo yru yBp yEj yEk yEl yEm yEn yEo yBq ywI ygH yEp yyv yBr yrv yrw yEq yBt yuP ygX yBu yBv ywJ yyw ywK yDS bind_some Option.bind_none List.set_cons_zero List.set_cons_succ length_cons length_nil decide_eq_true_eq Bool.not_eq_true' decide_eq_false_iff_not if_true if_false ite_true ite_false and_self Int.reducePow Int.reduceToNat Int.reduceLT Int.reduceLE Int.reduceNeg Int.reduceAdd Int.reduceSub Nat.reduceLT Nat.reduceLeDiff Nat.reduceAdd true_and and_true reduceIte Nat.reduceEqDiff eq_self yFC yGe yEt yEu yEv yEw Int.reduceEq Bool.not_true Bool.not_false yzf"),*,$ls,*])
local macro_rules | `(tactic| symm)=>`(tactic| simpa [ycA])
noncomputable def tbO (cs:List Nat):List (Nat×Nat×Bool):=cs.flatMap fun i=>cs.map fun j=>(i,j,i == j)
def ycD:List (Nat×Nat×Bool):=tbO [1,2,3,4,5,6,7,8,9]
noncomputable def yfw:List PV->AH->Option (Nd×AH):=ymJ 1 11 (yl (ycB [11] 0 "stack" (yiQ (yeg (yc (yiQ (ypL)) (yi))))) (ycB [11] 0 "last_seen" (yiQ (ypL))))
noncomputable def yey:Fn:=ybs 4 (yl (ybL (xOp (ybR) (ybd [11] "stack" (ye 0)) (xUn yyp (xC (.int 1)))) (yr 3)) (yki (ye 3) (ye 1) (ye 2)))
noncomputable def yej:Fn:=ybs 3 (yl (ykm true (ybd [11] "stack" (ye 0)) (yr 2) (ybr (yn (yAa false (ye 1) (ye 2))) (yN (yhZ (ye 2) (ye 1))) (yM))) (yN (xC .non)))
noncomputable def yez:Fn:=ybs 1 (ybk (xBM ygI (yiU) (ybd [11] "stack" (ye 0)) (yc (yiQ (ypL)) (yi))))
noncomputable def ydU:Fn:=ybs 3 (yl (ybL (xBM ygI (yhn) (ybd [11] "stack" (ye 0)) (yi)) (yr 1)) (yl (ybL (xOp (ybR) (ybd [11] "stack" (ye 0)) (xUn yyp (xC (.int 1)))) (yr 2)) (ybk (xBM yrJ (yBC) (ye 2) (yc (ye 1) (yi))))))
def yfl:Fn:=ybs 1 (ybk (xBM ygI (yhn) (ybd [11] "stack" (ye 0)) (yi)))
def ygd:Fn:=ybs 3 (yki (ybd [11] "last_seen" (ye 0)) (ye 1) (ye 2))
def yge:Fn:=ybs 1 (yN (xFz (yjw (ybd [11] "last_seen" (ye 0)))))
noncomputable def yeA:Fn:=ybs 2 (yl (ybL (xOp (ybR) (ybd [11] "stack" (ye 0)) (xC (.int 0))) (yr 1)) (yN (xFz (yjw (ye 1)))))
noncomputable def yhH:Fn:=ybs 3 (yl (ybr (yn (xOp (oEq) (ye 0) (xC (.str "plus")))) (yN (xOp oMod (xOp yeu (ye 1) (ye 2)) (xC (.int 18446744073709551616)))) (yM)) (yl (ybr (yn (xOp (oEq) (ye 0) (xC (.str "minus")))) (yN (xOp oMod (xOp ytC (ye 1) (ye 2)) (xC (.int 18446744073709551616)))) (yM)) (yl (ybr (yn (xOp (oEq) (ye 0) (xC (.str "times")))) (yN (xOp oMod (xOp yuB (ye 1) (ye 2)) (xC (.int 18446744073709551616)))) (yM)) (yl (ybr (yn (xOp (oEq) (ye 0) (xC (.str "less")))) (yN (xIf (yn (xOp (oLt) (ye 1) (ye 2))) (xC (.int 1)) (xC (.int 0)))) (yM)) (yN (xIf (yn (xOp (oEq) (ye 1) (ye 2))) (xC (.int 1)) (xC (.int 0))))))))
noncomputable def yek:Fn:=ybs 1 (yN (yfW (xCB (yfi ycD) (yc (ye 0) (yc (xC (.ty "int")) (yi)))) (yuh (xCB (yfi ycD) (yc (ye 0) (yc (xC (.ty "bool")) (yi)))))))
noncomputable def ydb:Fn:=ybs 1 (yN (yfW (yT yek (yc (ye 0) (yi))) (yei (oLe) (oLt) (xC (.int 0)) (ye 0) (xC (.int 18446744073709551616)))))
noncomputable def ydl:Fn:=ybs 2 (yN (xCB (ywG) (yc (xFz (yfY (xIS (ye 0)) [1] (xOp (yCZ) (ye 0) (ye 1)))) (yi))))
noncomputable def yeB:Fn:=ybs 2 (yl (ybr (xOr (yfE (yn (yei (oLe) (oLe) (xC (.int 1)) (xCB (yns) (yc (ye 0) (yi))) (xC (.int 20))))) (yfE (yn (yT ydl (yc (ye 0) (yc (xC (.str "0123456789")) (yi))))))) (yN (xC .non)) (yM)) (yl (ybr (yui (yn (xOp (oEq) (xOp (ytD) (ye 0) (xC (.int 0))) (xC (.str "0")))) (yn (xOp (oNe) (ye 0) (xC (.str "0"))))) (yN (xC .non)) (yM)) (yl (ybL (xCB (yrp) (yc (ye 0) (yi))) (yr 1)) (yN (xIf (yn (xOp (oLt) (ye 1) (xC (.int 18446744073709551616)))) (ye 1) (xC .non))))))
noncomputable def yil:Fn:=ybs 1 (yN (xOp (yyE false) (ye 0) (xC (.tup [.str "plus",.str "minus",.str "times",.str "less",.str "same"]))))
noncomputable def yim:Fn:=ybs 1 (yN (yfW (xOp (oEq) (xCB (yns) (yc (ye 0) (yi))) (xC (.int 1))) (xOp (yCZ) (ye 0) (xC (.str "abcdefgh")))))
noncomputable def ydV:Fn:=ybs 1 (yN (xBM isStr (ynv) (xC (.str "abcdefgh")) (yc (ye 0) (yi))))
noncomputable def yin:Fn:=ybs 1 (yN (yfW (yei (oLe) (oLe) (xC (.int 1)) (xCB (yns) (yc (ye 0) (yi))) (xC (.int 8))) (yT ydl (yc (ye 0) (yc (xC (.str "abcdefghijklmnopqrstuvwxyz")) (yi))))))
noncomputable def yeT:List PV->AH->Option (Nd×AH):=ymJ 3 12 (yl (ycB [12] 0 "held" (yiQ (ygA (yX) (yc (ye 1) (yi))))) (yl (ycB [12,14] 0 "width" (ye 2)) (ycB [12] 0 "log" (yiQ (yfG yfw (yi))))))
noncomputable def ybg:Fn:=ybs 2 (yN (xOp (ybR) (ybd [12] "held" (ye 0)) (yT ydV (yc (ye 1) (yi)))))
noncomputable def ycb:Fn:=ybs 3 (yho (ybd [12] "held" (ye 0)) (yT ydV (yc (ye 1) (yi))) (ye 2))
noncomputable def ybM:Fn:=ybs 2 (yN (xOp oMod (yk 12 "held_in" ybg (ye 0) (yc (ye 1) (yi))) (ybd [12,14] "width" (ye 0))))
noncomputable def yce:Fn:=ybs 5 (ybk (yk 12 "hold" ycb (ye 0) (yc (ye 2) (yc (yT yhH (yc (ye 1) (yc (yk 12 "held_in" ybg (ye 0) (yc (ye 3) (yi))) (yc (yk 12 "held_in" ybg (ye 0) (yc (ye 4) (yi))) (yi))))) (yi)))))
noncomputable def ycS:Fn:=ybs 3 (ybk (yk 11 "write" yey (ybd [12] "log" (ye 0)) (yc (yk 12 "box_at" ybM (ye 0) (yc (ye 1) (yi))) (yc (yk 12 "held_in" ybg (ye 0) (yc (ye 2) (yi))) (yi)))))
noncomputable def ydi:Fn:=ybs 2 (yN (xOp (yyq) (yk 11 "own" yej (ybd [12] "log" (ye 0)) (yc (yk 12 "box_at" ybM (ye 0) (yc (ye 1) (yi))) (yi))) (xC .non)))
noncomputable def ycs:Fn:=ybs 3 (ybk (yk 12 "hold" ycb (ye 0) (yc (ye 1) (yc (yk 11 "own" yej (ybd [12] "log" (ye 0)) (yc (yk 12 "box_at" ybM (ye 0) (yc (ye 2) (yi))) (yi))) (yi)))))
noncomputable def ycH:Fn:=ybs 5 (yl (ybL (yk 12 "box_at" ybM (ye 0) (yc (ye 2) (yi))) (yr 4)) (yl (ybk (yk 11 "see" ygd (ybd [12] "log" (ye 0)) (yc (ye 4) (yc (xOp (ybR) (ye 3) (ye 4)) (yi))))) (ybk (yk 12 "hold" ycb (ye 0) (yc (ye 1) (yc (xOp (ybR) (ye 3) (ye 4)) (yi)))))))
noncomputable def yio:Fn:=ybs 2 (yl (ybr (yn (xOp (oEq) (xOp (ybc) (ye 1) (xC (.int 0))) (xC (.str "wait")))) (yN (xOp (oEq) (xOp (ybc) (ye 0) (xC (.int 0))) (xC (.str "either")))) (yM)) (yN (yfW (xOp (oEq) (xOp (ybc) (ye 0) (xC (.int 0))) (xC (.str "guard"))) (xOp (oEq) (xOp (ybc) (ye 0) (xC (.int 1))) (xOp (ybc) (ye 1) (xC (.int 1)))))))
noncomputable def yeh:List PV->AH->Option (Nd×AH):=ymJ 4 12 (yl (xBI 12 yeT (yc (ye 2) (yc (ye 3) (yi)))) (yl (ycB [12] 0 "rows" (ye 1)) (yl (ycB [10,12] 0 "at" (xC (.int 0))) (yl (ycB [12] 0 "seen_stamps" (yiQ (ypL))) (ycB [12] 0 "sides" (yiQ (yeg (yi))))))))
noncomputable def ydF:Fn:=ybs 1 (yN (xOp (ybR) (ybd [12] "rows" (ye 0)) (ybd [10,12] "at" (ye 0))))
noncomputable def ycE:Fn:=ybs 2 (yN (xCB (ywT) (yc (xFz (ylY (ybd [12] "seen_stamps" (ye 0)) [1,0] (xOp (oNe) (xOp (ybR) (ye 1) (ye 0)) (yhZ (ybd [12] "seen_stamps" (ye 2)) (ye 0))))) (yi))))
noncomputable def ybm:Fn:=ybs 3 (yl (ybL (xCB (yca) (yc (ybd [12] "sides" (ye 0)) (yi))) (yr 2)) (yl (yfs 1000 (yui (yn (xOp (oGt) (ye 2) (xC (.int 0)))) (yfE (yn (yT yio (yc (xOp (ybc) (xOp (ybR) (ybd [12] "sides" (ye 0)) (xOp ytC (ye 2) (xC (.int 1)))) (xC (.int 0))) (yc (ye 1) (yi))))))) (ybL (xOp ytC (ye 2) (xC (.int 1))) (yr 2))) (yN (ye 2))))
noncomputable def loB:XS:=(yl (ybr (yn (xOp (oEq) (xOp (ybc) (ye 1) (xC (.int 0))) (xC (.str "take")))) (yN (yk 12 "sees_at" ydi (ye 0) (yc (xOp (ybc) (ye 1) (xC (.int 2))) (yi)))) (yM)) (yl (ybr (xOr (yn (xOp (oEq) (xOp (ybc) (ye 1) (xC (.int 0))) (xC (.str "wait")))) (yn (xOp (oEq) (xOp (ybc) (ye 1) (xC (.int 0))) (xC (.str "throw"))))) (yN (xOp (oEq) (yk 12 "taker_layer" ybm (ye 0) (yc (ye 1) (yi))) (xC (.int 0)))) (yM)) (yN (xOp (oEq) (xOp (ybc) (ye 1) (xC (.int 0))) (xC (.str "lay"))))))
def ybx:Fn:=ybs 2 (yl (ybL (yk 12 "row" ydF (ye 0) (yi)) (yr 1)) loB)
noncomputable def ydj:Fn:=ybs 5 (yl (ybL (yk 12 "row" ydF (ye 0) (yi)) (yr 3)) (yl (ybL (yk 12 "box_at" ybM (ye 0) (yc (xOp (ybc) (ye 3) (xC (.int 2))) (yi))) (yr 4)) (yl (yki (ybd [12] "seen_stamps" (ye 0)) (ye 4) (xOp (ybR) (ye 2) (ye 4))) (yl (ybk (yk 12 "take_seen" ycH (ye 0) (yc (xOp (ybc) (ye 3) (xC (.int 1))) (yc (xOp (ybc) (ye 3) (xC (.int 2))) (yc (ye 1) (yi)))))) (yl (yda [10,12] "at" (ye 0) (xOp yeu (ybd [10,12] "at" (ye 0)) (xC (.int 1)))) (yN (ye 4)))))))
noncomputable def yF:Fn:=ybs 2 (ybr (yn (xOp (oEq) (xOp (ybc) (ye 1) (xC (.int 0))) (xC (.str "let")))) (ybk (yk 12 "hold" ycb (ye 0) (yc (xOp (ybc) (ye 1) (xC (.int 1))) (yc (xOp (ybc) (ye 1) (xC (.int 2))) (yi))))) (ybr (yn (xOp (oEq) (xOp (ybc) (ye 1) (xC (.int 0))) (xC (.str "take")))) (ybk (yk 12 "take_own" ycs (ye 0) (yc (xOp (ybc) (ye 1) (xC (.int 1))) (yc (xOp (ybc) (ye 1) (xC (.int 2))) (yi))))) (ybr (yn (xOp (oEq) (xOp (ybc) (ye 1) (xC (.int 0))) (xC (.str "put")))) (ybk (yk 12 "do_put" ycS (ye 0) (yc (xOp (ybc) (ye 1) (xC (.int 1))) (yc (xOp (ybc) (ye 1) (xC (.int 2))) (yi))))) (ybk (yk 12 "do_reckon" yce (ye 0) (yc (xOp (ybc) (ye 1) (xC (.int 0))) (yc (xOp (ybc) (ye 1) (xC (.int 1))) (yc (xOp (ybc) (ye 1) (xC (.int 2))) (yc (xOp (ybc) (ye 1) (xC (.int 3))) (yi))))))))))
noncomputable def ybT:Fn:=ybs 2 (ybr (yn (xOp (oEq) (xOp (ybc) (ye 1) (xC (.int 0))) (xC (.str "jump")))) (yda [10,12] "at" (ye 0) (xOp (ybc) (ye 1) (xC (.int 1)))) (ybr (yn (xOp (oEq) (yk 12 "held_in" ybg (ye 0) (yc (xOp (ybc) (ye 1) (xC (.int 1))) (yi))) (xC (.int 0)))) (yda [10,12] "at" (ye 0) (xOp (ybc) (ye 1) (xC (.int 2)))) (yM)))
noncomputable abbrev lvC:XT:=(yn (xOp (oGe) (xCB (yca) (yc (ybd [12] "sides" (ye 0)) (yi))) (ye 2)))
noncomputable abbrev lvB:XS:=(yl (ybk (xBM ygI (yhn) (ybd [12] "sides" (ye 0)) (yi))) (ybk (yk 11 "drop" yfl (ybd [12] "log" (ye 0)) (yi))))
noncomputable def yct:Fn:=ybs 5 (yl (ybL (yk 12 "taker_layer" ybm (ye 0) (yc (ye 1) (yi))) (yr 2)) (yl (ybL (xOp (ybR) (ybd [12] "sides" (ye 0)) (xOp ytC (ye 2) (xC (.int 1)))) (yr 3)) (yl (yfs 1000 lvC lvB) (yl (ybL (xOp (ybc) (ye 3) (xC (.int 0))) (yr 4)) (yl (yda [12] "held" (ye 0) (yiQ (ygA (yX) (yc (xOp (ybc) (ye 3) (xC (.int 1))) (yi))))) (yl (yda [10,12] "at" (ye 0) (xOp (ybc) (ye 4) (xUn yyp (xC (.int 1))))) (yN (ye 4))))))))
noncomputable def ycK:Fn:=ybs 4 (yl (ybL (yk 12 "held_in" ybg (ye 0) (yc (xOp (ybc) (ye 1) (xC (.int 2))) (yi))) (yr 2)) (yl (ybL (yk 12 "leave" yct (ye 0) (yc (ye 1) (yi))) (yr 3)) (ybk (yk 12 "hold" ycb (ye 0) (yc (xOp (ybc) (ye 3) (xC (.int 2))) (yc (ye 2) (yi)))))))
noncomputable def goS:XS:=(yl (ybk (xBM ygI (yhn) (ybd [12] "sides" (ye 0)) (yi))) (ybk (yk 11 "settle" ydU (ybd [12] "log" (ye 0)) (yi))))
noncomputable def goE:XS:=(yl (ybk (xBM ygI (yiU) (ybd [12] "sides" (ye 0)) (yc (ygz (yc (ye 1) (yc (xFz (ygA (yX) (yc (ybd [12] "held" (ye 0)) (yi)))) (yi)))) (yi)))) (ybk (yk 11 "begin" yez (ybd [12] "log" (ye 0)) (yi))))
noncomputable def goB:XS:=(ybr (yn (xOp (oEq) (xOp (ybc) (ye 1) (xC (.int 0))) (xC (.str "wait")))) (ybk (yk 12 "leave" yct (ye 0) (yc (ye 1) (yi)))) (ybr (yn (xOp (oEq) (xOp (ybc) (ye 1) (xC (.int 0))) (xC (.str "throw")))) (ybk (yk 12 "throw" ycK (ye 0) (yc (ye 1) (yi)))) (ybr (xOr (yn (xOp (oEq) (xOp (ybc) (ye 1) (xC (.int 0))) (xC (.str "jump")))) (yn (xOp (oEq) (xOp (ybc) (ye 1) (xC (.int 0))) (xC (.str "unless"))))) (ybk (yk 12 "lead" ybT (ye 0) (yc (ye 1) (yi)))) (ybr (xOr (yn (xOp (oEq) (xOp (ybc) (ye 1) (xC (.int 0))) (xC (.str "either")))) (yn (xOp (oEq) (xOp (ybc) (ye 1) (xC (.int 0))) (xC (.str "guard"))))) goE (ybr (yn (xOp (oEq) (xOp (ybc) (ye 1) (xC (.int 0))) (xC (.str "settle")))) goS (ybk (yk 12 "go_plain" yF (ye 0) (yc (ye 1) (yi)))))))))
noncomputable def ycm:Fn:=ybs 2 (yl (ybL (yk 12 "row" ydF (ye 0) (yi)) (yr 1)) (yl (yda [10,12] "at" (ye 0) (xOp yeu (ybd [10,12] "at" (ye 0)) (xC (.int 1)))) goB))
noncomputable def ydm:Fn:=ybs 1 (yl (ybr (yn (xOp (oEq) (ybd [14] "nth" (ye 0)) (xCB (yca) (yc (ybd [14] "deeds" (ye 0)) (yi))))) (yN (xC (.str "ended"))) (yM)) (yN (xIf (yn (ybd [14] "sleeps" (ye 0))) (xC (.str "asleep")) (xC (.str "awake")))))
noncomputable def ycf:Fn:=ybs 2 (yl (ybL (xIf (yn (xOp (oLt) (ybd [14] "nth" (ye 0)) (xCB (yca) (yc (ybd [14] "deeds" (ye 0)) (yi))))) (xOp (ybR) (ybd [14] "deeds" (ye 0)) (ybd [14] "nth" (ye 0))) (xFz (yeg (yi)))) (yr 1)) (yN (yiQ (yfG yeh (yc (ye 1) (yc (ybd [14] "before" (ye 0)) (yc (ybd [12,14] "width" (ye 0)) (yi))))))))
noncomputable def ybU:Fn:=ybs 1 (yl (yda [14] "sleeps" (ye 0) (xC (.bl false))) (yda [14] "run" (ye 0) (yk 14 "new_run" ycf (ye 0) (yi))))
def ycn:Fn:=ybs 1 (yda [14] "sleeps" (ye 0) (xC (.bl true)))
noncomputable def ydW:Fn:=ybs 2 (yl (yda [14] "nth" (ye 0) (xOp yeu (ybd [14] "nth" (ye 0)) (xC (.int 1)))) (yl (yda [14] "before" (ye 0) (xFz (ygA (yX) (yc (ye 1) (yi))))) (yda [14] "run" (ye 0) (yk 14 "new_run" ycf (ye 0) (yi)))))
noncomputable def ybV:Fn:=ybs 3 (yl (yda [14] "deeds" (ye 0) (xFz (ygA (yX) (yc (ye 1) (yi))))) (yl (yda [12,14] "width" (ye 0) (ye 2)) (yl (yda [14] "nth" (ye 0) (xC (.int 0))) (yl (yda [14] "sleeps" (ye 0) (xC (.bl false))) (yl (yda [14] "before" (ye 0) (xFz (ynm yqk (xFz (yeg (yc (xC (.int 0)) (yi)))) (xCB (yns) (yc (xC (.str "abcdefgh")) (yi)))))) (yda [14] "run" (ye 0) (yk 14 "new_run" ycf (ye 0) (yi))))))))
noncomputable def yfx:List PV->AH->Option (Nd×AH):=ymJ 3 1 (yl (ycB [1,2,3,4,5,7,8] 0 "slot" (ye 1)) (ycB [1] 0 "number" (ye 2)))
noncomputable def yel:List PV->AH->Option (Nd×AH):=ymJ 5 2 (yl (ycB [2] 0 "word" (ye 1)) (yl (ycB [1,2,3,4,5,7,8] 0 "slot" (ye 2)) (yl (ycB [2] 0 "one" (ye 3)) (ycB [2] 0 "other" (ye 4)))))
noncomputable def yeU:List PV->AH->Option (Nd×AH):=ymJ 3 3 (yl (ycB [1,2,3,4,5,7,8] 0 "slot" (ye 1)) (ycB [3,4] 0 "place" (ye 2)))
noncomputable def yfy:List PV->AH->Option (Nd×AH):=ymJ 3 4 (yl (ycB [3,4] 0 "place" (ye 1)) (ycB [1,2,3,4,5,7,8] 0 "slot" (ye 2)))
noncomputable def ygf:List PV->AH->Option (Nd×AH):=ymJ 4 5 (yl (ycB [1,2,3,4,5,7,8] 0 "slot" (ye 1)) (yl (ycB [5,6,7] 0 "parts" (xFz (ygA (yX) (yc (ye 2) (yi))))) (ycB [5,6,7] 0 "others" (xFz (ygA (yX) (yc (ye 3) (yi)))))))
noncomputable def yem:List PV->AH->Option (Nd×AH):=ymJ 3 6 (yl (ycB [5,6,7] 0 "parts" (xFz (ygA (yX) (yc (ye 1) (yi))))) (ycB [5,6,7] 0 "others" (xFz (ygA (yX) (yc (ye 2) (yi))))))
noncomputable def yfz:List PV->AH->Option (Nd×AH):=ymJ 5 7 (yl (ycB [5,6,7] 0 "parts" (xFz (ygA (yX) (yc (ye 1) (yi))))) (yl (ycB [7,8] 0 "name" (ye 2)) (yl (ycB [1,2,3,4,5,7,8] 0 "slot" (ye 3)) (ycB [5,6,7] 0 "others" (xFz (ygA (yX) (yc (ye 4) (yi))))))))
noncomputable def yeI:List PV->AH->Option (Nd×AH):=ymJ 3 8 (yl (ycB [7,8] 0 "name" (ye 1)) (ycB [1,2,3,4,5,7,8] 0 "slot" (ye 2)))
def yjA:Fn:=ybs 1 (yN (xC (.int 1)))
def ygg:Fn:=ybs 1 (yN (xC (.int 1)))
def yip:Fn:=ybs 1 (yN (xC (.int 1)))
def yjB:Fn:=ybs 1 (yN (xC (.int 1)))
def ygZ:Fn:=ybs 1 (yN (xC (.int 1)))
def yiq:Fn:=ybs 1 (yN (xC (.int 1)))
mutual
noncomputable def yha:Nat->Nat->Fn
 | 0,_=>fun _ _=>none
 | n+1,k=>match k with|1=>yjA|2=>ygg|3=>yip|4=>yjB|5=>yir n|6=>yeC n|7=>ygN n|8=>ygZ|9=>yiq|_=>fun _ _=>none
noncomputable def yW:Nat->Fn
 | 0=>fun _ _=>none
 | n+1=>ybs 1 (yN (xCB (yuG) (yc (xFz (yfY (xIL (ye 0)) [] (ynw "long" (yha n) (ye 0)))) (yi))))
noncomputable def yir:Nat->Fn
 | 0=>fun _ _=>none
 | n+1=>ybs 1 (yN (xOp yeu (xOp yeu (xC (.int 2)) (yT (yW n) (yc (ybd [5,6,7] "parts" (ye 0)) (yi)))) (yT (yW n) (yc (ybd [5,6,7] "others" (ye 0)) (yi)))))
noncomputable def yeC:Nat->Fn
 | 0=>fun _ _=>none
 | n+1=>ybs 1 (yN (xOp yeu (xOp yeu (xC (.int 3)) (yT (yW n) (yc (ybd [5,6,7] "parts" (ye 0)) (yi)))) (yT (yW n) (yc (ybd [5,6,7] "others" (ye 0)) (yi)))))
noncomputable def ygN:Nat->Fn
 | 0=>fun _ _=>none
 | n+1=>ybs 1 (yN (xOp yeu (xOp yeu (xC (.int 3)) (yT (yW n) (yc (ybd [5,6,7] "parts" (ye 0)) (yi)))) (yT (yW n) (yc (ybd [5,6,7] "others" (ye 0)) (yi)))))
end
noncomputable def yhb:Fn:=ybs 1 (yl (ybr (yn (xCB (yfi ycD) (yc (ye 0) (yc (xC (.cls 1)) (yi))))) (yN (xFz (yeg (yc (ygz (yc (xC (.str "let")) (yc (ybd [1,2,3,4,5,7,8] "slot" (ye 0)) (yc (ybd [1] "number" (ye 0)) (yi))))) (yi))))) (yM)) (yl (ybr (yn (xCB (yfi ycD) (yc (ye 0) (yc (xC (.cls 2)) (yi))))) (yN (xFz (yeg (yc (ygz (yc (ybd [2] "word" (ye 0)) (yc (ybd [1,2,3,4,5,7,8] "slot" (ye 0)) (yc (ybd [2] "one" (ye 0)) (yc (ybd [2] "other" (ye 0)) (yi)))))) (yi))))) (yM)) (yl (ybr (yn (xCB (yfi ycD) (yc (ye 0) (yc (xC (.cls 3)) (yi))))) (yN (xFz (yeg (yc (ygz (yc (xC (.str "take")) (yc (ybd [1,2,3,4,5,7,8] "slot" (ye 0)) (yc (ybd [3,4] "place" (ye 0)) (yi))))) (yi))))) (yM)) (yl (ybr (yn (xCB (yfi ycD) (yc (ye 0) (yc (xC (.cls 4)) (yi))))) (yN (xFz (yeg (yc (ygz (yc (xC (.str "put")) (yc (ybd [3,4] "place" (ye 0)) (yc (ybd [1,2,3,4,5,7,8] "slot" (ye 0)) (yi))))) (yi))))) (yM)) (yl (ybr (yn (xCB (yfi ycD) (yc (ye 0) (yc (xC (.cls 8)) (yi))))) (yN (xFz (yeg (yc (ygz (yc (xC (.str "throw")) (yc (ybd [7,8] "name" (ye 0)) (yc (ybd [1,2,3,4,5,7,8] "slot" (ye 0)) (yi))))) (yi))))) (yM)) (yl (ybr (yn (xCB (yfi ycD) (yc (ye 0) (yc (xC (.cls 9)) (yi))))) (yN (xFz (yeg (yc (ygz (yc (xC (.str "wait")) (yi))) (yi))))) (yM)) (yN (xFz (yeg (yi))))))))))
noncomputable def yeD:Fn:=ybs 2 (yl (ybr (yn (xCB (yfi ycD) (yc (ye 0) (yc (xC (.cls 5)) (yi))))) (yN (ygz (yc (xC (.str "unless")) (yc (ybd [1,2,3,4,5,7,8] "slot" (ye 0)) (yc (ye 1) (yi)))))) (yM)) (yl (ybr (yn (xCB (yfi ycD) (yc (ye 0) (yc (xC (.cls 6)) (yi))))) (yN (ygz (yc (xC (.str "either")) (yc (ye 1) (yi))))) (yM)) (yN (ygz (yc (xC (.str "guard")) (yc (ybd [7,8] "name" (ye 0)) (yc (ybd [1,2,3,4,5,7,8] "slot" (ye 0)) (yc (ye 1) (yi)))))))))
noncomputable def ydk:Fn:=ybs 2 (yl (ybr (yn (xCB (yfi ycD) (yc (ye 0) (yc (xC (.cls 5)) (yi))))) (yN (xFz (yeg (yc (ygz (yc (xC (.str "jump")) (yc (ye 1) (yi)))) (yi))))) (yM)) (yN (xFz (yeg (yc (ygz (yc (xC (.str "settle")) (yi))) (yc (ygz (yc (xC (.str "jump")) (yc (ye 1) (yi)))) (yi)))))))
noncomputable def ptT:XT:=xOr (yn (xCB (yfi ycD) (yc (ye 0) (yc (xC (.cls 5)) (yi))))) (xOr (yn (xCB (yfi ycD) (yc (ye 0) (yc (xC (.cls 6)) (yi))))) (yn (xCB (yfi ycD) (yc (ye 0) (yc (xC (.cls 7)) (yi))))))
mutual
noncomputable def ycu:Nat->Fn
 | 0=>fun _ _=>none
 | n+1=>ybs 4 (yl (yhT (yeg (yi)) 2) (yl (yhF (xIL (ye 0)) (yr 3) (ynC 2 (yT (ydc n) (yc (ye 3) (yc (xOp yeu (ye 1) (yhp 2)) (yi)))))) (ytA 2 (yN (ye 2)))))
noncomputable def ydc:Nat->Fn
 | 0=>fun _ _=>none
 | n+1=>ybs 2 (yl (ybr (ptT) (yN (yT (ydX n) (yc (ye 0) (yc (ye 1) (yi))))) (yM)) (yN (yT yhb (yc (ye 0) (yi)))))
noncomputable def ydX:Nat->Fn
 | 0=>fun _ _=>none
 | n+1=>ybs 6 (yl (ybL (xOp yeu (ye 1) (ynw "long" (yha 45) (ye 0))) (yr 2)) (yl (ybL (xOp ytC (ye 2) (yT (yW 45) (yc (ybd [5,6,7] "others" (ye 0)) (yi)))) (yr 3)) (yl (ybL (yT (ycu n) (yc (ybd [5,6,7] "parts" (ye 0)) (yc (xOp yeu (ye 1) (xC (.int 1))) (yi)))) (yr 4)) (yl (ybL (yT (ycu n) (yc (ybd [5,6,7] "others" (ye 0)) (yc (ye 3) (yi)))) (yr 5)) (yN (xFz (ynm yot (xFz (ynm yot (xFz (ynm yot (xFz (yeg (yc (yT yeD (yc (ye 0) (yc (ye 3) (yi)))) (yi)))) (ye 4))) (yT ydk (yc (ye 0) (yc (ye 2) (yi)))))) (ye 5))))))))
end
noncomputable def yen:Fn:=ybs 1 (yN (xFz (ynm yot (yT (ycu 45) (yc (ye 0) (yc (xC (.int 0)) (yi)))) (xFz (yeg (yc (ygz (yc (xC (.str "lay")) (yi))) (yi)))))))
noncomputable def ydd:List PV->AH->Option (Nd×AH):=ymJ 2 10 (yl (ycB [10] 0 "words" (xFz (ygA (yX) (yc (ye 1) (yi))))) (ycB [10,12] 0 "at" (xC (.int 0))))
noncomputable def yfm:Fn:=ybs 1 (yl (ybr (yn (xOp (oEq) (ye 0) (xC (.str "")))) (yN (xFz (yeg (yi)))) (yM)) (yN (xBM isStr (yoN) (ye 0) (yc (xC (.str " ")) (yi)))))
noncomputable def ybz:Fn:=ybs 1 (yl (ybr (yn (xOp (oLt) (ybd [10,12] "at" (ye 0)) (xCB (yca) (yc (ybd [10] "words" (ye 0)) (yi))))) (yN (xOp (ybR) (ybd [10] "words" (ye 0)) (ybd [10,12] "at" (ye 0)))) (yM)) (yN (xC .non)))
noncomputable def ybA:Fn:=ybs 2 (yl (ybL (yk 10 "ahead" ybz (ye 0) (yi)) (yr 1)) (yl (ybr (yn (xOp (yyq) (ye 1) (xC .non))) (yfq) (yM)) (yl (yda [10,12] "at" (ye 0) (xOp yeu (ybd [10,12] "at" (ye 0)) (xC (.int 1)))) (yN (ye 1)))))
noncomputable def yR:Fn:=ybs 3 (yl (ybL (yk 10 "taken" ybA (ye 0) (yi)) (yr 2)) (ybr (yn (xOp (oNe) (ye 2) (ye 1))) (yfq) (yM)))
noncomputable def yy:Fn:=ybs 2 (yl (ybL (yk 10 "taken" ybA (ye 0) (yi)) (yr 1)) (yl (ybr (yfE (yn (yT yim (yc (ye 1) (yi))))) (yfq) (yM)) (yN (ye 1))))
noncomputable def ybG:Fn:=ybs 2 (yl (ybL (yk 10 "taken" ybA (ye 0) (yi)) (yr 1)) (yl (ybr (yfE (yn (yT yin (yc (ye 1) (yi))))) (yfq) (yM)) (yN (ye 1))))
noncomputable def ybN:Fn:=ybs 3 (yl (ybL (yk 10 "taken" ybA (ye 0) (yi)) (yr 1)) (yl (ybL (yT yeB (yc (ye 1) (yi))) (yr 2)) (yl (ybr (yn (xOp (yyq) (ye 2) (xC .non))) (yfq) (yM)) (yN (ye 2)))))
noncomputable def ybO:Fn:=ybs 5 (yl (ybL (yk 10 "slot_taken" yy (ye 0) (yi)) (yr 2)) (yl (ybL (yk 10 "slot_taken" yy (ye 0) (yi)) (yr 3)) (yl (ybL (yk 10 "slot_taken" yy (ye 0) (yi)) (yr 4)) (yN (xFz (yfG yel (yc (ye 1) (yc (ye 2) (yc (ye 3) (yc (ye 4) (yi)))))))))))
noncomputable def yz:Fn:=ybs 5 (yl (ybr (yn (xOp (oEq) (ye 1) (xC (.str "let")))) (yl (ybL (yk 10 "slot_taken" yy (ye 0) (yi)) (yr 2)) (yN (xFz (yfG yfx (yc (ye 2) (yc (yk 10 "number_taken" ybN (ye 0) (yi)) (yi))))))) (yM)) (yl (ybr (yn (xOp (oEq) (ye 1) (xC (.str "take")))) (yl (ybL (yk 10 "slot_taken" yy (ye 0) (yi)) (yr 2)) (yN (xFz (yfG yeU (yc (ye 2) (yc (yk 10 "slot_taken" yy (ye 0) (yi)) (yi))))))) (yM)) (yl (ybr (yn (xOp (oEq) (ye 1) (xC (.str "put")))) (yl (ybL (yk 10 "slot_taken" yy (ye 0) (yi)) (yr 3)) (yN (xFz (yfG yfy (yc (ye 3) (yc (yk 10 "slot_taken" yy (ye 0) (yi)) (yi))))))) (yM)) (yl (ybr (yn (xOp (oEq) (ye 1) (xC (.str "throw")))) (yl (ybL (yk 10 "name_taken" ybG (ye 0) (yi)) (yr 4)) (yN (xFz (yfG yeI (yc (ye 4) (yc (yk 10 "slot_taken" yy (ye 0) (yi)) (yi))))))) (yM)) (yl (ybr (yn (xOp (oEq) (ye 1) (xC (.str "wait")))) (yN (xFz (yrq 9))) (yM)) (yl (ybr (yn (yT yil (yc (ye 1) (yi)))) (yN (yk 10 "reckon_taken" ybO (ye 0) (yc (ye 1) (yi)))) (yM)) (yfq)))))))
def yky:XT:=yn (xOp (oEq) (yk 10 "ahead" ybz (ye 0) (yi)) (xC (.str ";")))
mutual
noncomputable def ybH:Nat->Fn
 | 0=>fun _ _=>none
 | n+1=>ybs 3 (yl (ybr (xOr (yn (xOp (yyq) (yk 10 "ahead" ybz (ye 0) (yi)) (xC .non))) (yn (xOp (oEq) (yk 10 "ahead" ybz (ye 0) (yi)) (xC (.str ")"))))) (yN (xFz (yeg (yi)))) (yM)) (yl (yhT (yeg (yc (yk 10 "part_taken" (yG n) (ye 0) (yc (ye 1) (yi))) (yi))) 2) (yl (yfs 100 (yky) (yl (ybk (yk 10 "pass_over" yR (ye 0) (yc (xC (.str ";")) (yi)))) (yhm 2 (yk 10 "part_taken" (yG n) (ye 0) (yc (ye 1) (yi)))))) (ytA 2 (yN (ye 2))))))
noncomputable def yq:Nat->Fn
 | 0=>fun _ _=>none
 | n+1=>ybs 3 (yl (ybk (yk 10 "pass_over" yR (ye 0) (yc (xC (.str "(")) (yi)))) (yl (ybL (yk 10 "list_taken" (ybH n) (ye 0) (yc (ye 1) (yi))) (yr 2)) (yl (ybk (yk 10 "pass_over" yR (ye 0) (yc (xC (.str ")")) (yi)))) (yN (ye 2)))))
noncomputable def yG:Nat->Fn
 | 0=>fun _ _=>none
 | n+1=>ybs 3 (yl (ybr (yn (xOp (oGt) (ye 1) (xC (.int 8)))) (yfq) (yM)) (yl (ybL (yk 10 "taken" ybA (ye 0) (yi)) (yr 2)) (yl (ybr (yn (xOp (oEq) (ye 2) (xC (.str "if")))) (yN (yk 10 "if_taken" (ybW n) (ye 0) (yc (xOp yeu (ye 1) (xC (.int 1))) (yi)))) (yM)) (yl (ybr (yn (xOp (oEq) (ye 2) (xC (.str "either")))) (yN (yk 10 "either_taken" (ybt n) (ye 0) (yc (xOp yeu (ye 1) (xC (.int 1))) (yi)))) (yM)) (yl (ybr (yn (xOp (oEq) (ye 2) (xC (.str "try")))) (yN (yk 10 "try_taken" (ybP n) (ye 0) (yc (xOp yeu (ye 1) (xC (.int 1))) (yi)))) (yM)) (yN (yk 10 "plain_taken" yz (ye 0) (yc (ye 2) (yi)))))))))
noncomputable def ybW:Nat->Fn
 | 0=>fun _ _=>none
 | n+1=>ybs 5 (yl (ybL (yk 10 "slot_taken" yy (ye 0) (yi)) (yr 2)) (yl (ybL (yk 10 "side_taken" (yq n) (ye 0) (yc (ye 1) (yi))) (yr 3)) (yl (ybk (yk 10 "pass_over" yR (ye 0) (yc (xC (.str "else")) (yi)))) (yl (ybL (yk 10 "side_taken" (yq n) (ye 0) (yc (ye 1) (yi))) (yr 4)) (yN (xFz (yfG ygf (yc (ye 2) (yc (ye 3) (yc (ye 4) (yi)))))))))))
noncomputable def ybt:Nat->Fn
 | 0=>fun _ _=>none
 | n+1=>ybs 4 (yl (ybL (yk 10 "side_taken" (yq n) (ye 0) (yc (ye 1) (yi))) (yr 2)) (yl (ybk (yk 10 "pass_over" yR (ye 0) (yc (xC (.str "or")) (yi)))) (yl (ybL (yk 10 "side_taken" (yq n) (ye 0) (yc (ye 1) (yi))) (yr 3)) (yN (xFz (yfG yem (yc (ye 2) (yc (ye 3) (yi)))))))))
noncomputable def ybP:Nat->Fn
 | 0=>fun _ _=>none
 | n+1=>ybs 6 (yl (ybL (yk 10 "side_taken" (yq n) (ye 0) (yc (ye 1) (yi))) (yr 2)) (yl (ybk (yk 10 "pass_over" yR (ye 0) (yc (xC (.str "on")) (yi)))) (yl (ybL (yk 10 "name_taken" ybG (ye 0) (yi)) (yr 3)) (yl (ybL (yk 10 "slot_taken" yy (ye 0) (yi)) (yr 4)) (yl (ybL (yk 10 "side_taken" (yq n) (ye 0) (yc (ye 1) (yi))) (yr 5)) (yN (xFz (yfG yfz (yc (ye 2) (yc (ye 3) (yc (ye 4) (yc (ye 5) (yi)))))))))))))
end
noncomputable def yme:Fn:=ybs 3 (yl (ybL (yiQ (yfG ydd (yc (yT yfm (yc (ye 0) (yi))) (yi)))) (yr 1)) (yl (ybL (yk 10 "list_taken" (ybH 45) (ye 1) (yc (xC (.int 0)) (yi))) (yr 2)) (yl (ybr (yn (xOp (yuD) (yk 10 "ahead" ybz (ye 1) (yi)) (xC .non))) (yfq) (yM)) (yl (ybr (yn (xOp (oGt) (xOp yeu (yT (yW 45) (yc (ye 2) (yi))) (xC (.int 1))) (xC (.int 80)))) (yfq) (yM)) (yN (ye 2))))))
noncomputable def ydB:Fn:=ybs 1 (yl (ybr (yfE (yn (yei (oLe) (oLe) (xC (.int 1)) (xCB (yca) (yc (ye 0) (yi))) (xC (.int 16))))) (yfq) (yM)) (ybr (yfE (yn (xCB (ywG) (yc (xFz (yfY (xIL (ye 0)) [] (yT ydb (yc (ye 0) (yi))))) (yi))))) (yfq) (yM)))
noncomputable def ybI:Fn:=ybs 1 (yN (xFz (yfY (xIL (ye 0)) [] (yT yen (yc (yT yme (yc (ye 0) (yi))) (yi))))))
noncomputable def ycv:Fn:=ybs 1 (yl (ybr (yfE (yn (yei (oLe) (oLe) (xC (.int 1)) (xCB (yca) (yc (ye 0) (yi))) (xC (.int 8))))) (yfq) (yM)) (yl (ybr (yn (xCB (ywT) (yc (xFz (yfY (xIL (ye 0)) [] (xOp (oGt) (xCB (yca) (yc (ye 0) (yi))) (xC (.int 6))))) (yi)))) (yfq) (yM)) (yN (xFz (yfY (xIL (ye 0)) [] (yT ybI (yc (ye 0) (yi))))))))
noncomputable def ycw:Fn:=ybs 3 (yl (ybk (yT ydB (yc (ye 1) (yi)))) (yl (yda [15] "numbers" (ye 0) (yiQ (ygA (yX) (yc (ye 1) (yi))))) (yl (yda [15] "marks" (ye 0) (yiQ (ynm yqk (xFz (yeg (yc (xC (.int 0)) (yi)))) (xCB (yca) (yc (ye 1) (yi)))))) (yl (yda [15] "crew" (ye 0) (yiQ (yfY (xIL (yT ycv (yc (ye 2) (yi)))) [1] (yjy 14 ybV (yc (ye 0) (yc (xCB (yca) (yc (ye 1) (yi))) (yi))))))) (yda [15] "entries" (ye 0) (yiQ (yeg (yi))))))))
noncomputable def ycg:Fn:=ybs 2 (yl (ybr (xOr (yfE (yn (yT yek (yc (ye 1) (yi))))) (yfE (yn (yei (oLe) (oLt) (xC (.int 0)) (ye 1) (xCB (yca) (yc (ybd [15] "crew" (ye 0)) (yi))))))) (yfq) (yM)) (yN (xOp (ybR) (ybd [15] "crew" (ye 0)) (ye 1))))
noncomputable def ydn:Fn:=ybs 2 (yN (ybd [14] "nth" (yk 15 "hand_at" ycg (ye 0) (yc (ye 1) (yi)))))
noncomputable def ydo:Fn:=ybs 1 (yN (xFz (ygA (yX) (yc (ybd [15] "numbers" (ye 0)) (yi)))))
def ydC:Fn:=ybs 1 (yN (xFz (ygA (yX) (yc (ybd [15] "marks" (ye 0)) (yi)))))
noncomputable def ybq:Fn:=ybs 1 (yN (xFz (yoP (ybd [15] "entries" (ye 0)) [] (ygz (yc (xOp (ybc) (ye 0) (xC (.int 0))) (yc (xOp (ybc) (ye 0) (xC (.int 1))) (yc (xOp (ybc) (ye 0) (xC (.int 2))) (yc (xFz (ygA (yX) (yc (xOp (ybc) (ye 0) (xC (.int 3))) (yi)))) (yc (xFz (ygA (yX) (yc (xOp (ybc) (ye 0) (xC (.int 4))) (yi)))) (yc (xFz (ygA (yX) (yc (xOp (ybc) (ye 0) (xC (.int 5))) (yi)))) (yi)))))))))))
noncomputable def wkB:XS:=(ybr (yui (yn (xOp (oEq) (yk 14 "state" ydm (ye 1) (yi)) (xC (.str "asleep")))) (yn (yk 12 "is_stale" ycE (ybd [14] "run" (ye 1)) (yc (ybd [15] "marks" (ye 0)) (yi))))) (ybk (yk 14 "begin_anew" ybU (ye 1) (yi))) (yM))
def ybC:Fn:=ybs 2 (ykm false (ybd [15] "crew" (ye 0)) (yr 1) wkB)
noncomputable def ycx:Fn:=ybs 6 (yl (ybL (xOp (ybR) (ybd [15] "crew" (ye 0)) (ye 1)) (yr 5)) (yl (ybk (xBM ygI (yiU) (ybd [15] "entries" (ye 0)) (yc (ygz (yc (ye 1) (yc (ybd [14] "nth" (ye 5)) (yc (ye 2) (yc (yk 11 "saw" yge (ybd [12] "log" (ybd [14] "run" (ye 5))) (yi)) (yc (ye 3) (yc (xFz (ygA (yX) (yc (ye 4) (yi)))) (yi)))))))) (yi)))) (ybk (yk 14 "go_on" ydW (ye 5) (yc (ye 4) (yi))))))
noncomputable def ldB:XS:=(yl (ybL (xOp (ybc) (ye 4) (xC (.int 0))) (yr 5)) (yl (yho (ybd [15] "numbers" (ye 0)) (ye 5) (xOp (ybc) (ye 4) (xC (.int 1)))) (yho (ybd [15] "marks" (ye 0)) (ye 5) (xOp yeu (xOp (ybR) (ybd [15] "marks" (ye 0)) (ye 5)) (xC (.int 1))))))
noncomputable def ycT:Fn:=ybs 6 (yl (ybL (ybd [14] "run" (xOp (ybR) (ybd [15] "crew" (ye 0)) (ye 1))) (yr 2)) (yl (ybL (yk 11 "wrote" yeA (ybd [12] "log" (ye 2)) (yi)) (yr 3)) (yl (yhF (xIL (ye 3)) (yr 4) ldB) (yl (ybk (yk 15 "end_deed" ycx (ye 0) (yc (ye 1) (yc (ygz (yc (xC (.str "done")) (yi))) (yc (ye 3) (yc (ybd [12] "held" (ye 2)) (yi))))))) (ybk (yk 15 "wake_stale" ybC (ye 0) (yi)))))))
noncomputable def yS:Fn:=ybs 6 (yl (ybL (xOp (ybR) (ybd [15] "crew" (ye 0)) (ye 1)) (yr 3)) (yl (ybL (yk 12 "row" ydF (ybd [14] "run" (ye 3)) (yi)) (yr 4)) (yl (ybr (yn (xOp (oEq) (xOp (ybc) (ye 4) (xC (.int 0))) (xC (.str "take")))) (yl (ybL (yk 12 "see_next" ydj (ybd [14] "run" (ye 3)) (yc (ybd [15] "numbers" (ye 0)) (yc (ybd [15] "marks" (ye 0)) (yi)))) (yr 5)) (yN (ygz (yc (xC (.str "seen")) (yc (ye 2) (yc (ye 5) (yc (xOp (ybR) (ybd [15] "numbers" (ye 0)) (ye 5)) (yi)))))))) (yM)) (yl (ybr (yn (xOp (oEq) (xOp (ybc) (ye 4) (xC (.int 0))) (xC (.str "wait")))) (yl (ybk (yk 14 "fall_asleep" ycn (ye 3) (yi))) (yN (ygz (yc (xC (.str "asleep")) (yc (ye 2) (yi)))))) (yM)) (yl (ybr (yn (xOp (oEq) (xOp (ybc) (ye 4) (xC (.int 0))) (xC (.str "throw")))) (yl (ybk (yk 15 "end_deed" ycx (ye 0) (yc (ye 1) (yc (ygz (yc (xC (.str "fell")) (yc (xOp (ybc) (ye 4) (xC (.int 1))) (yc (yk 12 "held_in" ybg (ybd [14] "run" (ye 3)) (yc (xOp (ybc) (ye 4) (xC (.int 2))) (yi))) (yi))))) (yc (xFz (yeg (yi))) (yc (ybd [14] "before" (ye 3)) (yi))))))) (yN (ygz (yc (xC (.str "fell")) (yc (ye 2) (yi)))))) (yM)) (yl (ybk (yk 15 "lay_down" ycT (ye 0) (yc (ye 1) (yi)))) (yN (ygz (yc (xC (.str "done")) (yc (ye 2) (yi)))))))))))
noncomputable def yB:Fn:=ybs 4 (yl (ybL (yk 15 "hand_at" ycg (ye 0) (yc (ye 1) (yi))) (yr 2)) (yl (ybr (yn (xOp (oNe) (yk 14 "state" ydm (ye 2) (yi)) (xC (.str "awake")))) (yN (ygz (yc (xC (.str "idle")) (yi)))) (yM)) (yl (ybL (ybd [10,12] "at" (ybd [14] "run" (ye 2))) (yr 3)) (yl (ybr (yfE (yn (yk 12 "is_looked_over" ybx (ybd [14] "run" (ye 2)) (yi)))) (yl (ybk (yk 12 "go" ycm (ybd [14] "run" (ye 2)) (yi))) (yN (ygz (yc (xC (.str "gone")) (yc (ye 3) (yi)))))) (yM)) (yl (ybr (yn (yk 12 "is_stale" ycE (ybd [14] "run" (ye 2)) (yc (ybd [15] "marks" (ye 0)) (yi)))) (yl (ybk (yk 14 "begin_anew" ybU (ye 2) (yi))) (yN (ygz (yc (xC (.str "anew")) (yc (ye 3) (yi)))))) (yM)) (yN (yk 15 "looked_over_told" yS (ye 0) (yc (ye 1) (yc (ye 3) (yi))))))))))
noncomputable def yZ:Fn:=ybs 2 (yl (ybr (yn (xOp (oLt) (ye 1) (xCB (yca) (yc (ye 0) (yi))))) (yN (xOp (ybR) (ye 0) (ye 1))) (yM)) (yN (xC (.int 0))))
noncomputable def ybv:Fn:=ybs 2 (yl (ybL (xOp oDiv (ye 0) (xC (.int 3))) (yr 1)) (yl (ybr (yn (xOp (oEq) (xOp oMod (ye 0) (xC (.int 3))) (xC (.int 1)))) (yN (xOp oMod (ye 1) (xC (.int 5)))) (yM)) (yl (ybr (yn (xOp (oEq) (xOp oMod (ye 0) (xC (.int 3))) (xC (.int 2)))) (yN (xOp ytC (xOp ytC (xOp yyo (xC (.int 2)) (xC (.int 64))) (xC (.int 1))) (xOp oMod (ye 1) (xC (.int 5))))) (yM)) (yN (xOp oMod (ye 1) (xOp yyo (xC (.int 2)) (xC (.int 64))))))))
noncomputable def plC:XS:=yl (ybr (yn (xOp (oEq) (ye 3) (xC (.int 0)))) (yN (xOp ybh (xOp ybh (xOp ybh (xC (.str "let ")) (xOp (ybR) (ye 2) (xC (.int 0)))) (xC (.str " "))) (xCB (yhV) (yc (ye 1) (yi))))) (yM)) (yl (ybr (yn (xOp (oEq) (ye 3) (xC (.int 1)))) (yl (ybL (xOp (ybR) (xFz (yeg (yc (xC (.str "plus")) (yc (xC (.str "minus")) (yc (xC (.str "times")) (yc (xC (.str "less")) (yc (xC (.str "same")) (yi)))))))) (xOp oMod (xOp oDiv (ye 0) (xC (.int 1024))) (xC (.int 5)))) (yr 4)) (yN (xOp ybh (xOp ybh (xOp ybh (xOp ybh (xOp ybh (xOp ybh (ye 4) (xC (.str " "))) (xOp (ybR) (ye 2) (xC (.int 0)))) (xC (.str " "))) (xOp (ybR) (ye 2) (xC (.int 1)))) (xC (.str " "))) (xOp (ybR) (ye 2) (xC (.int 2)))))) (yM)) (yl (ybr (yn (xOp (oEq) (ye 3) (xC (.int 2)))) (yN (xOp ybh (xOp ybh (xOp ybh (xC (.str "take ")) (xOp (ybR) (ye 2) (xC (.int 0)))) (xC (.str " "))) (xOp (ybR) (ye 2) (xC (.int 2))))) (yM)) (yl (ybr (yn (xOp (oEq) (ye 3) (xC (.int 3)))) (yN (xOp ybh (xOp ybh (xOp ybh (xC (.str "put ")) (xOp (ybR) (ye 2) (xC (.int 2)))) (xC (.str " "))) (xOp (ybR) (ye 2) (xC (.int 0))))) (yM)) (yl (ybr (yn (xOp (oLt) (ye 3) (xC (.int 6)))) (yN (xOp ybh (xOp ybh (xC (.str "let a ")) (xCB (yhV) (yc (xOp oMod (xOp oDiv (ye 0) (xC (.int 1024))) (xC (.int 3))) (yi)))) (xC (.str " ; take b a ; plus b b c ; put a b")))) (yM)) (yl (ybr (yn (xOp (oEq) (ye 3) (xC (.int 6)))) (yN (xOp ybh (xOp ybh (xC (.str "let d ")) (xCB (yhV) (yc (xOp oMod (xOp oDiv (ye 0) (xC (.int 1024))) (xC (.int 3))) (yi)))) (xC (.str " ; take c d")))) (yM)) (yN (xC (.str "let e 1 ; plus c c e"))))))))
noncomputable def ybZ:Fn:=ybs 5 (yl (ybL (xFz (yeg (yc (xOp (ytD) (xC (.str "abcd")) (xOp oMod (xOp oDiv (ye 0) (xC (.int 8))) (xC (.int 4)))) (yc (xOp (ytD) (xC (.str "abcd")) (xOp oMod (xOp oDiv (ye 0) (xC (.int 32))) (xC (.int 4)))) (yc (xOp (ytD) (xC (.str "abcdefgh")) (xOp oMod (xOp oDiv (ye 0) (xC (.int 128))) (xC (.int 8)))) (yi)))))) (yr 2)) (yl (ybL (xOp oMod (ye 0) (xC (.int 8))) (yr 3)) (plC)))
noncomputable def pcC:XS:=yl (ybr (yn (xOp (oLt) (ye 6) (xC (.int 5)))) (yN (xOp ybh (xOp ybh (ye 4) (xC (.str " ; "))) (ye 5))) (yM)) (yl (ybr (yn (xOp (oEq) (ye 6) (xC (.int 5)))) (yN (xOp ybh (xOp ybh (xOp ybh (xOp ybh (xC (.str "if b ( ")) (ye 4)) (xC (.str " ) else ( "))) (ye 5)) (xC (.str " )")))) (yM)) (yl (ybr (yn (xOp (oLt) (ye 6) (xC (.int 8)))) (yN (xOp ybh (xOp ybh (xOp ybh (xOp ybh (xC (.str "either ( ")) (ye 4)) (xC (.str " ; if c ( ) else ( wait ) ) or ( "))) (ye 5)) (xC (.str " )")))) (yM)) (yl (ybr (yn (xOp (oLt) (ye 6) (xC (.int 10)))) (yl (ybL (xOp (ybR) (xFz (yeg (yc (xC (.str "low")) (yc (xC (.str "high")) (yi))))) (xOp oMod (ye 6) (xC (.int 2)))) (yr 7)) (yl (ybL (xOp ybh (xOp ybh (xOp ybh (xOp ybh (xC (.str "if b ( throw ")) (ye 7)) (xC (.str " c ) else ( "))) (ye 5)) (xC (.str " )"))) (yr 8)) (yN (xOp ybh (xOp ybh (xOp ybh (xOp ybh (xOp ybh (xOp ybh (xC (.str "try ( ")) (ye 4)) (xC (.str " ; "))) (ye 8)) (xC (.str " ) on low d ( "))) (ye 5)) (xC (.str " )")))))) (yM)) (yl (ybr (yn (xOp (oEq) (ye 6) (xC (.int 10)))) (yN (xOp ybh (xOp ybh (xC (.str "let a ")) (xCB (yhV) (yc (xOp oMod (ye 1) (xC (.int 3))) (yi)))) (xC (.str " ; take b a ; if b ( ) else ( wait )")))) (yM)) (yN (xOp (ybR) (xFz (yeg (yc (xC (.str "wait")) (yc (xC (.str "throw low c")) (yc (xC (.str "throw high b")) (yc (ye 4) (yi))))))) (xOp oMod (ye 1) (xC (.int 4)))))))))
noncomputable def ycL:Fn:=ybs 9 (yl (ybL (xOp oMod (xOp yuB (ye 0) (xC (.int 48271))) (xC (.int 2147483647))) (yr 1)) (yl (ybL (xOp oMod (xOp yuB (xOp yeu (xOp oDiv (ye 0) (xC (.int 2))) (xC (.int 7))) (xC (.int 69621))) (xC (.int 2147483629))) (yr 2)) (yl (ybL (yT ybv (yc (xOp oDiv (ye 0) (xC (.int 12))) (yi))) (yr 3)) (yl (ybL (yT ybZ (yc (ye 1) (yc (ye 3) (yi)))) (yr 4)) (yl (ybL (yT ybZ (yc (ye 2) (yc (ye 3) (yi)))) (yr 5)) (yl (ybL (xOp oMod (ye 0) (xC (.int 12))) (yr 6)) (pcC)))))))
noncomputable def ldQ:XS:=yl (yhm 2 (yT ycL (yc (ye 3) (yi)))) (ybr (yui (yn (xOp (oGt) (yhp 2) (xOp oMod (xOp oDiv (ye 3) (xC (.int 12))) (xC (.int 3))))) (yn (xOp (oLt) (yhp 1) (xC (.int 6))))) (ytA 2 (yl (yhm 1 (xBM isStr (ynu) (xC (.str " ; ")) (yc (ye 2) (yi)))) (yhT (yeg (yi)) 2))) (yM))
noncomputable def ycM:Fn:=ybs 4 (yl (yhT (yeg (yi)) 1) (yl (yhT (yeg (yi)) 2) (yl (yhF (xIL (ye 0)) (yr 3) (ldQ)) (ytA 1 (yN (ye 1))))))
noncomputable def tuB:XS:=yhm 2 (xOp oMod (xOp oDiv (xOp oDiv (ye 4) (xOp yeu (xC (.int 3)) (xOp yuB (xC (.int 2)) (ye 5)))) (xC (.int 9))) (ye 1))
noncomputable def ydp:Fn:=ybs 6 (yl (yhT (yeg (yi)) 2) (yl (yhF (xIL (ye 0)) (yr 3) (yl (ybL (xOp oMod (ye 3) (xOp yyo (xC (.int 10)) (xC (.int 9)))) (yr 4)) (ybr (yn (xOp (oEq) (xOp oMod (ye 4) (xC (.int 3))) (xC (.int 0)))) (ytA 2 (yhT (ynm yot (ye 2) (xFz (ynm yqk (xFz (yeg (yc (xOp oMod (xOp oDiv (ye 4) (xC (.int 3))) (ye 1)) (yi)))) (xOp yeu (xC (.int 2)) (xOp oMod (xOp oDiv (ye 4) (xC (.int 24))) (xC (.int 6))))))) 2)) (yhF (yre (yc (xC (.int 4)) (yi))) (yr 5) (tuB))))) (ytA 2 (yN (ye 2)))))
noncomputable def ydq:Fn:=ybs 1 (yN (yfW (xCB (yfi ycD) (yc (ye 0) (yc (xC (.ty "int")) (yi)))) (yuh (xCB (yfi ycD) (yc (ye 0) (yc (xC (.ty "bool")) (yi)))))))
noncomputable def paB:XS:=yl (ybr (xOr (yfE (yn (xCB (yfi ycD) (yc (ye 3) (yc (xC (.ty "tuple")) (yi)))))) (xOr (yn (xOp (oNe) (xCB (yca) (yc (ye 3) (yi))) (xC (.int 2)))) (xOr (yfE (yn (yT ydq (yc (xOp (ybc) (ye 3) (xC (.int 0))) (yi))))) (yfE (yn (yT ydq (yc (xOp (ybc) (ye 3) (xC (.int 1))) (yi)))))))) (yN (xC (.bl false))) (yM)) (yl (ybr (xOr (yfE (yn (yei (oLt) (oLt) (ye 2) (xOp (ybc) (ye 3) (xC (.int 0))) (xCB (yca) (yc (ye 1) (yi)))))) (yfE (yn (yei (oLe) (oLt) (xC (.int 0)) (xOp (ybc) (ye 3) (xC (.int 1))) (xOp yyo (xC (.int 2)) (xC (.int 64))))))) (yN (xC (.bl false))) (yM)) (ybL (xOp (ybc) (ye 3) (xC (.int 0))) (yr 2)))
noncomputable def ydr:Fn:=ybs 4 (yl (ybr (yfE (yn (xCB (yfi ycD) (yc (ye 0) (yc (xC (.ty "list")) (yi)))))) (yN (xC (.bl false))) (yM)) (yl (ybL (xUn yyp (xC (.int 1))) (yr 2)) (yl (yhF (xIL (ye 0)) (yr 3) (paB)) (yN (xC (.bl true))))))
noncomputable def ycc:Fn:=ybs 2 (yl (ybr (xOr (yfE (yn (xCB (yfi ycD) (yc (ye 0) (yc (xC (.ty "tuple")) (yi)))))) (xOr (yn (xOp (oEq) (xCB (yca) (yc (ye 0) (yi))) (xC (.int 0)))) (yn (xOp (oNe) (xOp (yrF) (ye 0) (xC (.int 0))) (ye 1))))) (yN (xC (.bl false))) (yM)) (yl (ybr (yn (xOp (oEq) (ye 1) (xC (.str "done")))) (yN (xOp (oEq) (xCB (yca) (yc (ye 0) (yi))) (xC (.int 1)))) (yM)) (yN (yfW (xOp (oEq) (xCB (yca) (yc (ye 0) (yi))) (xC (.int 3))) (yfW (xCB (yfi ycD) (yc (xOp (yrF) (ye 0) (xC (.int 1))) (yc (xC (.ty "str")) (yi)))) (yfW (yT ydq (yc (xOp (yrF) (ye 0) (xC (.int 2))) (yi))) (yei (oLe) (oLt) (xC (.int 0)) (xOp (yrF) (ye 0) (xC (.int 2))) (xOp yyo (xC (.int 2)) (xC (.int 64))))))))))
noncomputable def laB:XS:=ybr (yn (xOp (oNe) (xOp (ybR) (ye 4) (ye 6)) (ye 7))) (yN (xC (.bl false))) (yM)
noncomputable def leB:XS:=yl (yho (ye 4) (ye 6) (ye 7)) (yho (ye 5) (ye 6) (xOp yeu (xOp (ybR) (ye 5) (ye 6)) (xC (.int 1))))
noncomputable def ydY:Fn:=ybs 8 (yl (ybr (xOr (yfE (yn (xCB (yfi ycD) (yc (ye 0) (yc (xC (.ty "tuple")) (yi)))))) (xOr (yn (xOp (oNe) (xCB (yca) (yc (ye 0) (yi))) (xC (.int 6)))) (xOr (yn (xOp (oNe) (xOp (ybc) (ye 0) (xC (.int 0))) (ye 1))) (yn (xOp (oNe) (xOp (ybc) (ye 0) (xC (.int 1))) (ye 2)))))) (yN (xC (.bl false))) (yM)) (yl (ybr (xOr (yfE (yn (yT ycc (yc (xOp (ybc) (ye 0) (xC (.int 2))) (yc (ye 3) (yi)))))) (xOr (yfE (yn (yT ydr (yc (xOp (ybc) (ye 0) (xC (.int 3))) (yc (ye 4) (yi)))))) (yfE (yn (yT ydr (yc (xOp (ybc) (ye 0) (xC (.int 4))) (yc (ye 4) (yi)))))))) (yN (xC (.bl false))) (yM)) (yl (ybr (xOr (yfE (yn (xCB (yfi ycD) (yc (xOp (ybc) (ye 0) (xC (.int 5))) (yc (xC (.ty "list")) (yi)))))) (xOr (yn (xOp (oNe) (xCB (yca) (yc (xOp (ybc) (ye 0) (xC (.int 5))) (yi))) (xC (.int 8)))) (yui (yn (xOp (oEq) (ye 3) (xC (.str "fell")))) (yn (xOp (yDd) (xOp (ybc) (ye 0) (xC (.int 4))) (xFz (yeg (yi)))))))) (yN (xC (.bl false))) (yM)) (yl (yhF (xIL (xOp (ybc) (ye 0) (xC (.int 3)))) (yuq 2 (yfX (yr 6) (yfX (yr 7) (ywE)))) (laB)) (yl (yhF (xIL (xOp (ybc) (ye 0) (xC (.int 4)))) (yuq 2 (yfX (yr 6) (yfX (yr 7) (ywE)))) (leB)) (yN (xC (.bl true))))))))
noncomputable def tnB:XS:=ybr (yn (xOp (oNe) (xCB (yca) (yc (ye 6) (yi))) (xCB (yuG) (yc (ye 2) (yi))))) (yN (xC (.bl false))) (yM)
noncomputable def tnA:XS:=yl (ybr (yn (xOp (oNe) (xCB (yca) (yc (ye 6) (yi))) (xOp yeu (xCB (yuG) (yc (ye 2) (yi))) (xC (.int 1))))) (yN (xC (.bl false))) (yM)) (yl (ybr (yfE (yn (yT ydY (yc (xOp (ybR) (ye 6) (xUn yyp (xC (.int 1)))) (yc (ye 1) (yc (xOp (ybR) (ye 2) (ye 1)) (yc (xOp (ybc) (ye 5) (xC (.int 0))) (yc (ye 3) (yc (ye 4) (yi)))))))))) (yN (xC (.bl false))) (yM)) (yho (ye 2) (ye 1) (xOp yeu (xOp (ybR) (ye 2) (ye 1)) (xC (.int 1)))))
noncomputable def ycd:Fn:=ybs 7 (yl (ybL (yk 15 "turn" yB (ye 0) (yc (ye 1) (yi))) (yr 5)) (yl (ybL (yk 15 "journal" ybq (ye 0) (yi)) (yr 6)) (yl (ybr (xOr (yfE (yn (xCB (yfi ycD) (yc (ye 5) (yc (xC (.ty "tuple")) (yi)))))) (yfE (yn (xCB (yfi ycD) (yc (ye 6) (yc (xC (.ty "list")) (yi))))))) (yN (xC (.bl false))) (yM)) (yl (ybr (yn (xOp (yyE false) (xOp (ybc) (ye 5) (xC (.int 0))) (xFz (yeg (yc (xC (.str "done")) (yc (xC (.str "fell")) (yi))))))) (tnA) (tnB)) (yl (ybr (yn (xOp (oNe) (yk 15 "which" ydn (ye 0) (yc (ye 1) (yi))) (xOp (ybR) (ye 2) (ye 1)))) (yN (xC (.bl false))) (yM)) (yN (yfW (xOp (yvd) (yk 15 "boxes" ydo (ye 0) (yi)) (ye 3)) (xOp (yvd) (yk 15 "stamps" ydC (ye 0) (yi)) (ye 4)))))))))
def rbB:XS:=yho (ye 11) (ye 13) (ye 14)
noncomputable def raB:XS:=ybr (yn (xOp (oNe) (xOp (ybR) (ye 11) (ye 13)) (ye 14))) (yN (xC (.bl false))) (yM)
noncomputable def lwB:XS:=ybr (yfE (yn (yT ycd (yc (ye 6) (yc (ye 10) (yc (ye 9) (yc (ye 7) (yc (ye 8) (yi))))))))) (yN (xC (.bl false))) (yM)
noncomputable def yvv:Fn:=ybs 15 (yl (ybL (xOp (ybR) (xFz (yeg (yc (xOp yeu (xC (.int 1)) (xOp oMod (yT yZ (yc (ye 0) (yc (xC (.int 0)) (yi)))) (xC (.int 4)))) (yc (xC (.int 16)) (yi))))) (xOp oDiv (xOp oMod (xOp oDiv (yT yZ (yc (ye 0) (yc (xC (.int 0)) (yi)))) (xC (.int 4))) (xC (.int 4))) (xC (.int 3)))) (yr 1)) (yl (ybL (xFz (yfY (yre (yc (ye 1) (yi))) [0] (yT ybv (yc (xOp yeu (yT yZ (yc (ye 1) (yc (xC (.int 1)) (yi)))) (xOp yuB (xOp yuB (xC (.int 31)) (ye 0)) (ye 0))) (yi))))) (yr 2)) (yl (ybL (xOp yeu (xC (.int 2)) (xOp oMod (xOp oDiv (yT yZ (yc (ye 0) (yc (xC (.int 1)) (yi)))) (xC (.int 3))) (xC (.int 3)))) (yr 3)) (yl (ybL (xFz (ytz ywF (ye 0) (ygC (xC (.int 2))) (ygC (xC (.int 32))))) (yr 4)) (yl (ybL (xFz (yfY (yre (yc (ye 3) (yi))) [4,3] (yT ycM (yc (xFz (ytz yze (ye 1) (ygC (ye 0)) (ygC (ye 2)))) (yi))))) (yr 5)) (yl (ybL (yjy 15 ycw (yc (xFz (ygA (yX) (yc (ye 2) (yi)))) (yc (xFz (yfY (xIL (ye 5)) [] (xFz (ygA (yX) (yc (ye 0) (yi)))))) (yi)))) (yr 6)) (yl (ybL (yiQ (ygA (yX) (yc (ye 2) (yi)))) (yr 7)) (yl (ybL (yiQ (ynm yqk (xFz (yeg (yc (xC (.int 0)) (yi)))) (ye 1))) (yr 8)) (yl (ybL (yiQ (ynm yqk (xFz (yeg (yc (xC (.int 0)) (yi)))) (ye 3))) (yr 9)) (yl (yhF (xIL (yT ydp (yc (xFz (ytz ywF (ye 0) (yhR) (ygC (xC (.int 66))))) (yc (ye 3) (yi))))) (yr 10) (lwB)) (yl (ybL (yiQ (ygA (yX) (yc (ye 2) (yi)))) (yr 11)) (yl (yhF (xIL (yk 15 "journal" ybq (ye 6) (yi))) (yr 12) (yl (yhF (xIL (xOp (ybc) (ye 12) (xC (.int 3)))) (yuq 2 (yfX (yr 13) (yfX (yr 14) (ywE)))) (raB)) (yhF (xIL (xOp (ybc) (ye 12) (xC (.int 4)))) (yuq 2 (yfX (yr 13) (yfX (yr 14) (ywE)))) (rbB)))) (yN (yfW (xOp (yvd) (ye 11) (yk 15 "boxes" ydo (ye 6) (yi))) (xOp (oEq) (xCB (yca) (yc (yk 15 "journal" ybq (ye 6) (yi)) (yi))) (xCB (yuG) (yc (ye 9) (yi))))))))))))))))))
noncomputable abbrev tI (n:Int):Str:=Str.ofString (toString n)
noncomputable abbrev B64:Int:=18446744073709551616
theorem ywZ:("":Str).length=0:=by rfl'
theorem yA (a b:Str):(a++b).length=a.length+b.length:=by show (a.cps++b.cps).size=_;simp [Str.length]
theorem ymf (a b c:Str):a++b++c=a++(b++c):=by
 show (⟨a.cps++b.cps++c.cps⟩:Str)=⟨a.cps++(b.cps++c.cps)⟩
 rw [Array.append_assoc]
theorem ypd a {b:Int}(h:0<b):0<=a%b/\a%b<b:=⟨Int.emod_nonneg a (by omega),Int.emod_lt_of_pos a h⟩
theorem ysk:B64<10 ^ 20:=by decide
theorem yvw sep x r (h:1<=x.length):1<=(Str.join sep (x::r)).length:=by
 cases r with
 | nil=>exact h
 | cons y r =>
  show 1<=(x++sep++Str.join sep _).length;rw [yA,yA];omega
noncomputable def ysl (m:Nat):List Nat:=(Nat.toDigits 10 m).map Char.toNat
theorem yBT:∀ d:Nat,d<10->(Nat.digitChar d).toNat=48+d:=by
 intro d h;have:d=0\/d=1\/d=2\/d=3\/d=4\/d=5\/d=6\/d=7\/d=8\/d=9:=by omega
 rcases this with rfl|rfl|rfl|rfl|rfl|rfl|rfl|rfl|rfl|rfl
 all_goals decide
theorem yvx cs (c:Nat):yxM (cs++[c])=yxM cs*10+(c-48):=by unfold yxM;simp_all
theorem ysm:∀ m:Nat,ysl m≠[]/\(∀ c∈ysl m,48<=c/\c<=57)/\yxM (ysl m)=m/\(m≠0->(ysl m)[0]?≠some 48):=by
 intro m
 induction m using Nat.strongRecOn with
 | ind m ih =>
  unfold ysl at *
  by_cases h:m<10
  .rw [Nat.toDigits_of_lt_base h,List.map_singleton,yBT m h];refine ⟨by simp,fun c hc=>?_,?_,fun hm e=>?_⟩
   .rw [List.mem_singleton.mp hc];omega
   .show (0:Int)*10+(((48+m:Nat):Int)-48)=m;omega
   .have:48+m=48:=by simpa using e
    omega
  .rw [Nat.toDigits_of_base_le (by decide) (by omega),map_append,List.map_singleton,yBT (m%10) (by omega)];obtain ⟨h1,h2,h3,h4⟩:=ih (m/10) (by omega);refine ⟨by simp,fun c hc=>?_,?_,fun _ e=>?_⟩
   .rcases List.mem_append.mp hc with hc|hc
    .exact h2 c hc
    .rw [List.mem_singleton.mp hc];omega
   .rw [yvx,h3];omega
   .refine h4 (by omega) ?_;generalize (Nat.toDigits 10 (m/10)).map Char.toNat=l at *;cases l with
    | nil=>exact absurd rfl h1
    | cons a l=>simpa using e
theorem ysn {n:Int}(h:0<=n):(Str.ofString (toString n)).cps.toList=ysl n.toNat:=by
 obtain ⟨m,rfl⟩:∃ m:Nat,n=m:=⟨n.toNat,by omega⟩
 rw [Str.ofString_eq_toList];show (toString m).toList.map Char.toNat=_;rw [show toString m=m.repr from rfl,Nat.toList_repr];rfl
theorem yfn {sep:Str}:∀ {a b:List Str},a≠[]->b≠[]->Str.join sep (a++b)=Str.join sep a++sep++Str.join sep b
 | [],_,h,_=>absurd rfl h
 | [x],[],_,h=>absurd rfl h
 | [x],y::b,_,_=>rfl
 | x::y::a,b,_,d=>by have e:=yfn (sep:=sep) (a:=y::a) (fun z=>by cases z) d;show x++sep++Str.join sep (y::a++b)=x++sep++Str.join sep _++sep++Str.join sep b;rw [e];simp only [ymf]
theorem yso {sep x:Str}{b:List Str}(h:b≠[]):Str.join sep (x::b)=x++sep++Str.join sep b:=yfn (a:=[x]) (fun z=>by cases z) h
theorem yBU:(" ; ":Str) = " "++";"++" ":=by rfl'
noncomputable def fr (w:Str):Prop:=32∉w.cps.toList/\w.length≠0/\w.length<=20
theorem yxa {n:Int}(h:0<=n) (h2:n<B64):fr (toString n):=by
 have e:=ysn h;obtain ⟨b,c,_⟩:=ysm n.toNat;refine ⟨fun z=>?_,fun z=>b ?_,str_len h (by decide) (Int.lt_trans h2 ysk)⟩
 .rw [e] at z;have:=c _ z;omega
 .rw [<- e];have:(Str.ofString _).cps.size=0:=z;simp_all
theorem yiS s (h:decide (32∉s.cps.toList/\s.length≠0/\s.length<=20)=true):fr s:=show 32∉s.cps.toList/\s.length≠0/\s.length<=20 from of_decide_eq_true h
def frs (l:List Str):Prop:=∀ w∈l,fr w
theorem yeV {a b:List Str}(h:frs a) (k:frs b):frs (a++b):=fun x d=>(List.mem_append.mp d).elim (h x) (k x)
theorem yzg {sep:Str}{l:List Str}(h:frs l) (hl:l≠[]):Str.join sep l≠"":=by
 cases l with
 | nil=>exact absurd rfl hl
 | cons x r =>
  intro e;have h1:=(h x mem_cons_self).2.1;have:=yvw sep x r (by omega);rw [e,ywZ] at this;omega
theorem yhI sep (hs:sep.length<=3):∀ l,frs l->(Str.join sep l).length<=23*l.length
 | [],_=>by show ("":Str).length<=_;rw [ywZ];omega
 | [x],f=>by have:=(f x mem_cons_self).2.2;show x.length<=23*1;omega
 | x::y::r,f=>by
  have h1:=(f x mem_cons_self).2.2;have h2:=yhI sep hs _ fun w b=>f w (mem_cons_of_mem _ b)
  show (x++sep++Str.join sep _).length<=23*((y::r).length+1);rw [yA,yA];omega
theorem ymg:(("throw":Str) = "take")=False:=eq_false (by rfl')
theorem yhc:(("throw":Str) = "wait")=False:=eq_false (by rfl')
theorem ynI:(("wait":Str) = "take")=False:=eq_false (by rfl')
section
variable {h:AH}
theorem ykz {i:Nat}{ρ:PSt}{xs:List PV}(e:ye i ρ h=some (.lst xs,h)):xIL (ye i) ρ h=some (xs,h):=yyx e
theorem yEH {z:Str}{i:Nat}{ρ:PSt}(e:ye i ρ h=some (.str z,h)) (hl:z.length<=100000):xIS (ye i) ρ h=some (z.cps.toList.map sgn,h):=by unfold xIS;rw [e];exact if_pos hl
theorem ypP {x y:Str}(hl:x.length<=1000):ydl [.str x,.str y] h=some (.bl (x.cps.toList.all fun c=>decide (c∈y.cps.toList)),h):=by
 delta ydl;show ob (yN _ [.val (.str x),.val (.str y)] h) fnK=_;have hz:x.cps.toList.length=x.length:=by simp [Str.length]
 symm;rw [yEH rfl (by omega),ycA];rw [if_pos (by rw [length_map];omega)];rw [yfJ (f:=sgn) (g:=fun c=>.bl (decide (c∈y.cps.toList))) fun c _=>rfl];symm;show ob (ywG [.lst (x.cps.toList.map fun c=>PV.bl (decide (c∈y.cps.toList)))] h) _=_;unfold ywG ybE;rw [show (x.cps.toList.map fun c=>PV.bl (decide (c∈y.cps.toList)))=(x.cps.toList.map fun c=>decide (c∈y.cps.toList)).map PV.bl by rw [map_map];rfl];simp only [ylP,List.all_map];rfl
theorem yvy {c:Nat}(h1:48<=c) (h2:c<=57):c∈("0123456789":Str).cps.toList:=by rw [show ("0123456789":Str).cps.toList=(List.range 10).map (· + 48) by rfl'];exact List.mem_map.mpr ⟨c-48,List.mem_range.mpr (by omega),by omega⟩
theorem ymh {n:Int}(g:0<=n) (h1:n<B64):yeB [.str (toString n:String)] h=some (.int n,h):=by
 obtain ⟨d1,d2,d3,r⟩:=ysm n.toNat;have hl:=str_len g (k:=20) (by decide) (Int.lt_trans h1 ysk);have t:(Str.ofString (toString n)).length≠0:=(yxa g h1).2.1;have e:=ysn g;have hz:n=0->Str.ofString (toString n) = "0":=fun z=>by subst z;rfl'
 have i:atI (Str.ofString (toString n)).cps.toList 0=some ((ysl n.toNat).headD 0):=by
  rw [e];cases q:ysl n.toNat with
  | nil=>exact absurd q d1
  | cons a l=>exact yFC
 have p:(ysl n.toNat).headD 0=48->n=0:=fun q=>Classical.byContradiction fun z=>r (by omega) (by
  cases f:ysl n.toNat with
  | nil=>exact absurd f d1
  | cons a l=>rw [f] at q;simpa using q)
 generalize hs:Str.ofString (toString n)=z at *;delta yeB;show ob (yl _ _ [.val (.str z),.no] h) fnK=_;have o:=List.all_eq_true.mpr fun c j=>decide_eq_true (yvy (d2 c (e ▸ j)).1 (d2 c (e ▸ j)).2)
 symm;rw [if_pos (by omega:z.length<=100000)];simp only [show (1:Int)<=z.length by omega,show (z.length:Int)<=20 by omega];symm;rw [ypP (by omega),o];symm;rw [i];symm;have m:∀ h:AH,yrp [.str z] h=some (.int n,h):=fun h=>by unfold yrp;show (if _ then _ else _)=_;rw [if_pos ⟨by rw [e];exact d1,by rw [e];exact d2,by omega⟩,e,d3,Int.toNat_of_nonneg g]
 rw [if_neg (not_not_intro trivial),if_pos (by omega)];simp only [sgn,m];symm;rw [if_pos h1];split
 .rename_i q;have q:(ysl n.toNat).headD 0=48:=by have f:=congrArg (fun s:Str=>s.cps.toList) q;rw [show ("0":Str).cps.toList=[48] by rfl'] at f;simpa using f
  rw [if_neg (not_not_intro (hz (p q)))]
 .rfl
theorem yBV {sep:Str}{xs:List PV}{ts:List Str}(e:strsOf xs=some ts) (hs:sep.length<=16) (hl:(ts.map (·.length)).sum+ts.length<=1048576):ynu (.str sep) [.lst xs] h=some (.str (Str.join sep ts),h):=by unfold ynu ybE;simp only [e];exact if_pos ⟨hs,hl⟩
end
theorem ykA:(("times":Str) = "plus")=False:=eq_false (by rfl')
theorem yiX:(("times":Str) = "minus")=False:=eq_false (by rfl')
theorem ymi:(("less":Str) = "plus")=False:=eq_false (by rfl')
theorem ykB:(("less":Str) = "minus")=False:=eq_false (by rfl')
theorem ykC:(("less":Str) = "times")=False:=eq_false (by rfl')
theorem ykD:(("times":Str) = "less")=False:=eq_false (by rfl')
theorem ymj:(("same":Str) = "plus")=False:=eq_false (by rfl')
theorem ykE:(("same":Str) = "minus")=False:=eq_false (by rfl')
theorem ykF:(("same":Str) = "times")=False:=eq_false (by rfl')
theorem ymk:(("same":Str) = "less")=False:=eq_false (by rfl')
section
variable {h:AH}
noncomputable def Stk (h:AH):List Nat->List (List Key×List PV)->Prop
 | [],[]=>True
 | l::ls,d::ds=>h[l]?=some (.dct d.1 d.2)/\Stk h ls ds
 | _,_=>False
theorem Stk.get {h:AH}:∀ {ls:List Nat}{ds:List (List Key×List PV)}(k:Nat),Stk h ls ds->k<ls.length->∃ l d,ls[k]?=some l/\ds[k]?=some d/\h[l]?=some (.dct d.1 d.2)
 | l::ls,d::ds,0,s,_=>⟨l,d,rfl,rfl,s.1⟩
 | l::ls,d::ds,k+1,s,hk=>by obtain ⟨l',d',e1,e2,e3⟩:=Stk.get k s.2 (by simpa using hk);exact ⟨l',d',by simpa using e1,by simpa using e2,e3⟩
 | [],[],_,_,hk=>by simp at hk
 | [],_::_,_,s,_=>s.elim
 | _::_,[],_,s,_=>s.elim
noncomputable def yxb (ds:List (List Key×List PV)) (j:Key):Nat->PV
 | 0=>.non
 | k+1=>match ds[k]? with|some d=>(match ykf d.1 d.2 j with|some x=>x|none=>yxb ds j k)|none=>.non
structure LG (h:AH) (o s b:Nat) (ls:List Nat) (ds:List (List Key×List PV)) (ks:List Key) (xs:List PV):Prop where
 ob:h[o]?=some (.ins 11 ["stack","last_seen"] [.loc s,.loc b])
 st:h[s]?=some (.lst (ls.map .loc))
 sn:h[b]?=some (.dct ks xs)
 dl:Stk h ls ds
theorem yfM {o s b:Nat}(e:h[o]?=some (.ins 11 ["stack","last_seen"] [.loc s,.loc b])):yeO [11] "stack" (.loc o) h=some (.loc s,h):=by unfold yeO ygG;simp only [e];rfl
theorem ysp {o s b:Nat}(e:h[o]?=some (.ins 11 ["stack","last_seen"] [.loc s,.loc b])):yeO [11] "last_seen" (.loc o) h=some (.loc b,h):=by unfold yeO ygG;simp only [e];rfl
theorem ysq {n:Nat}{l:List Nat}{t:Nat}(e:h[n]?=some (.lst ((l++[t]).map PV.loc))):ybR (.loc n) (.int (-1)) h=some (.loc t,h):=by
 unfold ybR;simp only [e];have:atI ((l++[t]).map PV.loc) (-1)=some (.loc t):=by unfold atI ixN;simp;rw [if_pos (by omega),show (-1+((l.length:Int)+1)).toNat=l.length by omega];simp
 rw [this]
theorem yzh {n:Nat}{ks:List Key}{xs:List PV}{i:Int}{ek ed:XE}{ρ:PSt}(c:ek ρ h=some (.int i,h)) (b:ed ρ h=some (.loc n,h)) (e:h[n]?=some (.dct ks xs)):yAa false ek ed ρ h=some (.bl (ykf ks xs (.inl i)).isSome,h):=by unfold yAa;rw [c,ycA,b,ycA];unfold yyC;simp only [e,keyOf];rfl
theorem yvz {n:Nat}{ks:List Key}{xs:List PV}{i:Int}{x:PV}{ek ed:XE}{ρ:PSt}(ed':ed ρ h=some (.loc n,h)) (ek':ek ρ h=some (.int i,h)) (e:h[n]?=some (.dct ks xs)) (hx:ykf ks xs (.inl i)=some x):yhZ ed ek ρ h=some (x,h):=by unfold yhZ;rw [ed',ycA,ek',ycA];unfold yyC;simp only [e,keyOf,hx]
theorem ykG {n:Nat}{ks:List Key}{xs:List PV}{i:Int}{x:PV}{ed ek ev:XE}{ρ:PSt}(b:ev ρ h=some (x,h)) (c:ed ρ h=some (.loc n,h)) (d:ek ρ h=some (.int i,h)) (e:h[n]?=some (.dct ks xs)) (hl:ks.length<1000) :
  yki ed ek ev ρ h=some (.nx ρ,h.set n (.dct (ycR ks xs (.inl i) x).1 (ycR ks xs (.inl i) x).2)):=by
 unfold yki;rw [b,ycA,c,ycA,d,ycA];simp only [e,keyOf];rw [if_pos hl]
end
section
variable {h:AH}{o s b:Nat}{ls:List Nat}{ds:List (List Key×List PV)}{ks:List Key}{xs:List PV}
theorem yvA {i:Int}(g:LG h o s b ls ds ks xs):∀ k,k<=ls.length->∀ c,
  ob (ymK s true (yr 2) (ybr (yn (yAa false (ye 1) (ye 2))) (yN (yhZ (ye 2) (ye 1))) yM) k (ls.length-k) [.val (.loc o),.val (.int i),c] h) (fun o h1=>ob (sqK (yN (xC .non)) o h1) fnK)=some (yxb ds (.inl i) k,h):=by
 intro k
 induction k with
 | zero =>
  intro _ c;unfold ymK;simp only [g.st];rw [if_pos (by simp),ycA];rfl
 | succ k ih =>
  intro n c;unfold ymK;simp only [g.st];obtain ⟨l,d,p,f,a⟩:=g.dl.get k (by omega);have j:(ls.map PV.loc)[k]?=some (.loc l):=by simp_all
  simp only [if_true,j];have e:yr 2 (.loc l) [.val (.loc o),.val (.int i),c]=some _:=rfl;rw [e,bind_some,yBl,ywH,yzh rfl rfl a,ycA,yFA,ycA];have ek:ls.length-(k+1)+1=ls.length-k:=by omega
  unfold yxb;simp only [f];cases m:ykf d.1 d.2 _ with
  | none =>
   rw [ek];exact ih (by omega) _
  | some x =>
   rw [if_pos (show (some x).isSome=true from rfl),ypJ,yvz rfl rfl a m,ycA];rfl
theorem yBW {i:Int}(g:LG h o s b ls ds ks xs):yej [.loc o,.int i] h=some (yxb ds (.inl i) ls.length,h):=by delta yej;show ob (yl _ _ [.val _,.val _,.no] h) fnK=_;rw [ykb];have:=yvA (i:=i) g ls.length (Nat.le_refl _) .no;rw [sub_self] at this;rw [yBd,<- this];unfold ykm;rw [ykc,show ye 0 _ h=some _ from rfl,ycA,yfM g.ob,ycA];simp only [g.st,length_map]
theorem yvB {i:Int}{v:PV}{t:Nat}{d:List Key×List PV}(g:LG h o s b (ls++[t]) ds ks xs) (a:h[t]?=some (.dct d.1 d.2)) (hl:d.1.length<1000):yey [.loc o,.int i,v] h=some (.non,h.set t (.dct (ycR d.1 d.2 (.inl i) v).1 (ycR d.1 d.2 (.inl i) v).2)):=by unfold yey;rw [yp,ykb,yrt,yDa,ykc,show ye 0 _ h=some _ from rfl,ycA,yfM g.ob];show ob (ob (ob (ybR (.loc s) (.int _) h) _) _) _=_;rw [ysq g.st];show ob (yki (ye 3) (ye 1) (ye 2) [.val _,.val (.int i),.val v,.val (.loc t)] h) fnK=_;rw [ykG rfl rfl rfl a hl];rfl
theorem yvC (g:LG h o s b ls ds ks xs) (hl:ls.length<1000):yez [.loc o] h=some (.non,(h++[Nd.dct [] []]).set s (.lst ((ls++[h.length]).map .loc))):=by
 have hs:(h++[Nd.dct [] []])[s]?=some (.lst (ls.map .loc)):=by rw [getElem?_append_left (List.getElem?_eq_some_iff.mp g.st).1];exact g.st
 unfold yez;rw [yp,yrs,yDc,ykc,show ye 0 _ h=some _ from rfl,ycA,yfM g.ob,ycA,if_pos (ydE g.st)];show ob (ob (yiU (.loc s) [.loc h.length] (h++[Nd.dct [] []])) _) fnK=_;rw [ynB hs (by rw [length_map];omega),map_append];rfl
theorem ysr {n:Nat}{l:List Nat}{t:Nat}(e:h[n]?=some (.lst ((l++[t]).map PV.loc))):yhn (.loc n) [] h=some (.loc t,h.set n (.lst (l.map .loc))):=by
 unfold yhn;simp only [e];have:((l++[t]).map PV.loc)[((l++[t]).map PV.loc).length-1]?=some (.loc t):=by simp
 rw [this];simp
theorem yzi {t:Nat}(g:LG h o s b (ls++[t]) ds ks xs):yfl [.loc o] h=some (.non,h.set s (.lst (ls.map .loc))):=by unfold yfl;rw [yp,yrs,yDc,ykc,show ye 0 _ h=some _ from rfl,ycA,yfM g.ob,ycA,if_pos (ydE g.st),yuN,ycA,ysr g.st,ycA];rfl
end
section
variable {h:AH}{o s b:Nat}{ls:List Nat}{ds:List (List Key×List PV)}{ks:List Key}{xs:List PV}
theorem yss {t u:Nat}{c a:List Key×List PV}(g:LG h o s b (ls++[u]++[t]) ds ks xs) (n:o≠s) (e:u≠s) (f:t≠s) (d:u≠t) (p:h[u]?=some (.dct a.1 a.2)) (i:h[t]?=some (.dct c.1 c.2)) (hl:a.1.length+c.1.length<1000) :
  ydU [.loc o] h=some (.non,(h.set s (.lst ((ls++[u]).map .loc))).set u (.dct (yiR c.1 c.2 a.1 a.2).1 (yiR c.1 c.2 a.1 a.2).2)):=by
 have hs:=(List.getElem?_eq_some_iff.mp g.st).1;have j:(h.set s _)[s]?=some (.lst ((ls++[u]).map PV.loc)):=getElem?_set_self hs;have m:(h.set s (.lst ((ls++[u]).map PV.loc)))[o]?=some _:=(getElem?_set_ne (Ne.symm n)).trans g.ob;have l:(h.set s (.lst ((ls++[u]).map PV.loc)))[u]?=some _:=(getElem?_set_ne (Ne.symm e)).trans p;have k:(h.set s (.lst ((ls++[u]).map PV.loc)))[t]?=some _:=(getElem?_set_ne (Ne.symm f)).trans i;unfold ydU;rw [yp,ykb,yrt,yDc,ykc,show ye 0 _ h=some _ from rfl,ycA,yfM g.ob,ycA,if_pos (ydE g.st),yuN,ycA,ysr g.st,ycA];generalize q:h.set s _=h1 at *;show ob (yl _ _ _ h1) fnK=_;rw [ykb,yrt,yDa,ykc,show ye 0 _ h1=some _ from rfl,ycA,yfM m];show ob (ob (ob (ybR (.loc s) (.int _) h1) _) _) _=_;rw [ysq j,ycA];show ob (ybk _ _ h1) fnK=_;show ob (ob (if yrJ _ h1=true then yBC (.loc u) [.loc t] h1 else none) _) fnK=_;rw [if_pos (by unfold yrJ ylS;simp_all)];unfold yBC;simp only [l,k];rw [if_pos ⟨d,hl⟩,ycA];rfl
end
noncomputable def At (h:AH) (m:List (Nat×Nd)):Prop:=(m.map (·.1)).Nodup/\∀ p∈m,h[p.1]?=some p.2
section
variable {h:AH}{m a b:List (Nat×Nd)}
theorem At.get (A:At h m) (i:Nat) {n:Nat}{d:Nd}(e:m[i]?=some (n,d)):h[n]?=some d:=A.2 _ (mem_of_getElem? e)
theorem At.lt (A:At h m) {p:Nat×Nd}(hp:p∈m):p.1<h.length:=(List.getElem?_eq_some_iff.mp (A.2 p hp)).1
theorem At.upd {n:Nat}{d:Nd} d' (A:At h (a++(n,d)::b)):At (h.set n d') (a++(n,d')::b):=by
 have e:=A.lt (p:=(n,d)) (by simp);refine ⟨by have:=A.1;simpa using this,fun p hp=>?_⟩
 by_cases q:p.1=n
 .have:p=(n,d'):=by
   have c:=A.1;rw [map_append,List.nodup_append] at c;rcases List.mem_append.mp hp with z|z
   .exact absurd q (c.2.2 _ (List.mem_map_of_mem z) _ mem_cons_self)
   .rcases mem_cons.mp z with z|z
    .exact z
    .exact absurd (show n∈b.map _ by rw [<- q];exact List.mem_map_of_mem z) (List.nodup_cons.mp c.2.1).1
  rw [this,getElem?_set_self e]
 .rw [getElem?_set_ne fun z=>q z.symm];refine A.2 p ?_;rcases List.mem_append.mp hp with z|z
  .exact mem_append_left _ z
  .rcases mem_cons.mp z with z|z
   .exact absurd (by rw [z]) q
   .exact mem_append_right _ (mem_cons_of_mem _ z)
theorem At.new (d:Nd) (A:At h (a++b)):At (h++[d]) (a++(h.length,d)::b):=by
 have lt:∀ p∈a++b,p.1<h.length:=fun p hp=>A.lt hp
 refine ⟨?_,fun p hp=>?_⟩
 .have nd:=A.1;rw [map_append,List.nodup_append] at nd;rw [map_append,map_cons,List.nodup_append];refine ⟨nd.1,List.nodup_cons.mpr ⟨fun z=>?_,nd.2.1⟩,fun x hx y hy=>?_⟩
  .obtain ⟨p,hp,e⟩:=List.mem_map.mp z;have:=lt p (mem_append_right _ hp);omega
  .rcases mem_cons.mp hy with rfl|hy
   .obtain ⟨p,hp,e⟩:=List.mem_map.mp hx;have:=lt p (mem_append_left _ hp);omega
   .exact nd.2.2 x hx y hy
 .rcases List.mem_append.mp hp with z|z
  .rw [getElem?_append_left (lt p (mem_append_left _ z))];exact A.2 p (mem_append_left _ z)
  .rcases mem_cons.mp z with z|z
   .rw [z];simp
   .rw [getElem?_append_left (lt p (mem_append_right _ z))];exact A.2 p (mem_append_right _ z)
theorem At.sub {m':List _}(A:At h m) (s:m'.Sublist m):At h m':=⟨(s.map _).nodup A.1,fun p hp=>A.2 p (s.subset hp)⟩
theorem At.perm {m':List _}(A:At h m) (s:m'.Perm m):At h m':=⟨(s.map _).nodup_iff.mpr A.1,fun p hp=>A.2 p (s.subset hp)⟩
theorem fl {n k:Nat}{ns:List Str}{xs:List PV} i {cs:List Nat}{f:Str}{y:PV}(e:h[n]?=some (.ins k ns xs)) (d:k∈cs) (c:(decide (f∈ns) && ns.idxOf f == i)=true) (g:xs[i]?=some y):yeO cs f (.loc n) h=some (y,h):=by obtain ⟨h1,h2⟩:=Bool.and_eq_true_iff.mp c;unfold yeO ygG;simp_all
noncomputable def ypQ (nu ma cr en:Nat):Nd:=.ins 15 ["numbers","marks","crew","entries"] [.loc nu,.loc ma,.loc cr,.loc en]
noncomputable def ydG (ds:List PV) (w nth:Int) (sl:Bool) (bf:List Int) (rn:Nat):Nd:=.ins 14 ["deeds","width","nth","sleeps","before","run"] [.lst ds,.int w,.int nth,.bl sl,.lst (bf.map .int),.loc rn]
noncomputable def ykH (hl:Nat) (w:Int) (lg:Nat) (rows:List PV) (t:Int) (sn sd:Nat):Nd:=.ins 12 ["held","width","log","rows","at","seen_stamps","sides"] [.loc hl,.int w,.loc lg,.lst rows,.int t,.loc sn,.loc sd]
theorem yds {n nu ma c en:Nat}(e:h[n]?=some (ypQ nu ma c en)):yeO [15] "numbers" (.loc n) h=some (.loc nu,h)/\yeO [15] "marks" (.loc n) h=some (.loc ma,h)/\yeO [15] "crew" (.loc n) h=some (.loc c,h)/\yeO [15] "entries" (.loc n) h=some (.loc en,h) :=
 ⟨fl 0 e (by decide) (rfl) rfl,fl 1 e (by decide) (rfl) rfl,fl 2 e (by decide) (rfl) rfl,fl 3 e (by decide) (rfl) rfl⟩
theorem ydH {n:Nat}{ds:List PV}{w nth:Int}{sl:Bool}{bf:List Int}{c:Nat}(e:h[n]?=some (ydG ds w nth sl bf c)):yeO [14] "deeds" (.loc n) h=some (.lst ds,h)/\yeO [12,14] "width" (.loc n) h=some (.int w,h)/\yeO [14] "nth" (.loc n) h=some (.int nth,h)/\yeO [14] "sleeps" (.loc n) h=some (.bl sl,h)/\yeO [14] "before" (.loc n) h=some (.lst (bf.map .int),h)/\yeO [14] "run" (.loc n) h=some (.loc c,h) :=
 ⟨fl 0 e (by decide) (rfl) rfl,fl 1 e (by decide) (rfl) rfl,fl 2 e (by decide) (rfl) rfl,fl 3 e (by decide) (rfl) rfl,fl 4 e (by decide) (rfl) rfl,fl 5 e (by decide) (rfl) rfl⟩
theorem ycY {n hl:Nat}{w:Int}{c:Nat}{rows:List PV}{t:Int}{sn sd:Nat}(e:h[n]?=some (ykH hl w c rows t sn sd)):yeO [12] "held" (.loc n) h=some (.loc hl,h)/\yeO [12,14] "width" (.loc n) h=some (.int w,h)/\yeO [12] "log" (.loc n) h=some (.loc c,h)/\yeO [12] "rows" (.loc n) h=some (.lst rows,h)/\yeO [10,12] "at" (.loc n) h=some (.int t,h)/\yeO [12] "seen_stamps" (.loc n) h=some (.loc sn,h)/\yeO [12] "sides" (.loc n) h=some (.loc sd,h) :=
 ⟨fl 0 e (by decide) (rfl) rfl,fl 1 e (by decide) (rfl) rfl,fl 2 e (by decide) (rfl) rfl,fl 3 e (by decide) (rfl) rfl,fl 4 e (by decide) (rfl) rfl,fl 5 e (by decide) (rfl) rfl,fl 6 e (by decide) (rfl) rfl⟩
end
noncomputable def mK (k:Nat) (m:Str) (f:Fn) (as:XA) (ρ:PSt) (x:PV) (h1:AH):Option (PV×AH):=match ygG x h1 with
 | some (k',ns,_)=>if k'=k/\m∉ns then ob (as ρ h1) fun ys h2=>f (x::ys) h2 else none
 | none=>none
noncomputable def fL (cs:List Nat) (f:Str) (ρ:PSt) (y x:PV) (h2:AH):Option (Out×AH):=match x with
 | .loc n=>(match h2[n]? with|some (.ins k ns xs)=>if k∈cs/\ns.length<1000 then some (.nx ρ,h2.set n (.ins k (putN f y ns xs).1 (putN f y ns xs).2)) else none|_=>none)
 | _=>none
section
variable {h:AH}{ρ:PSt}
theorem ycF {k:Nat}{m:Str}{f:Fn}{e:XE}{b:XA}:yk k m f e b ρ h=ob (e ρ h) fun x h1=>mK k m f b ρ x h1:=id rfl
theorem yql {cs:List Nat}{f:Str}{eo ev:XE}:yda cs f eo ev ρ h=ob (ev ρ h) fun y h1=>ob (eo ρ h1) fun x h2=>fL cs f ρ y x h2:=id rfl
theorem yJ {n k:Nat}{ns:List Str}{xs:List PV}{m:Str}{f:Fn}{b:XA}(e:h[n]?=some (.ins k ns xs)) (c:decide (m∈ns)=false):mK k m f b ρ (.loc n) h=ob (b ρ h) fun ys h2=>f (.loc n::ys) h2:=by unfold mK ygG;simp_all
theorem yeW {n k:Nat}{ns ns':List Str}{xs xs':List PV}{cs:List Nat}{f:Str}{y:PV}(e:h[n]?=some (.ins k ns xs)) (b:(decide (k∈cs) && decide (ns.length<1000))=true) (hp:putN f y ns xs=(ns',xs')):fL cs f ρ y (.loc n) h=some (.nx ρ,h.set n (.ins k ns' xs')):=by obtain ⟨h1,h2⟩:=Bool.and_eq_true_iff.mp b;unfold fL;simp only [e];rw [if_pos ⟨of_decide_eq_true h1,of_decide_eq_true h2⟩,hp]
end
noncomputable def W5:List Str:=["plus","minus","times","less","same"]
theorem yxc {w:Str}(h:w∈W5):w = "plus"\/w = "minus"\/w = "times"\/w = "less"\/w = "same":=by simpa [W5] using h
inductive Rw where
 | let_ (r:Str) (n:Int)|take (r p:Str)|put (p s:Str)|throw (nm r:Str)|wait|either (k:Int)|guard (nm r:Str) (k:Int)|settle|reckon (w r s t:Str)|jump (k:Int)|unl (s:Str) (k:Int)|lay
noncomputable def yV:Rw->PV
 | .let_ r n=>.tup [.str "let",.str r,.int n]
 | .take r p=>.tup [.str "take",.str r,.str p]
 | .put p s=>.tup [.str "put",.str p,.str s]
 | .throw nm r=>.tup [.str "throw",.str nm,.str r]
 | .wait=>.tup [.str "wait"]
 | .either k=>.tup [.str "either",.int k]
 | .guard nm r k=>.tup [.str "guard",.str nm,.str r,.int k]
 | .settle=>.tup [.str "settle"]
 | .jump k=>.tup [.str "jump",.int k]
 | .unl s k=>.tup [.str "unless",.str s,.int k]
 | .reckon w r s t=>.tup [.str w,.str r,.str s,.str t]
 | .lay=>.tup [.str "lay"]
noncomputable def rdr (ws:List Str) (k:Nat):Nd:=.ins 10 ["words","at"] [.lst (ws.map .str),.int k]
def hR (h:AH) (o:Nat) (ws:List Str) (k:Nat):AH:=h.set o (rdr ws k)
noncomputable def hdV:List Str->PV
 | []=>.non
 | w::_=>.str w
def Tk (m:Str) (f:Fn) (xs:List PV) (v:PV) (w:List Str):Prop:=∀ ⦃h:AH⦄ ⦃o:Nat⦄ ⦃ws:List Str⦄ ⦃k:Nat⦄ ⦃r:List Str⦄ ⦃as:XA⦄ ⦃ρ:PSt⦄,o<h.length/\ws.length<=100000->ws.drop k=w++r->as ρ (hR h o ws k)=some (xs,hR h o ws k)->mK 10 m f as ρ (.loc o) (hR h o ws k)=some (v,hR h o ws (k+w.length))
section
variable {h:AH}{o:Nat}{ws:List Str}{k:Nat}{w m:Str}{r:List Str}{f:Fn}{xs:List PV}{v:PV}{ρ:PSt}
theorem ypR (b:o<h.length):(hR h o ws k)[o]?=some (rdr ws k):=getElem?_set_self b
theorem Tk.mk {w:List Str}(c:decide (m∈(["words","at"]:List Str))=false) (H:∀ {h:AH}{o:Nat}{ws:List Str}{k:Nat}{r:List Str},o<h.length/\ws.length<=100000->ws.drop k=w++r->f (.loc o::xs) (hR h o ws k)=some (v,hR h o ws (k+w.length))):Tk m f xs v w:=fun _ _ _ _ _ _ _ G e b=>by rw [yJ (ypR G.1) c,b,ycA,H G e]
theorem ype (b:o<h.length):yeO [10] "words" (.loc o) (hR h o ws k)=some (.lst (ws.map .str),hR h o ws k):=fl 0 (ypR b) (by decide) (rfl) rfl
theorem yzj (b:o<h.length):yeO [10,12] "at" (.loc o) (hR h o ws k)=some (.int k,hR h o ws k):=fl 1 (ypR b) (by decide) (rfl) rfl
theorem pR {j:Nat}(b:o<h.length):fL [10,12] "at" ρ (.int j) (.loc o) (hR h o ws k)=some (.nx ρ,hR h o ws j):=(yeW (ns':=["words","at"]) (xs':=[.lst (ws.map _),.int j]) (ypR b) (rfl) (rfl)).trans (by unfold hR rdr;rw [List.set_set])
theorem yFM (e:ws.drop k=w::r):ws[k]?=some w/\k<ws.length/\ws.drop (k+1)=r:=by
 have hk:k<ws.length:=Classical.byContradiction fun z=>by rw [List.drop_of_length_le (by omega)] at e;cases e
 rw [List.drop_eq_getElem_cons hk] at e;cases e;exact ⟨List.getElem?_eq_getElem hk,hk,rfl⟩
theorem d_1 (e:ws.drop k=w::r):ws.drop (k+1)=r:=(yFM e).2.2
theorem ypS {a b:List Str}(e:ws.drop k=a++b):ws.drop (k+a.length)=b:=by rw [<- List.drop_drop,e,List.drop_left]
variable (G:o<h.length/\ws.length<=100000)
include G
theorem yeE (e:ws.drop k=r):mK 10 "ahead" ybz yi ρ (.loc o) (hR h o ws k)=some (hdV r,hR h o ws k):=by
 rw [yJ (ypR G.1) (by rfl'),yuN,ycA];delta ybz;show ob (yl _ _ [.val _] _) fnK=_;cases r with
 | nil=>simpa [ype G.1,yzj G.1,length_map,Int.ofNat_lt,show ¬ k<ws.length from by simp_all,G.2,hdV,↓reduceIte]
 | cons w r =>
  obtain ⟨c,d,_⟩:=yFM e;have g:atI (ws.map PV.str) k=some _:=yee (by rw [getElem?_map,c];rfl)
  simpa [ype G.1,yzj G.1,length_map,Int.ofNat_lt,d,g,G.2,hdV,↓reduceIte]
end
section
variable {w nm a b c:Str}{n:Int}
theorem ynJ {w:Str}:(isN (.str w)=true)=False:=eq_false (by intro z;cases z)
theorem yzk {w:Int}:(isN (.int w)=true)=False:=eq_false (by intro z;cases z)
theorem yfN:Tk "taken" ybA [] (.str w) [w]:=.mk (rfl) fun {h o ws k r} G e=>by
 delta ybA;show ob (yl _ _ [.val _,.no] _) fnK=_
 simpa [ycF,yeE G e,hdV,List.cons_append,ynJ,yzj G.1,yql,↓reduceIte]
 rw [show (k:Int)+1=(k+1:Nat) from rfl,pR G.1];symm
theorem yjC:Tk "pass_over" yR [.str w] .non [w]:=.mk (rfl) fun {h o ws k r} G e=>by
 delta yR;show ob (yl _ _ [.val _,.val _,.no] _) fnK=_
 simpa [ycF,yfN G e]
def ydZ (r:Str):Prop:=∀ h,yim [.str r] h=some (.bl true,h)
theorem ygh (g:ydZ w):Tk "slot_taken" yy [] (.str w) [w]:=.mk (rfl) fun {h o ws k r} G e=>by
 delta yy;show ob (yl _ _ [.val _,.no] _) fnK=_
 simpa [ycF,yfN G e,g _]
def yis (r:Str):Prop:=∀ h,yin [.str r] h=some (.bl true,h)
theorem yxd (g:yis w):Tk "name_taken" ybG [] (.str w) [w]:=.mk (rfl) fun {h o ws k r} G e=>by
 delta ybG;show ob (yl _ _ [.val _,.no] _) fnK=_
 simpa [ycF,yfN G e,g _]
theorem yvD (g:0<=n/\n<B64):Tk "number_taken" ybN [] (.int n) [toString n]:=.mk (rfl) fun {h o ws k r} G e=>by
 delta ybN;show ob (yl _ _ [.val _,.no,.no] _) fnK=_
 simpa [ycF,yfN G e,ymh g.1 g.2,yzk,↓reduceIte]
theorem yEI {i:Nat}{l:Str}{A B:XS}{ρ:PSt}{h:AH}(e:ρ[i]?=some (.val (.str w))) (n:decide (w=l)=false):yl (ybr (yn (xOp oEq (ye i) (xC (.str l)))) A yM) B ρ h=B ρ h:=by
 have e1:ye i ρ h=some (.str w,h):=by unfold ye;rw [e]
 simpa [e1,of_decide_eq_false n,↓reduceIte]
theorem yvE (g:ydZ a) (f:ydZ b) (i:ydZ c):Tk "reckon_taken" ybO [.str w] (.ins 2 ["word","slot","one","other"] [.str w,.str a,.str b,.str c]) [a,b,c]:=.mk (rfl) fun {h o ws k r} G e=>by
 delta ybO;show ob (yl _ _ [.val _,.val _,.no,.no,.no] _) fnK=_
 simpa [ycF,ygh g G e,ygh f G (d_1 e),ygh i G (d_1 (d_1 e))]
 rfl
end
section
variable {w nm a b:Str}{n:Int}
theorem yEJ (d:ydZ a) (g:0<=n/\n<B64):Tk "plain_taken" yz [.str "let"] (.ins 1 ["slot","number"] [.str a,.int n]) [a,tI n]:=.mk (rfl) fun {h o ws k r} G e=>by
 delta yz;show ob (yl _ _ [.val _,.val _,.no,.no,.no] _) fnK=_
 simpa [ycF,ygh d G e,yvD g G (d_1 e)]
 rfl
theorem yxe (g:ydZ a) (f:ydZ b):Tk "plain_taken" yz [.str "take"] (.ins 3 ["slot","place"] [.str a,.str b]) [a,b]/\Tk "plain_taken" yz [.str "put"] (.ins 4 ["place","slot"] [.str a,.str b]) [a,b]:=by
 constructor
 all_goals
  refine .mk (by rfl') fun {h o ws k r} G e=>?_
  delta yz;show ob (yl _ _ [.val _,.val _,.no,.no,.no] _) fnK=_
  repeat rw [yEI rfl (rfl)]
  simpa [ycF,ygh g G e,ygh f G (d_1 e)]
  rfl
theorem yzl (g:yis a) (f:ydZ b):Tk "plain_taken" yz [.str "throw"] (.ins 8 ["name","slot"] [.str a,.str b]) [a,b]:=.mk (by rfl') fun {h o ws k r} G e=>by
 delta yz;show ob (yl _ _ [.val _,.val _,.no,.no,.no] _) fnK=_
 repeat rw [yEI rfl (rfl)]
 simpa [ycF,yxd g G e,ygh f G (d_1 e)]
 rfl
theorem yBX:Tk "plain_taken" yz [.str "wait"] (.ins 9 [] []) []:=.mk (by rfl') fun _ _=>by kernel_rfl!
theorem yvF {c:Str}(g:w∈W5) (ga:ydZ a) (gb:ydZ b) (gc:ydZ c):Tk "plain_taken" yz [.str w] (.ins 2 ["word","slot","one","other"] [.str w,.str a,.str b,.str c]) [a,b,c]:=.mk (by rfl') fun {h o ws k r} G e=>by
 have e1:∀ h,yil [.str w] h=some (.bl true,h):=fun h=>by rcases yxc g with rfl|rfl|rfl|rfl|rfl<;>kernel_rfl!
 delta yz;show ob (yl _ _ [.val (.loc o),.val (.str w),.no,.no,.no] (hR h o ws k)) fnK=_;have e2:∀ l∈(["let","take","put","throw","wait"]:List Str),decide (w=l)=false:=by rcases yxc g with rfl|rfl|rfl|rfl|rfl<;>rfl'
 repeat rw [yEI rfl (e2 _ (by simp))]
 simpa [ycF,e1,yvE (w:=w) ga gb gc G e]
end
section
variable {n:Nat}{ar:Int}{w:Str}{tl wa wb:List Str}{v:PV}{va vb:List PV}
theorem yjD (c:(decide (w = "if") || decide (w = "either") || decide (w = "try"))=false) (d:ar<=8) (P:Tk "plain_taken" yz [.str w] v tl):Tk "part_taken" (yG (n+1)) [.int ar] v (w::tl):=.mk (by rfl') fun {h o ws k r} G e=>by
 simp only [Bool.or_eq_false_iff,decide_eq_false_iff_not] at c;delta yG;show ob (yl _ _ [.val _,.val _,.no] _) fnK=_
 simpa [show (ar>8)=False from eq_false (by omega),ycF,yfN G e,c.1.1,c.1.2,c.2,P G (d_1 e),↓reduceIte]
 grind
theorem yvG (A:Tk "side_taken" (yq n) [.int ar] (.lst va) wa) (B:Tk "side_taken" (yq n) [.int ar] (.lst vb) wb):Tk "either_taken" (ybt (n+1)) [.int ar] (.ins 6 ["parts","others"] [.lst va,.lst vb]) (wa++("or":Str)::wb):=.mk (by rfl') fun {h o ws k r} G e=>by
 rw [append_assoc] at e;have e2:=ypS e;delta ybt;show ob (yl _ _ [.val (.loc o),.val (.int ar),.no,.no] (hR h o ws k)) fnK=_
 simpa [ycF,A G e,yjC (w:="or") G e2,B G (d_1 e2)]
 rw [length_append,show k+wa.length+1+wb.length=k+(wa.length+(wb.length+1)) by omega];rfl
theorem yEK {nm s:Str}(c:yis nm) (d:ydZ s) (A:Tk "side_taken" (yq n) [.int ar] (.lst va) wa) (B:Tk "side_taken" (yq n) [.int ar] (.lst vb) wb):Tk "try_taken" (ybP (n+1)) [.int ar] (.ins 7 ["parts","name","slot","others"] [.lst va,.str nm,.str s,.lst vb]) (wa++("on":Str)::nm::s::wb):=.mk (rfl) fun {h o ws k r} G e=>by
 rw [append_assoc] at e;have b:=ypS e;delta ybP;show ob (yl _ _ [.val _,.val _,.no,.no,.no,.no] _) fnK=_
 simpa [ycF,A G e,yjC G b,yxd c G (d_1 b),ygh d G (d_1 (d_1 b)),B G (d_1 (d_1 (d_1 b)))]
 rw [length_append,show k+wa.length+3+wb.length=k+(wa.length+wb.length+3) by omega];rfl
theorem yst (ha:ar<=8):(Tk "either_taken" (ybt n) [.int (ar+1)] v tl->Tk "part_taken" (yG (n+1)) [.int ar] v ("either"::tl))/\(Tk "try_taken" (ybP n) [.int (ar+1)] v tl->Tk "part_taken" (yG (n+1)) [.int ar] v ("try"::tl)):=by
 constructor
 all_goals
  refine fun P=>.mk (by rfl') fun {h o ws k r} G e=>?_
  delta yG;show ob (yl _ _ [.val (.loc o),.val (.int ar),.no] (hR h o ws k)) fnK=_
  simpa [show (ar>8)=False from eq_false (by omega),ycF,yfN G e,show (("either":Str) = "if")=False from eq_false (by rfl'),show (("try":Str) = "if")=False from eq_false (by rfl'),show (("try":Str) = "either")=False from eq_false (by rfl'),P G (d_1 e),↓reduceIte]
  rw [show k+1+tl.length=k+(tl.length+1) by omega]
abbrev Q:=PV×List Str
noncomputable def wr:List Q->List Str
 | []=>[]
 | q::l=>";"::(q.2++wr l)
def wl:List Q->List Str
 | []=>[]
 | q::l=>q.2++wr l
def PQ (n:Nat) (ar:Int) (q:Q):Prop:=Tk "part_taken" (yG n) [.int ar] q.1 q.2/\∃ w tl,q.2=w::tl/\(w = ")")=False
noncomputable def ysu (n:Nat):XS:=yl (ybk (yk 10 "pass_over" yR (ye 0) (yc (xC (.str ";")) (yi)))) (yhm 2 (yk 10 "part_taken" (yG n) (ye 0) (yc (ye 1) (yi))))
variable {h:AH}{o:Nat}{ws rest:List Str}{as:XA}{ρ:PSt}(G:o<h.length/\ws.length<=100000) (hr:rest=[]\/∃ r,rest=(")":Str)::r)
include G hr
theorem ysv:∀ l a (k d:Nat),(∀ q∈l,PQ n ar q)->l.length<d->a.length+l.length<=1000->ws.drop k=wr l++rest ->
  whl yky (ysu n) d [.val (.loc o),.val (.int ar),.own (.lst a)] (hR h o ws k)=some (.nx [.val (.loc o),.val (.int ar),.own (.lst (a++l.map (·.1)))],hR h o ws (k+(wr l).length))
 | [],a,k,d+1,_,_,_,e=>by
  have c:yky [.val (.loc o),.val (.int ar),.own (.lst a)] (hR h o ws k)=some (false,hR h o ws k):=by
   unfold yky
   simpa [ycF,yeE G (e)]
   rcases hr with rfl|⟨r,rfl⟩<;>kernel_rfl!
  rw [yoE,c,ycA,map_nil,append_nil];rfl
 | q::l,a,k,d+1,H,g,i,e=>by
  have e:ws.drop k=(";":Str)::(q.2++(wr l++rest)):=by rw [e,<- append_assoc];rfl
  have f:=d_1 e;rw [length_cons] at g i;have c:yky [.val (.loc o),.val (.int ar),.own (.lst a)] (hR h o ws k)=some (true,hR h o ws k):=by
   unfold yky
   simpa [ycF,yeE G e,hdV]
  have b:ysu n [.val (.loc o),.val (.int ar),.own (.lst a)] (hR h o ws k)=some (.nx [.val (.loc o),.val (.int ar),.own (.lst (a++[q.1]))],hR h o ws (k+1+q.2.length)):=by
   unfold ysu
   simpa [ycF,yjC G e]
   rw [yoF rfl]
   simpa [ycF,(H q mem_cons_self).1 G f,show a.length<100000 by omega,↓reduceIte]
  rw [yoE,c,ycA,b,ycA];show whl yky (ysu n) d _ _=_;rw [ysv l _ _ d (fun q h=>H q (mem_cons_of_mem _ h)) (by omega) (by grind) (ypS f),append_assoc,show k+1+q.2.length+(wr l).length=k+(wr (q::l)).length by show _=k+((q.2++wr l).length+1);grind];rfl
theorem list_eq {l:List Q}{k:Nat}(H:∀ q∈l,PQ n ar q) (a:l.length<=90) (e:ws.drop k=wl l++rest) (b:as ρ (hR h o ws k)=some ([.int ar],hR h o ws k)) :
  mK 10 "list_taken" (ybH (n+1)) as ρ (.loc o) (hR h o ws k)=some (.lst (l.map (·.1)),hR h o ws (k+(wl l).length)):=by
 rw [yJ (ypR G.1) (rfl),b,ycA];delta ybH;show ob (yl _ (yl _ (yl (yfs 100 yky (ysu n)) _)) [.val _,.val _,.no] _) fnK=_;cases l with
 | nil =>
  have e:ws.drop k=rest:=e;rcases hr with rfl|⟨r,rfl⟩
  .simpa [ycF,yeE G e,hdV]
   rfl
  .simpa [ycF,yeE G e,hdV,ynJ,↓reduceIte]
   rfl
 | cons q l =>
  obtain ⟨P,w,tl,g,c⟩:=H q mem_cons_self;have e:ws.drop k=q.2++(wr l++rest):=by rw [e,<- append_assoc];rfl
  have d:ws.drop k=w::(tl++(wr l++rest)):=by rw [e,g];rfl
  rw [length_cons] at a;have f:=ysv G hr l [q.1] _ 100 (fun q h=>H q (mem_cons_of_mem _ h)) (by omega) (by grind) (ypS e)
  simpa [ycF,yeE G d,hdV,ynJ,c,P G e,↓reduceIte]
  rw [show yfs 100 yky _ _ _=_ from f];rw [show k+q.2.length+(wr l).length=k+(wl (q::l)).length by show _=k+(q.2++wr l).length;grind];rfl
omit G hr
theorem yBY {l:List Q}(H:∀ q∈l,PQ n ar q) (a:l.length<=90):Tk "side_taken" (yq (n+2)) [.int ar] (.lst (l.map (·.1))) ("("::(wl l++[(")":Str)])):=.mk (rfl) fun {h o ws k r} G e=>by
 have e:ws.drop k=("(":Str)::(wl l++(")":Str)::r):=by rw [e];simp
 delta yq;show ob (yl _ _ [.val _,.val _,.no] _) fnK=_
 simpa [ycF,yjC G e,list_eq G (.inr ⟨_,rfl⟩) H a (d_1 e),yjC G (ypS (d_1 e))]
 grind
end
section
variable {n:Nat}{ar:Int}{tl wa wb:List Str}{v:PV}{va vb:List PV}
theorem yGg {s:Str}(d:ydZ s) (A:Tk "side_taken" (yq n) [.int ar] (.lst va) wa) (B:Tk "side_taken" (yq n) [.int ar] (.lst vb) wb):Tk "if_taken" (ybW (n+1)) [.int ar] (.ins 5 ["slot","parts","others"] [.str s,.lst va,.lst vb]) (s::(wa++("else":Str)::wb)):=.mk (rfl) fun {h o ws k r} G e=>by
 rw [List.cons_append,append_assoc] at e;have b:=d_1 e;have c:=ypS b;delta ybW;show ob (yl _ _ [.val _,.val _,.no,.no,.no] _) fnK=_
 simpa [ycF,ygh d G e,A G b,yjC G c,B G (d_1 c)]
 rw [length_append,show k+1+wa.length+1+wb.length=k+(wa.length+wb.length+1+1) by omega];rfl
theorem yvH (c:ar<=8) (P:Tk "if_taken" (ybW n) [.int (ar+1)] v tl):Tk "part_taken" (yG (n+1)) [.int ar] v ("if"::tl):=.mk (by rfl') fun {h o ws k r} G e=>by
 delta yG;show ob (yl _ _ [.val _,.val _,.no] _) fnK=_
 simpa [show (ar>8)=False from eq_false (by omega),ycF,yfN G e,P G (d_1 e),↓reduceIte]
 rw [show k+1+tl.length=k+(tl.length+1) by omega]
end
noncomputable def SL:List Str:=["a","b","c","d","e","f","g","h"]
def sx (r:Str):Nat:=SL.idxOf r
section
variable {h:AH}{n hl lg sn sd:Nat}{w t:Int}{rows:List PV}{hs:List Int}{r:Str}
theorem ygi (b:r∈SL):ydV [.str r] h=some (.int (sx r),h):=by unfold SL at b;simp only [mem_cons,not_mem_nil,or_false] at b;rcases b with rfl|rfl|rfl|rfl|rfl|rfl|rfl|rfl<;>kernel_rfl!
theorem yBZ (a:r∈SL):sx r<8:=List.idxOf_lt_length_of_mem a
theorem yde {n:Nat}{xs:List Int}{i:Nat}(e:h[n]?=some (.lst (xs.map .int))) (b:i<xs.length):ybR (.loc n) (.int i) h=some (.int (xs.getD i 0),h):=by
 unfold ybR;simp only [e];have:(xs.map PV.int)[i]?=some (.int (xs.getD i 0)):=by rw [getElem?_map,getD_eq_getElem?_getD,List.getElem?_eq_getElem b];rfl
 rw [yee this]
theorem yit {b:PV}(e:h[n]?=some (ykH hl w lg rows t sn sd)) {i:Nat}(c:t=i) (g:rows[i]?=some b):ydF [.loc n] h=some (b,h):=by
 obtain ⟨l,j,k,f,d,m,o⟩:=ycY e;subst c;delta ydF;show ob (yN _ [.val _] h) fnK=_
 simpa [f,d]
 rw [yee g];rfl
variable (e:h[n]?=some (ykH hl w lg rows t sn sd)) (eh:h[hl]?=some (.lst (hs.map .int))) (h8:hs.length=8) (hr:r∈SL)
include e eh h8 hr
theorem ydf:ybg [.loc n,.str r] h=some (.int (hs.getD (sx r) 0),h):=by
 obtain ⟨a,d,i,f,c,g,b⟩:=ycY e;delta ybg;show ob (yN _ [.val _,.val _] h) fnK=_
 simpa [a,ygi hr]
 rw [yde eh (by rw [h8];exact yBZ hr),ycA]
theorem yiu {v:Int}:ycb [.loc n,.str r,.int v] h=some (.non,h.set hl (.lst ((hs.set (sx r) v).map .int))):=by
 obtain ⟨b,f,j,g,k,i,d⟩:=ycY e;delta ycb;show ob (yho _ _ _ [.val _,.val _,.val _] h) fnK=_;show ob (ob (some _) _) _=_;rw [ycA]
 simpa [b,ygi hr]
 have c:sx r<hs.length:=by rw [h8];exact yBZ hr
 have a:ixN (hs.map PV.int).length (sx r)=some (sx r):=by unfold ixN;simp [c]
 simp only [eh,a];rw [map_set];rfl
theorem yeX (hw:1<=w):ybM [.loc n,.str r] h=some (.int (hs.getD (sx r) 0%w),h):=by
 obtain ⟨f1,f2,f3,f4,f5,f6,f7⟩:=ycY e;delta ybM;show ob (yN _ [.val (.loc n),.val (.str r)] h) fnK=_
 simpa [ycF,yJ (m:="held_in") e (by rfl'),ydf e eh h8 hr,f2]
 rw [if_pos (by omega)]
end
noncomputable def yhd:Rw->Rw->Bool
 | .either _,.wait=>true
 | .guard nm _ _,.throw nm' _=>decide (nm=nm')
 | _,_=>false
noncomputable def ygj:Rw->Bool|.either _=>true|.guard ..=>true|_=>false
noncomputable def yvI:Rw->Bool|.wait=>true|.throw ..=>true|_=>false
def sdV (s:Rw×List Int):PV:=.tup [yV s.1,.lst (s.2.map .int)]
noncomputable def tkL (sd:List (Rw×List Int)) (r:Rw):Nat->Nat
 | 0=>0
 | k+1=>match sd[k]? with|some s=>if yhd s.1 r then k+1 else tkL sd r k|none=>0
section
variable {h:AH}{n hl lg sn sdl:Nat}{w t:Int}{rows:List PV}{hs:List Int}{r:Rw}{sd:List (Rw×List Int)}
theorem yvJ {b:Rw}(hb:ygj b=true) (hr:yvI r=true):yio [yV b,yV r] h=some (.bl (yhd b r),h):=by
 cases b<;>first|(cases hb;done)|skip
 all_goals cases r<;>first|(cases hr;done)|kernel_rfl!|skip
 rename_i nm _ _ nm' _;delta yio;show ob (yl _ _ [.val (yV (.guard nm _ _)),.val (yV (.throw nm' _))] h) fnK=_;unfold yV
 simpa [yhc]
 rfl
theorem yvK {c:XT}{s:XS}{k:Nat}{ρ:PSt}:whl c s (k+1) ρ h=ob (c ρ h) fun k' h1=>if k'=true then ob (s ρ h1) fun o h2=>(match o with|.nx ρ'=>whl c s k ρ' h2|.ct ρ'=>whl c s k ρ' h2|.bk ρ'=>some (.nx ρ',h2)|.rt y=>some (.rt y,h2)) else some (.nx ρ,h1):=rfl
theorem ypf (e:h[n]?=some (ykH hl w lg rows t sn sdl)) (es:h[sdl]?=some (.lst (sd.map sdV))) (hb:∀ s∈sd,ygj s.1=true) (hr:yvI r=true) (hl9:sd.length<900):ybm [.loc n,yV r] h=some (.int (tkL sd r sd.length),h):=by
 obtain ⟨f1,f2,f3,f4,f5,f6,f7⟩:=ycY e;delta ybm;show ob (yl _ (yl (yfs 1000 _ _) _) [.val (.loc n),.val (yV r),.no] h) fnK=_;have lp:∀ (c:XT) (s:XS),c=(yui (yn (xOp (oGt) (ye 2) (xC (.int 0)))) (yfE (yn (yT yio (yc (xOp (ybc) (xOp (ybR) (ybd [12] "sides" (ye 0)) (xOp ytC (ye 2) (xC (.int 1)))) (xC (.int 0))) (yc (ye 1) (yi)))))))->s=(ybL (xOp ytC (ye 2) (xC (.int 1))) (yr 2)) ->
   ∀ (k f:Nat),k<=sd.length->k<f->whl c s f [.val (.loc n),.val (yV r),.val (.int k)] h=some (.nx [.val (.loc n),.val (yV r),.val (.int (tkL sd r k))],h):=by
  intro c s hc hs k
  induction k with
  | zero =>
   intro f _ hf;obtain ⟨f,rfl⟩:∃ g,f=g+1:=⟨f-1,by omega⟩
   subst hc hs;rw [yvK];rfl
  | succ k ih =>
   intro f hk hf;obtain ⟨f,rfl⟩:∃ g,f=g+1:=⟨f-1,by omega⟩
   have hlt:k<sd.length:=hk;have ge:sd[k]?=some sd[k]:=List.getElem?_eq_getElem hlt;have i1:ybR (.loc sdl) (.int (((k+1:Nat):Int)-1)) h=some (sdV sd[k],h):=by unfold ybR;simp only [es];rw [show ((k+1:Nat):Int)-1=(k:Nat) by omega,yee (by rw [getElem?_map,ge];rfl)]
   have i2:ybc (sdV sd[k]) (.int 0) h=some (yV sd[k].1,h):=rfl;have i3:=yvJ (h:=h) (hb sd[k] (getElem_mem hlt)) hr;have i4:oGt (.int ((k+1:Nat):Int)) (.int 0) h=some (.bl true,h):=by show some (PV.bl (decide ((0:Int)<((k+1:Nat):Int))),h)=_;rw [decide_eq_true (by omega)]
   have ec:c [.val (.loc n),.val (yV r),.val (.int ((k+1:Nat):Int))] h=some (!(yhd sd[k].1 r),h):=by
    subst hc;show ob _ _=_
    simpa [f7,i1,i2,i3,i4]
   rw [yvK,ec,ycA];show (if (!(yhd sd[k].1 r))=true then _ else _)=some (Out.nx [_,_,.val (.int ((match sd[k]? with|some s=>if yhd s.1 r then k+1 else tkL sd r k|none=>0:Nat):Int))],h);rw [ge];cases ht:yhd sd[k].1 r with
   | true=>simp only [Bool.not_true,if_true,ht];rfl
   | false =>
    simp only [Bool.not_false,if_true,ht,Bool.false_eq_true,if_false];have:=ih f (by omega) (by omega);rw [<- this];subst hs;show ob (some (Out.nx [.val (.loc n),.val (yV r),.val (.int (((k+1:Nat):Int)-1))],h)) _=_;rw [ycA,show ((k+1:Nat):Int)-1=(k:Nat) by omega]
 have l1:yca [.loc sdl] h=some (.int sd.length,h):=by rw [yia es,length_map]
 have l2:=lp _ _ rfl rfl sd.length 1000 (Nat.le_refl _) (by omega)
 simpa [f7,l1]
 exact (congrArg (ob · _) l2).trans rfl
end
section
variable {h:AH}{n hl lg sn sdl:Nat}{w:Int}{rows:List PV}{t:Nat}{r:Rw}
theorem yml {j:Int}{t:Int}{ρ:PSt}(e:h[n]?=some (ykH hl w lg rows t sn sdl)):fL [10,12] "at" ρ (.int j) (.loc n) h=some (.nx ρ,h.set n (ykH hl w lg rows j sn sdl)):=yeW e (rfl) (rfl)
theorem yvL {j:Nat}{t:Int}{ρ:PSt}(e:h[n]?=some (ykH hl w lg rows t sn sdl)):fL [12] "held" ρ (.loc j) (.loc n) h=some (.nx ρ,h.set n (ykH j w lg rows t sn sdl)):=yeW e (rfl) (rfl)
theorem yiY (e:h[n]?=some (ykH hl w lg rows t sn sdl)) (c:rows[t]?=some (yV r)):ycm [.loc n] h=ob (goB [.val (.loc n),.val (yV r)] (h.set n (ykH hl w lg rows (t+1:Nat) sn sdl))) fnK:=by
 obtain ⟨g,j,i,d,b,f,k⟩:=ycY e;delta ycm;show ob (yl _ _ [.val _,.no] h) fnK=_
 simpa [ycF,yJ (m:="row") e (rfl),yit e rfl c,b,yql,yml e]
 rfl
theorem yzm (e:h[n]?=some (ykH hl w lg rows t sn sdl)) (er:rows[t]?=some (yV r)):ybx [.loc n] h=ob (loB [.val (.loc n),.val (yV r)] h) fnK:=by
 delta ybx;show ob (yl _ loB [.val (.loc n),.no] h) fnK=_
 simpa [ycF,yJ (m:="row") e (by rfl'),yit e rfl er]
abbrev M2 (m:Str) (f:Fn):XE:=yk 12 m f (ye 0) (yc (ye 1) (yi))
theorem yCa {x:PV}{s:Str}{k:Int}:goB [.val x,.val (yV (.let_ s k))] h=ybk (M2 "go_plain" yF) [.val x,.val (yV (.let_ s k))] h:=by kernel_rfl!
theorem yzn {x:PV}{s k:Str}:goB [.val x,.val (yV (.take s k))] h=ybk (M2 "go_plain" yF) [.val x,.val (yV (.take s k))] h:=by kernel_rfl!
theorem yCb {x:PV}{s k:Str}:goB [.val x,.val (yV (.put s k))] h=ybk (M2 "go_plain" yF) [.val x,.val (yV (.put s k))] h:=by kernel_rfl!
theorem yzo {x:PV}:goB [.val x,.val (yV .wait)] h=ybk (M2 "leave" yct) [.val x,.val (yV .wait)] h:=by kernel_rfl!
theorem yvM {x:PV}{s k:Str}:goB [.val x,.val (yV (.throw s k))] h=ybk (M2 "throw" ycK) [.val x,.val (yV (.throw s k))] h:=by kernel_rfl!
theorem ysw {x:PV}{k:Int}:goB [.val x,.val (yV (.either k))] h=goE [.val x,.val (yV (.either k))] h:=by kernel_rfl!
theorem yvN {x:PV}{s r:Str}{k:Int}:goB [.val x,.val (yV (.guard s r k))] h=goE [.val x,.val (yV (.guard s r k))] h:=by kernel_rfl!
theorem ysx {x:PV}:goB [.val x,.val (yV .settle)] h=goS [.val x,.val (yV .settle)] h:=by kernel_rfl!
theorem yzp {x:PV}{k:Int}:goB [.val x,.val (yV (.jump k))] h=ybk (M2 "lead" ybT) [.val x,.val (yV (.jump k))] h:=by kernel_rfl!
theorem ysy {x:PV}{s:Str}{k:Int}:goB [.val x,.val (yV (.unl s k))] h=ybk (M2 "lead" ybT) [.val x,.val (yV (.unl s k))] h:=by kernel_rfl!
theorem ysz {x:PV}{w a b c:Str}(g:w∈W5):goB [.val x,.val (yV (.reckon w a b c))] h=ybk (M2 "go_plain" yF) [.val x,.val (yV (.reckon w a b c))] h:=by
 rcases yxc g with rfl|rfl|rfl|rfl|rfl
 all_goals kernel_rfl!
end
structure Lc where
 rn:Nat
 hl:Nat
 lg:Nat
 st:Nat
 ls:Nat
 sn:Nat
 sd:Nat
 ly:List Nat
structure RS where
 t:Nat
 hs:List Int
 sd:List (Rw×List Int)
 dd:List (List Key×List PV)
 sn:List (Nat×Int×Int)
noncomputable def sK (m:List (Nat×Int×Int)):List Key:=m.map fun p=>.inl (p.1:Int)
noncomputable def sA (m:List (Nat×Int×Int)):List PV:=m.map fun p=>.int p.2.1
noncomputable def sB (m:List (Nat×Int×Int)):List PV:=m.map fun p=>.int p.2.2
noncomputable def yeL (m:List (Nat×Int×Int)) (k:Nat) (a b:Int):List (Nat×Int×Int):=if k∈m.map (·.1) then m.map (fun p=>if p.1=k then (k,a,b) else p) else m++[(k,a,b)]
noncomputable def lay:List Nat->List (List Key×List PV)->List (Nat×Nd)
 | l::ls,d::ds=>(l,.dct d.1 d.2)::lay ls ds
 | _,_=>[]
noncomputable def RM (w:Int) (rows:List PV) (c:Lc) (s:RS) (rest:List (Nat×Nd)):List (Nat×Nd) :=
 (c.rn,ykH c.hl w c.lg rows s.t c.sn c.sd)::(c.hl,.lst (s.hs.map .int))::(c.lg,.ins 11 ["stack","last_seen"] [.loc c.st,.loc c.ls])::(c.st,.lst (c.ly.map .loc))::(c.ls,.dct (sK s.sn) (sA s.sn))::(c.sn,.dct (sK s.sn) (sB s.sn))::(c.sd,.lst (s.sd.map sdV))::(lay c.ly s.dd++rest)
structure RR (w:Int) (rows:List PV) (rest:List (Nat×Nd)) (h:AH) (c:Lc) (s:RS):Prop where
 at_:At h (RM w rows c s rest)
 len:c.ly.length=s.dd.length
theorem yeY:∀ l m d e,l.length=d.length->lay (l++m) (d++e)=lay l d++lay m e
 | [],_,[],_,_=>rfl
 | a::l,m,b::d,e,h=>by
  show (a,_)::lay (l++m) (d++e)=(a,_)::(lay l d++lay m e)
  rw [yeY l m d e (by simpa using h)]
noncomputable def okR:Rw->Bool
 | .let_ r _=>decide (r∈SL)
 | .put p r=>decide (p∈SL) && decide (r∈SL)
 | .take p r=>decide (p∈SL) && decide (r∈SL)
 | .throw _ r=>decide (r∈SL)
 | .guard _ r k=>decide (r∈SL) && decide (0<=k)
 | .either k=>decide (0<=k)
 | .jump k=>decide (0<=k)
 | .unl r k=>decide (r∈SL) && decide (0<=k)
 | .reckon w a b c=>decide (w∈W5) && decide (a∈SL) && decide (b∈SL) && decide (c∈SL)
 | _=>true
noncomputable def okS (s:RS):Bool:=(s.hs.length == 8) && (s.dd.length == s.sd.length+1) && decide (s.sd.length<90) && s.sd.all (fun x=>ygj x.1 && okR x.1 && (x.2.length == 8)) && s.dd.all (fun d=>decide (d.1.length<400))
noncomputable def toB:Rw->Int|.either k=>k|.guard _ _ k=>k|_=>0
noncomputable def slB:Rw->Str|.guard _ r _=>r|_=>""
noncomputable def yhe (dd:List (List Key×List PV)) (k v:Int):List (List Key×List PV):=match dd.getLast? with|some d=>dd.dropLast++[ycR d.1 d.2 (.inl k) (.int v)]|none=>dd
noncomputable def yjE (dd:List (List Key×List PV)):List (List Key×List PV):=match dd.getLast?,dd.dropLast.getLast? with|some d,some e=>dd.dropLast.dropLast++[yiR d.1 d.2 e.1 e.2]|_,_=>dd
noncomputable def yjF (s:RS) (r:Rw) (g:Rw->List Int->List Int):Option RS:=match tkL s.sd r s.sd.length with
 | 0=>none
 | L+1=>match s.sd[L]? with|some x=>some ⟨(toB x.1).toNat,g x.1 x.2,s.sd.take L,s.dd.take (L+1),s.sn⟩|none=>none
noncomputable def ysA (s:RS) (w:Int) (p:Str):PV:=yxb s.dd (.inl (s.hs.getD (sx p) 0%w)) s.dd.length
noncomputable def rk (w:Str) (x y:Int):Int:=if w = "plus" then (x+y)%B64 else if w = "minus" then (x-y)%B64 else if w = "times" then x*y%B64 else if w = "less" then (if x<y then 1 else 0) else (if x=y then 1 else 0)
noncomputable def ypT (w:Int) (r:Rw) (s:RS):Option RS:=if (okR r && okS s)=true then (match r with
 | .let_ r n=>some ⟨s.t+1,s.hs.set (sx r) n,s.sd,s.dd,s.sn⟩
 | .take r p=>(match ysA s w p with|.int v=>some ⟨s.t+1,s.hs.set (sx r) v,s.sd,s.dd,s.sn⟩|_=>none)
 | .put p r=>some ⟨s.t+1,s.hs,s.sd,yhe s.dd (s.hs.getD (sx p) 0%w) (s.hs.getD (sx r) 0),s.sn⟩
 | .either k=>some ⟨s.t+1,s.hs,s.sd++[(.either k,s.hs)],s.dd++[([],[])],s.sn⟩
 | .guard a b k=>some ⟨s.t+1,s.hs,s.sd++[(.guard a b k,s.hs)],s.dd++[([],[])],s.sn⟩
 | .settle=>if s.sd.length=0 then none else some ⟨s.t+1,s.hs,s.sd.dropLast,yjE s.dd,s.sn⟩
 | .jump k=>some ⟨k.toNat,s.hs,s.sd,s.dd,s.sn⟩
 | .unl r k=>some ⟨if s.hs.getD (sx r) 0=0 then k.toNat else s.t+1,s.hs,s.sd,s.dd,s.sn⟩
 | .wait=>yjF s .wait fun _ q=>q
 | .throw a b=>yjF s (.throw a b) fun x q=>q.set (sx (slB x)) (s.hs.getD (sx b) 0)
 | .reckon v a p q=>if 0<=s.hs.getD (sx p) 0/\s.hs.getD (sx p) 0<B64 then some ⟨s.t+1,s.hs.set (sx a) (rk v (s.hs.getD (sx p) 0) (s.hs.getD (sx q) 0)),s.sd,s.dd,s.sn⟩ else none
 | .lay=>none) else none
noncomputable def S0 (hs:List Int):RS:=⟨0,hs,[],[([],[])],[]⟩
section
variable {h:AH}{m:List (Nat×Nd)}
theorem At.ne (A:At h m) {i j:Nat}{p q:Nat×Nd}(a:i<j) (d:m[i]?=some p) (b:m[j]?=some q):p.1≠q.1:=by obtain ⟨e,f⟩:=List.getElem?_eq_some_iff.mp d;obtain ⟨c,g⟩:=List.getElem?_eq_some_iff.mp b;have:=List.pairwise_iff_getElem.mp A.1 i j (by simpa using e) (by simpa using c) a;simp_all
theorem yiv:∀ a dd,a.length=dd.length->(lay a dd).length=a.length
 | [],[],_=>rfl
 | _::ls,_::ds,e=>by show (lay ls ds).length+1=ls.length+1;rw [yiv ls ds (by simpa using e)]
theorem yxf:∀ a dd,a.length=dd.length->(∀ p∈lay a dd,h[p.1]?=some p.2)->Stk h a dd
 | [],[],_,_=>trivial
 | l::ls,d::ds,e,g=>⟨g _ mem_cons_self,yxf ls ds (by simpa using e) fun p hp=>g p (mem_cons_of_mem _ hp)⟩
variable {w:Int}{rows:List PV}{rest:List (Nat×Nd)}{c:Lc}{s:RS}
theorem RR.lg (R:RR w rows rest h c s):LG h c.lg c.st c.ls c.ly s.dd (sK s.sn) (sA s.sn):=⟨R.at_.get 2 rfl,R.at_.get 3 rfl,R.at_.get 4 rfl,yxf _ _ R.len fun p hp=>R.at_.2 p (by unfold RM;simp [hp])⟩
theorem RR.run (R:RR w rows rest h c s):h[c.rn]?=some (ykH c.hl w c.lg rows s.t c.sn c.sd):=R.at_.get 0 rfl
theorem RR.held (R:RR w rows rest h c s):h[c.hl]?=some (.lst (s.hs.map .int)):=R.at_.get 1 rfl
theorem RR.sds (R:RR w rows rest h c s):h[c.sd]?=some (.lst (s.sd.map sdV)):=R.at_.get 6 rfl
theorem RR.to (R:RR w rows rest h c s) (k:Nat):RR w rows rest (h.set c.rn (ykH c.hl w c.lg rows k c.sn c.sd)) c { s with t:=k }:=⟨R.at_.upd (a:=[]) _,R.len⟩
theorem RR.hold (R:RR w rows rest h c s) q:RR w rows rest (h.set c.hl (.lst (q.map .int))) c { s with hs:=q }:=⟨R.at_.upd (a:=[_]) _,R.len⟩
theorem yhf (e:okS s=true):s.hs.length=8/\s.dd.length=s.sd.length+1/\s.sd.length<90/\(∀ x∈s.sd,ygj x.1=true/\okR x.1=true/\x.2.length=8)/\∀ d∈s.dd,d.1.length<400:=by unfold okS at e;simp only [and_eq_true,beq_iff_eq,decide_eq_true_eq,List.all_eq_true] at e;obtain ⟨⟨⟨⟨i,f⟩,g⟩,b⟩,j⟩:=e;exact ⟨i,f,g,fun x a=>⟨(b x a).1.1,(b x a).1.2,(b x a).2⟩,j⟩
noncomputable def dk (m:Option (PV×AH)) (ρ:PSt):Option (PV×AH):=ob (ob m fun _ h1=>some (Out.nx ρ,h1)) fnK
theorem yCc {x:PV}{r:Str}{k:Int}:yF [x,yV (.let_ r k)] h=dk (mK 12 "hold" ycb (fun _ h1=>some ([.str r,.int k],h1)) [] x h) [.val x,.val (yV (.let_ r k))]:=by kernel_rfl!
theorem yCd {x:PV}{p r:Str}:yF [x,yV (.put p r)] h=dk (mK 12 "do_put" ycS (fun _ h1=>some ([.str p,.str r],h1)) [] x h) [.val x,.val (yV (.put p r))]:=by kernel_rfl!
theorem yCe {r:Str}{k:Int}(R:RR w rows rest h c s) (b:rows[s.t]?=some (yV (.let_ r k))) (e:r∈SL) (d:s.hs.length=8):∃ h',ycm [.loc c.rn] h=some (.non,h')/\RR w rows rest h' c ⟨s.t+1,s.hs.set (sx r) k,s.sd,s.dd,s.sn⟩:=by have a:=R.to (s.t+1);refine ⟨_,?_,a.hold _⟩;rw [yiY R.run b,yCa];show dk (mK 12 _ yF _ _ _ _) _=_;rw [yJ a.run (rfl)];show dk (yF _ _) _=_;rw [yCc,yJ a.run (rfl),ycA,yiu a.run a.held d e];rfl
end
section
variable {h:AH}{w:Int}{rows:List PV}{rest:List (Nat×Nd)}{c:Lc}{s:RS}
theorem yzq {k:Int}(R:RR w rows rest h c s) (er:rows[s.t]?=some (yV (.jump k))) (hk:0<=k):∃ h',ycm [.loc c.rn] h=some (.non,h')/\RR w rows rest h' c ⟨k.toNat,s.hs,s.sd,s.dd,s.sn⟩:=by have R1:=R.to (s.t+1);refine ⟨_,?_,R1.to k.toNat⟩;rw [yiY R.run er,yzp];show dk (mK 12 "lead" ybT _ _ (.loc c.rn) _) _=_;rw [yJ R1.run (by rfl')];show dk (ybT [.loc c.rn,yV (.jump k)] _) _=_;rw [show ∀ x h,ybT [x,yV (.jump k)] h=ob (fL [10,12] "at" [.val x,.val (yV (.jump k))] (.int k) x h) fnK by intro x h;kernel_rfl!,yml R1.run,show ((k.toNat:Nat):Int)=k by omega];rfl
theorem ysB {r:Str}{k:Int}(R:RR w rows rest h c s) (er:rows[s.t]?=some (yV (.unl r k))) (hr:r∈SL) (h8:s.hs.length=8) (hk:0<=k):∃ h',ycm [.loc c.rn] h=some (.non,h')/\RR w rows rest h' c ⟨if s.hs.getD (sx r) 0=0 then k.toNat else s.t+1,s.hs,s.sd,s.dd,s.sn⟩:=by
 have R1:=R.to (s.t+1);have i0:∀ h,ybc (yV (.unl r k)) (.int 0) h=some (.str "unless",h):=fun _=>rfl
 have i1:∀ h,ybc (yV (.unl r k)) (.int 1) h=some (.str r,h):=fun _=>rfl
 have i2:∀ h,ybc (yV (.unl r k)) (.int 2) h=some (.int k,h):=fun _=>rfl
 have nj:(("unless":Str) = "jump")=False:=eq_false (by rfl');have e1:∃ h',ybT [.loc c.rn,yV (.unl r k)] (h.set c.rn (ykH c.hl w c.lg rows (s.t+1:Nat) c.sn c.sd))=some (.non,h')/\RR w rows rest h' c ⟨if s.hs.getD (sx r) 0=0 then k.toNat else s.t+1,s.hs,s.sd,s.dd,s.sn⟩:=by
  delta ybT;have hh:=ydf (r:=r) R1.run R1.held h8 hr;have st:=yml (j:=k) (ρ:=[.val (.loc c.rn),.val (yV (.unl r k))]) R1.run
  by_cases z:s.hs.getD (sx r) 0=0
  .rw [if_pos z];refine ⟨_,?_,R1.to k.toNat⟩;rw [z] at hh;show ob (ybr _ _ _ [.val (.loc c.rn),.val (yV (.unl r k))] _) fnK=_;clear R er
   simpa [i0,i1,i2,nj,ycF,yJ (m:="held_in") R1.run (by rfl'),hh,yql,st,-yyv]
   rw [show ((k.toNat:Nat):Int)=k by omega]
  .rw [if_neg z];refine ⟨_,?_,R1⟩;show ob (ybr _ _ _ [.val (.loc c.rn),.val (yV (.unl r k))] _) fnK=_;clear R er
   simpa [i0,i1,i2,nj,ycF,yJ (m:="held_in") R1.run (by rfl'),hh,z,-yyv]
 obtain ⟨h',q1,q2⟩:=e1;refine ⟨h',?_,q2⟩;rw [yiY R.run er,ysy];show dk (mK 12 "lead" ybT _ _ (.loc c.rn) _) _=_;rw [yJ R1.run (by rfl')];show dk (ybT [.loc c.rn,yV (.unl r k)] _) _=_;rw [q1];rfl
theorem yzr (R:RR w rows rest h c s) {l:List Nat}{t:Nat}{ds:List _}{d d':List Key×List PV}(b:c.ly=l++[t]) (ed:s.dd=ds++[d]):RR w rows rest (h.set t (.dct d'.1 d'.2)) c { s with dd:=ds++[d'] }:=by
 have hl:l.length=ds.length:=by have:=R.len;simp_all
 have A:=R.at_;refine ⟨?_,by simp_all⟩;unfold RM at A ⊢;rw [b,ed,yeY _ _ _ _ hl] at A;rw [b,yeY _ _ _ _ hl,append_assoc];rw [append_assoc] at A;exact A.upd (a:=_::_::_::_::_::_::_::lay l ds) _
theorem ych {Z:Type}{xs:List Z}(h:xs.length≠0):∃ a y,xs=a++[y]:=⟨xs.dropLast,xs.getLast (by intro z;rw [z] at h;exact h rfl),(List.dropLast_concat_getLast _).symm⟩
theorem ysC {p r:Str}(R:RR w rows rest h c s) (hp:p∈SL) (j:r∈SL) (b:s.hs.length=8) (i:1<=w) {l:List Nat}{t:Nat}{ds:List _}{d:List Key×List PV}(f:c.ly=l++[t]) (ed:s.dd=ds++[d]) (n:d.1.length<400) :
  ycS [.loc c.rn,.str p,.str r] h=some (.non,h.set t (.dct (ycR d.1 d.2 (.inl (s.hs.getD (sx p) 0%w)) (.int (s.hs.getD (sx r) 0))).1 (ycR d.1 d.2 (.inl (s.hs.getD (sx p) 0%w)) (.int (s.hs.getD (sx r) 0))).2)):=by
 obtain ⟨y,x,g,u,o,v,q⟩:=ycY R.run;have G:=R.lg;have hl:l.length=ds.length:=by have:=R.len;simp_all
 have k:=by have A:=R.at_;unfold RM at A;rw [f,ed,yeY _ _ _ _ hl] at A;exact A.2 (t,.dct d.1 d.2) (by simp [lay])
 have e:=G;rw [f] at e;delta ycS;show ob (ybk _ [.val _,.val _,.val _] h) fnK=_
 simpa [g,ycF,yJ (m:="box_at") R.run (by rfl'),yJ (m:="held_in") R.run (by rfl'),yJ (m:="write") G.ob (by rfl'),yeX R.run R.held b hp i,ydf R.run R.held b j,yvB e k (Nat.lt_trans n _)]
theorem yCf {p r:Str}(R:RR w rows rest h c s) (e:rows[s.t]?=some (yV (.put p r))) (hp:p∈SL) (k:r∈SL) (i:1<=w) (g:okS s=true):∃ h',ycm [.loc c.rn] h=some (.non,h')/\RR w rows rest h' c ⟨s.t+1,s.hs,s.sd,yhe s.dd (s.hs.getD (sx p) 0%w) (s.hs.getD (sx r) 0),s.sn⟩:=by
 obtain ⟨f,o2,o,n,m⟩:=yhf g;have a:=R.to (s.t+1);obtain ⟨ds,d,ed⟩:=ych (xs:=s.dd) (by omega);obtain ⟨l,t,b⟩:=ych (xs:=c.ly) (by have:=R.len;omega);have j:=ysC a hp k f i b ed (m d (by rw [ed];simp));have R2:=yzr (d':=ycR d.1 d.2 (.inl (s.hs.getD (sx p) 0%w)) (.int (s.hs.getD (sx r) 0))) a b ed;refine ⟨_,?_,by
  have:yhe s.dd (s.hs.getD (sx p) 0%w) (s.hs.getD (sx r) 0)=ds++[ycR d.1 d.2 (.inl (s.hs.getD (sx p) 0%w)) (.int (s.hs.getD (sx r) 0))]:=by unfold yhe;rw [ed,List.getLast?_concat,List.dropLast_concat]
  rw [this];exact R2⟩
 rw [yiY R.run e,yCb];show dk (mK 12 _ yF _ _ _ _) _=_;rw [yJ a.run (rfl)];show dk (yF _ _) _=_;rw [yCd,yJ a.run (rfl),ycA,j];rfl
end
section
variable {h:AH}{w:Int}{rows:List PV}{rest:List (Nat×Nd)}{c:Lc}{s:RS}
theorem RR.side (R:RR w rows rest h c s) q:RR w rows rest (h.set c.sd (.lst (q.map sdV))) c { s with sd:=q }:=⟨R.at_.upd (a:=[_,_,_,_,_,_]) _,R.len⟩
theorem yCg {r:Rw}(R:RR w rows rest h c s) (v:s.sd.length<90) (o2:s.dd.length=s.sd.length+1):∃ h' c',ob (goE [.val (.loc c.rn),.val (yV r)] h) fnK=some (.non,h')/\RR w rows rest h' c' { s with sd:=s.sd++[(r,s.hs)],dd:=s.dd++[([],[])] }/\c'.rn=c.rn:=by
 obtain ⟨i,y,o,n,p,k,g⟩:=ycY R.run;have R2:=R.side (s.sd++[(r,s.hs)]);obtain ⟨l,z,j,t,q,B,u⟩:=ycY R2.run;have G:=R2.lg;have e:yiU (.loc c.sd) [.tup [yV r,.lst (s.hs.map .int)]] h=some (.non,h.set c.sd (.lst ((s.sd++[(r,s.hs)]).map sdV))):=by rw [ynB R.sds (by grind),map_append];rfl
 have f:=yvC G (by have:=R.len;omega);generalize x:h.set c.sd _=h2 at *;refine ⟨(h2++[Nd.dct [] []]).set c.st (.lst ((c.ly++[h2.length]).map .loc)),{ c with ly:=c.ly++[h2.length] },?_,⟨?_,?_⟩,rfl⟩
 rotate_left
 .have A:=R2.at_;have d:=At.new (.dct [] []) (a:=_::_::_::_::_::_::_::lay c.ly s.dd) A;have b:=At.upd (a:=[_,_,_]) (.lst ((c.ly++[h2.length]).map .loc)) d;unfold RM;rw [yeY _ _ _ _ R.len,append_assoc];exact b
 .rw [length_append,length_append,R.len];rfl
 unfold goE
 simpa [g,i,ydE R.sds,yhG R.held,e,j,ycF,yJ (m:="begin") G.ob (rfl),f]
theorem ysD {n:Nat}{xs:List PV}{y:PV}(e:h[n]?=some (.lst (xs++[y]))):yhn (.loc n) [] h=some (y,h.set n (.lst xs)):=by
 unfold yhn;simp only [e];have:(xs++[y])[(xs++[y]).length-1]?=some y:=by simp
 rw [this];simp
theorem ysE (R:RR w rows rest h c s) (L:okS s=true) (O:s.sd.length≠0):∃ h' c',ob (goS [.val (.loc c.rn),.val (yV .settle)] h) fnK=some (.non,h')/\RR w rows rest h' c' { s with sd:=s.sd.dropLast,dd:=yjE s.dd }/\c'.rn=c.rn:=by
 obtain ⟨h8,o2,o3,U,D⟩:=yhf L;obtain ⟨f1,W,Y,Z,T,f6,H⟩:=ycY R.run;obtain ⟨q,x,E⟩:=ych O;obtain ⟨d1,d,ed⟩:=ych (xs:=s.dd) (by omega);obtain ⟨ds,e,y⟩:=ych (xs:=d1) (by have:=congrArg length ed;simp at this;omega);obtain ⟨B,t,k⟩:=ych (xs:=c.ly) (by have:=R.len;omega);obtain ⟨l,u,o⟩:=ych (xs:=B) (by have a:=R.len;have b:c.ly.length=B.length+1:=(by rw [k];simp);omega);subst o y;have hl:l.length=ds.length:=by have:=R.len;rw [k,ed] at this;simpa using this
 have P:yjE s.dd=ds++[yiR d.1 d.2 e.1 e.2]:=by unfold yjE;rw [ed,List.getLast?_concat,List.dropLast_concat,List.getLast?_concat,List.dropLast_concat]
 have es:s.sd.dropLast=q:=by rw [E,List.dropLast_concat]
 rw [P,es];have R2:=R.side q;obtain ⟨g1,g2,I,X,S,g6,g7⟩:=ycY R2.run;have M:yhn (.loc c.sd) [] h=some (sdV x,h.set c.sd (.lst (q.map sdV))):=ysD (by rw [R.sds,E,map_append];rfl);have G:=R2.lg;have A:=R2.at_;generalize hh:h.set c.sd (.lst (q.map sdV))=h2 at *;have f:=by
  unfold RM at A;have n:lay c.ly s.dd=lay l ds++[(u,.dct e.1 e.2),(t,.dct d.1 d.2)]:=by rw [k,ed,append_assoc,append_assoc,yeY _ _ _ _ hl];rfl
  have:∀ z:List (Nat×Nd),(lay l ds++[(u,.dct e.1 e.2),(t,.dct d.1 d.2)])++z=lay l ds++((u,.dct e.1 e.2)::(t,.dct d.1 d.2)::z):=fun z=>by rw [append_assoc];rfl
  simpa only [n,this] using A
 have p:(lay l ds++((u,Nd.dct e.1 e.2)::(t,.dct d.1 d.2)::rest))[l.length]?=some (u,.dct e.1 e.2):=by rw [getElem?_append_right (by rw [yiv _ _ hl];omega),yiv _ _ hl,sub_self];rfl
 have v:(lay l ds++((u,Nd.dct e.1 e.2)::(t,.dct d.1 d.2)::rest))[l.length+1]?=some (t,.dct d.1 d.2):=by rw [getElem?_append_right (by rw [yiv _ _ hl];omega),yiv _ _ hl,Nat.add_sub_cancel_left,List.getElem?_cons_succ,List.getElem?_cons_zero]
 have nu:=f.ne (i:=3) (j:=7+l.length) (by omega) rfl (by rw [show 7+l.length=l.length+7 by omega];exact p);have F:=f.ne (i:=3) (j:=7+(l.length+1)) (by omega) rfl (by rw [show 7+(l.length+1)=(l.length+1)+7 by omega];exact v);have r:=f.ne (i:=7+l.length) (j:=7+(l.length+1)) (by omega) (by rw [show 7+l.length=l.length+7 by omega];exact p) (by rw [show 7+(l.length+1)=(l.length+1)+7 by omega];exact v);have C:=G;rw [k] at C;have J:=yss C (f.ne (i:=2) (j:=3) (by omega) rfl rfl) (fun z=>nu z.symm) (fun z=>F z.symm) r (f.get (7+l.length) (by rw [show 7+l.length=l.length+7 by omega];exact p)) (f.get (7+(l.length+1)) (by rw [show 7+(l.length+1)=(l.length+1)+7 by omega];exact v)) (by have a:=D e (by rw [ed];simp);have b:=D d (by rw [ed];simp);omega);refine ⟨(h2.set c.st (.lst ((l++[u]).map .loc))).set u (.dct (yiR d.1 d.2 e.1 e.2).1 (yiR d.1 d.2 e.1 e.2).2),{ c with ly:=l++[u] },?_,⟨?_,by show (l++[u]).length=(ds++[yiR d.1 d.2 e.1 e.2]).length;simp [hl]⟩,rfl⟩
 rotate_left
 .have K:=At.upd (a:=[_,_,_]) (.lst ((l++[u]).map .loc)) f;have N:=At.upd (a:=_::_::_::_::_::_::_::lay l ds) (.dct (yiR d.1 d.2 e.1 e.2).1 (yiR d.1 d.2 e.1 e.2).2) (b:=(t,.dct d.1 d.2)::rest) K;unfold RM;show At _ (_::_::_::_::_::_::_::(lay (l++[u]) (ds++[yiR d.1 d.2 e.1 e.2])++rest));rw [yeY _ _ _ _ hl,append_assoc];exact N.sub (((((((((List.Sublist.refl _).append (((List.sublist_cons_self _ _)).cons₂ _)).cons₂ _).cons₂ _).cons₂ _).cons₂ _).cons₂ _).cons₂ _).cons₂ _)
 unfold goS
 simpa [H,ydE R.sds,M,I,ycF,yJ (m:="settle") G.ob (by rfl'),J]
end
section
variable {w:Int}{rows:List PV}{rest:List (Nat×Nd)}
theorem yvO {h:AH}{c:Lc}{s:RS}(R:RR w rows rest h c s) {l:List Nat}{t:Nat}{ds:List (List Key×List PV)}{d:List Key×List PV}(el:c.ly=l++[t]) (ed:s.dd=ds++[d]):RR w rows rest (h.set c.st (.lst (l.map .loc))) { c with ly:=l } { s with dd:=ds }:=by
 have hl:l.length=ds.length:=by have:=R.len;rw [el,ed] at this;simpa using this
 refine ⟨?_,hl⟩;have A:=At.upd (a:=[_,_,_]) (.lst (l.map .loc)) R.at_;unfold RM;rw [el,ed,yeY _ _ _ _ hl,append_assoc] at A;exact A.sub (((((((((List.Sublist.refl _).append (List.sublist_cons_self _ _)).cons₂ _).cons₂ _).cons₂ _).cons₂ _).cons₂ _).cons₂ _).cons₂ _)
theorem yGh {L rn:Nat}{v1 v3:PV}{p4:PVar}:∀ (k f:Nat) (h:AH) (c:Lc) (s:RS),RR w rows rest h c s->c.rn=rn->s.sd.length=L+k->s.dd.length=s.sd.length+1->k<f ->
  ∃ h' c',whl lvC lvB f [.val (.loc rn),.val v1,.val (.int ((L+1:Nat):Int)),.val v3,p4] h=some (.nx [.val (.loc rn),.val v1,.val (.int ((L+1:Nat):Int)),.val v3,p4],h')/\RR w rows rest h' c' { s with sd:=s.sd.take L,dd:=s.dd.take (L+1) }/\c'.rn=rn:=by
 intro k
 induction k with
 | zero =>
  intro f h c s R hn hs hd hf;obtain ⟨f,rfl⟩:∃ g,f=g+1:=⟨f-1,by omega⟩
  subst hn;obtain ⟨f1,f2,f3,f4,f5,f6,f7⟩:=ycY R.run;refine ⟨h,c,?_,by rw [List.take_of_length_le (by omega),List.take_of_length_le (by omega)];exact R,rfl⟩;have ec:lvC [.val (.loc c.rn),.val v1,.val (.int ((L+1:Nat):Int)),.val v3,p4] h=some (false,h):=by
   have l1:yca [.loc c.sd] h=some (.int s.sd.length,h):=by rw [yia R.sds,length_map]
   have l2:oGe (.int (s.sd.length:Nat)) (.int ((L+1:Nat):Int)) h=some (.bl false,h):=by show some (PV.bl (decide (((L+1:Nat):Int)<=(s.sd.length:Nat))),h)=_;rw [decide_eq_false (by omega)]
   simpa [f7,l1,l2]
  rw [yvK,ec];rfl
 | succ k ih =>
  intro f h c s R hn hs hd hf;obtain ⟨f,rfl⟩:∃ g,f=g+1:=⟨f-1,by omega⟩
  subst hn;obtain ⟨f1,f2,f3,f4,f5,f6,f7⟩:=ycY R.run;obtain ⟨q,x,eq⟩:=ych (xs:=s.sd) (by omega);obtain ⟨ds,d,ed⟩:=ych (xs:=s.dd) (by omega);obtain ⟨l,t,el⟩:=ych (xs:=c.ly) (by have:=R.len;omega);have lq:s.sd.length=q.length+1:=by rw [eq];simp
  have ld:s.dd.length=ds.length+1:=by rw [ed];simp
  have R2:=R.side q;have e1:yhn (.loc c.sd) [] h=some (sdV x,h.set c.sd (.lst (q.map sdV))):=ysD (by rw [R.sds,eq,map_append];rfl);have ec:lvC [.val (.loc c.rn),.val v1,.val (.int ((L+1:Nat):Int)),.val v3,p4] h=some (true,h):=by
   have l1:yca [.loc c.sd] h=some (.int s.sd.length,h):=by rw [yia R.sds,length_map]
   have l2:oGe (.int (s.sd.length:Nat)) (.int ((L+1:Nat):Int)) h=some (.bl true,h):=by show some (PV.bl (decide (((L+1:Nat):Int)<=(s.sd.length:Nat))),h)=_;rw [decide_eq_true (by omega)]
   simpa [f7,l1,l2]
  obtain ⟨g1,g2,g3,g4,g5,g6,g7⟩:=ycY R2.run;have G:=R2.lg;have G':=G;rw [el] at G';have e2:=yzi G';have R3:=yvO R2 el ed;have eb:lvB [.val (.loc c.rn),.val v1,.val (.int ((L+1:Nat):Int)),.val v3,p4] h=some (.nx [.val (.loc c.rn),.val v1,.val (.int ((L+1:Nat):Int)),.val v3,p4],(h.set c.sd (.lst (q.map sdV))).set c.st (.lst (l.map .loc))):=by
   generalize h.set c.sd (.lst (q.map sdV))=h2 at *
   simpa [f7,ydE R.sds,e1,g3,ycF,yJ (m:="drop") G.ob (by rfl'),e2]
  obtain ⟨h',c',q1,q2,q3⟩:=ih f _ _ _ R3 rfl (by show q.length=L+k;omega) (by show ds.length=q.length+1;omega) (by omega);refine ⟨h',c',?_,?_,q3⟩
  .rw [yvK,ec,ycA,if_pos rfl,eb,ycA];exact q1
  .rw [eq,ed,List.take_append_of_le_length (by omega),List.take_append_of_le_length (by omega)];exact q2
end
section
variable {h:AH}{w:Int}{rows:List PV}{rest:List (Nat×Nd)}{c:Lc}{s:RS}
theorem RR.newh (R:RR w rows rest h c s) (q:List Int):RR w rows rest ((h++[Nd.lst (q.map .int)]).set c.rn (ykH h.length w c.lg rows s.t c.sn c.sd)) { c with hl:=h.length } { s with hs:=q }:=by refine ⟨?_,R.len⟩;have A:=At.new (.lst (q.map .int)) (a:=[_]) R.at_;have A1:=At.upd (a:=[]) (ykH h.length w c.lg rows s.t c.sn c.sd) A;exact A1.sub ((List.Sublist.cons _ (List.Sublist.refl _)).cons₂ _ |>.cons₂ _)
theorem yCh {b:Rw}(a:ygj b=true):ybc (yV b) (.int (-1)) h=some (.int (toB b),h):=by cases b<;>first|(cases a;done)|kernel_rfl!
theorem ypg {r:Rw}{L:Nat}{x:Rw×List Int}(R:RR w rows rest h c s) (A:okS s=true) (t:yvI r=true) (o:tkL s.sd r s.sd.length=L+1) (a:s.sd[L]?=some x) :
  ∃ h' c',yct [.loc c.rn,yV r] h=some (yV x.1,h')/\RR w rows rest h' c' ⟨(toB x.1).toNat,x.2,s.sd.take L,s.dd.take (L+1),s.sn⟩/\c'.rn=c.rn:=by
 obtain ⟨K,o2,N,g,G⟩:=yhf A;obtain ⟨I,O,F,M,H,J,z⟩:=ycY R.run;have E:L<s.sd.length:=(List.getElem?_eq_some_iff.mp a).1;obtain ⟨k,u,P⟩:=g x (mem_of_getElem? a);obtain ⟨h1,d,f,e,i⟩:=yGh (v1:=yV r) (v3:=sdV x) (p4:=.no) (L:=L) (s.sd.length-L) 1000 h c s R rfl (by omega) o2 (by omega);have f:yfs 1000 lvC lvB _ h=_:=f;have k0:0<=toB x.1:=by revert k u;cases x.1<;>simp [ygj,okR,toB]
 have R2:=e.newh x.2;rw [i] at R2;have D:=R2.to (toB x.1).toNat;refine ⟨_,_,?_,D,rfl⟩;have y:ybR (.loc c.sd) (.int (((L+1:Nat):Int)-1)) h=some (sdV x,h):=by unfold ybR;simp only [R.sds];rw [show ((L+1:Nat):Int)-1=(L:Nat) by omega,yee (by rw [getElem?_map,a];rfl)]
 have v:∀ h,ybc (sdV x) (.int 0) h=some (yV x.1,h):=fun _=>rfl
 have q:∀ h,ybc (sdV x) (.int 1) h=some (.lst (x.2.map .int),h):=fun _=>rfl
 have l:=ypf R.run R.sds (fun x a=>(g x a).1) t (by omega);rw [o] at l;have B:(h1++[Nd.lst (x.2.map .int)])[c.rn]?=some (ykH d.hl w d.lg rows s.t d.sn d.sd):=by rw [<- i,getElem?_append_left (List.getElem?_eq_some_iff.mp e.run).1];exact e.run
 have p:=yvL (j:=h1.length) (ρ:=[.val (.loc c.rn),.val (yV r),.val (.int ((L+1:Nat):Int)),.val (sdV x),.val (yV x.1)]) B;have n:=yml (j:=toB x.1) (ρ:=[.val (.loc c.rn),.val (yV r),.val (.int ((L+1:Nat):Int)),.val (sdV x),.val (yV x.1)]) R2.run;have C:=fun h=>yCh (h:=h) k
 delta yct;show ob (yl _ (yl _ (yl (yfs 1000 lvC lvB) _)) [.val (.loc c.rn),.val (yV r),.no,.no,.no] h) fnK=_
 simpa [ycF,yJ (m:="taker_layer") R.run (by rfl'),l,z,y,f,v,q,yql,p,C,n]
 rw [show (((toB x.1).toNat:Nat):Int)=toB x.1 by omega]
theorem yzs {L:Nat}{x:Rw×List Int}(R:RR w rows rest h c s) (b:rows[s.t]?=some (yV .wait)) (f:okS s=true) (i:tkL s.sd .wait s.sd.length=L+1) (d:s.sd[L]?=some x) :
  ∃ h' c',ycm [.loc c.rn] h=some (.non,h')/\RR w rows rest h' c' ⟨(toB x.1).toNat,x.2,s.sd.take L,s.dd.take (L+1),s.sn⟩/\c'.rn=c.rn:=by
 have a:=R.to (s.t+1);obtain ⟨h',c',g,e,j⟩:=ypg a f rfl i d;refine ⟨h',c',?_,e,j⟩;rw [yiY R.run b,yzo];show dk (mK 12 _ yct _ _ _ _) _=_;rw [yJ a.run (rfl)];show dk (yct _ _) _=_;rw [g];rfl
theorem yvP {L:Nat}{x:Rw×List Int}{a b:Str}(R:RR w rows rest h c s) (er:rows[s.t]?=some (yV (.throw a b))) (hb:b∈SL) (ok:okS s=true) (hL:tkL s.sd (.throw a b) s.sd.length=L+1) (hx:s.sd[L]?=some x) (hg:yhd x.1 (.throw a b)=true) :
  ∃ h' c',ycm [.loc c.rn] h=some (.non,h')/\RR w rows rest h' c' ⟨(toB x.1).toNat,x.2.set (sx (slB x.1)) (s.hs.getD (sx b) 0),s.sd.take L,s.dd.take (L+1),s.sn⟩/\c'.rn=c.rn:=by
 have R1:=R.to (s.t+1);obtain ⟨h8,o2,o3,o4,o5⟩:=yhf ok;obtain ⟨b1,b2,b3⟩:=o4 x (mem_of_getElem? hx);obtain ⟨h',c',q1,q2,q3⟩:=ypg (r:=.throw a b) R1 ok rfl hL hx;obtain ⟨nm,rr,k,ex⟩:∃ nm rr k,x.1=.guard nm rr k:=by revert hg;cases x.1<;>first|(intro hg;cases hg;done)|exact fun _=>⟨_,_,_,rfl⟩
 have hs:rr∈SL:=by rw [ex] at b2;unfold okR at b2;simp only [and_eq_true,decide_eq_true_eq] at b2;exact b2.1
 have e4:=yiu (v:=s.hs.getD (sx b) 0) q2.run q2.held b3 hs;rw [ex] at q1 q2 e4 ⊢;refine ⟨_,c',?_,q2.hold _,q3⟩;have e1:=ydf R1.run R1.held h8 hb;have i1:∀ h,ybc (yV (.throw a b)) (.int 2) h=some (.str b,h):=fun _=>rfl
 have i2:∀ h,ybc (yV (.guard nm rr k)) (.int 2) h=some (.str rr,h):=fun _=>rfl
 have r2:=q2.run;rw [q3] at r2 e4;rw [yiY R.run er,yvM];show dk (mK 12 "throw" ycK _ _ (.loc c.rn) _) _=_;rw [yJ R1.run (by rfl')];show dk (ycK [.loc c.rn,yV (.throw a b)] _) _=_;have:ycK [.loc c.rn,yV (.throw a b)] (h.set c.rn (ykH c.hl w c.lg rows (s.t+1:Nat) c.sn c.sd))=some (.non,h'.set c'.hl (.lst ((x.2.set (sx rr) (s.hs.getD (sx b) 0)).map .int))):=by
  delta ycK;show ob (yl _ _ [.val (.loc c.rn),.val (yV (.throw a b)),.no,.no] _) fnK=_
  simpa [ycF,yJ (m:="held_in") R1.run (by rfl'),yJ (m:="leave") R1.run (by rfl'),yJ (m:="hold") r2 (by rfl'),i1,i2,e1,q1,e4]
 rw [this];rfl
end
local macro_rules | `(tactic| walk_at "pw")=>`(tactic| simpa [$(sl_ "ykA yiX ymi ykB ykC ykD ymj ykE ykF ymk if_true if_false"),*])
section
variable {h:AH}{w:Int}{rows:List PV}{rest:List (Nat×Nd)}{c:Lc}{s s':RS}{r:Rw}
theorem ykI {sd:List (Rw×List Int)}:∀ {k L:Nat},tkL sd r k=L+1->∃ x,sd[L]?=some x/\yhd x.1 r=true
 | k+1,L,e=>by
  unfold tkL at e;split at e
  .rename_i x hx;split at e
   .rename_i ht;cases e;exact ⟨x,hx,ht⟩
   .exact ykI e
  .cases e
theorem yCi {p:Str}(R:RR w rows rest h c s):yej [.loc c.lg,.int (s.hs.getD (sx p) 0%w)] h=some (ysA s w p,h):=by rw [yBW R.lg,R.len];rfl
theorem yzt {x:PV}{r p:Str}:yF [x,yV (.take r p)] h=dk (mK 12 "take_own" ycs (fun _ h1=>some ([.str r,.str p],h1)) [] x h) [.val x,.val (yV (.take r p))]:=by kernel_rfl!
theorem ynK {r p:Str}{v:Int}(R:RR w rows rest h c s) (d:r∈SL) (hp:p∈SL) (b:s.hs.length=8) (f:1<=w) (ev:ysA s w p=.int v):ycs [.loc c.rn,.str r,.str p] h=some (.non,h.set c.hl (.lst ((s.hs.set (sx r) v).map .int))):=by
 obtain ⟨l,j,e,g,n,k,i⟩:=ycY R.run;have o:=yCi (p:=p) R;rw [ev] at o;delta ycs;show ob (ybk _ [.val _,.val _,.val _] h) fnK=_
 simpa [ycF,e,yJ (m:="hold") R.run (by rfl'),yJ (m:="own") R.lg.ob (rfl),yJ (m:="box_at") R.run (by rfl'),yeX R.run R.held b hp f,o,yiu R.run R.held b d]
theorem yzu {p:Str}(R:RR w rows rest h c s) (hp:p∈SL) (h8:s.hs.length=8) (hw:1<=w):ydi [.loc c.rn,.str p] h=some (.bl (isN (ysA s w p)),h):=by
 obtain ⟨f1,f2,f3,f4,f5,f6,f7⟩:=ycY R.run;delta ydi;show ob (yN _ [.val (.loc c.rn),.val (.str p)] h) fnK=_
 simpa [ycF,f3,yJ (m:="own") R.lg.ob (by rfl'),yJ (m:="box_at") R.run (by rfl'),yeX R.run R.held h8 hp hw,yCi R]
theorem yzv {r p:Str}{v:Int}(R:RR w rows rest h c s) (er:rows[s.t]?=some (yV (.take r p))) (hr:r∈SL) (hp:p∈SL) (h8:s.hs.length=8) (hw:1<=w) (ev:ysA s w p=.int v):∃ h',ycm [.loc c.rn] h=some (.non,h')/\RR w rows rest h' c ⟨s.t+1,s.hs.set (sx r) v,s.sd,s.dd,s.sn⟩:=by have R1:=R.to (s.t+1);refine ⟨_,?_,R1.hold _⟩;rw [yiY R.run er,yzn];show dk (mK 12 "go_plain" yF _ _ (.loc c.rn) _) _=_;rw [yJ R1.run (by rfl')];show dk (yF [.loc c.rn,yV (.take r p)] _) _=_;rw [yzt,yJ R1.run (by rfl'),ycA,ynK R1 hr hp h8 hw ev];rfl
theorem yEL {w:Str}{x y:Int}(b:w∈W5) (d:0<=x/\x<B64):yhH [.str w,.int x,.int y] h=some (.int (rk w x y),h):=by
 have a:MulOk x y:=.inl ⟨by omega,d.2⟩;delta yhH;show ob (yl _ _ [.val _,.val _,.val _] h) fnK=_;unfold rk;rcases yxc b with rfl|rfl|rfl|rfl|rfl
 .kernel_rfl!
 .kernel_rfl!
 .walk_at "pw";rw [if_pos a]
 .walk_at "pw";split<;>rfl
 .walk_at "pw";split<;>rfl
theorem ymm {v r p q:Str}(R:RR w rows rest h c s) (d:v∈W5) (g:r∈SL) (hp:p∈SL) (e:q∈SL) (b:s.hs.length=8) (f:0<=s.hs.getD (sx p) 0/\s.hs.getD (sx p) 0<B64):yce [.loc c.rn,.str v,.str r,.str p,.str q] h=some (.non,h.set c.hl (.lst ((s.hs.set (sx r) (rk v (s.hs.getD (sx p) 0) (s.hs.getD (sx q) 0))).map .int))):=by
 delta yce;show ob (ybk _ [.val _,.val _,.val _,.val _,.val _] h) fnK=_
 simpa [ycF,yJ (m:="hold") R.run (by rfl'),yJ (m:="held_in") R.run (by rfl'),ydf R.run R.held b hp,ydf R.run R.held b e,yEL d f,yiu R.run R.held b g]
theorem ysF {x:PV}{v r p q:Str}(g:v∈W5):yF [x,yV (.reckon v r p q)] h=dk (mK 12 "do_reckon" yce (fun _ h1=>some ([.str v,.str r,.str p,.str q],h1)) [] x h) [.val x,.val (yV (.reckon v r p q))]:=by
 rcases yxc g with rfl|rfl|rfl|rfl|rfl
 all_goals kernel_rfl!
theorem ysG {v r p q:Str}(R:RR w rows rest h c s) (i:rows[s.t]?=some (yV (.reckon v r p q))) (b:v∈W5) (g:r∈SL) (hp:p∈SL) (f:q∈SL) (d:s.hs.length=8) (e:0<=s.hs.getD (sx p) 0/\s.hs.getD (sx p) 0<B64):∃ h',ycm [.loc c.rn] h=some (.non,h')/\RR w rows rest h' c ⟨s.t+1,s.hs.set (sx r) (rk v (s.hs.getD (sx p) 0) (s.hs.getD (sx q) 0)),s.sd,s.dd,s.sn⟩:=by have a:=R.to (s.t+1);refine ⟨_,?_,a.hold _⟩;rw [yiY R.run i,ysz b];show dk (mK 12 _ yF _ _ _ _) _=_;rw [yJ a.run (rfl)];show dk (yF _ _) _=_;rw [ysF b,yJ a.run (rfl),ycA,ymm a b g hp f d e];rfl
theorem yzw (R:RR w rows rest h c s) (g:rows[s.t]?=some (yV r)) (u:1<=w) (e:ypT w r s=some s'):∃ h' c',ycm [.loc c.rn] h=some (.non,h')/\RR w rows rest h' c' s'/\c'.rn=c.rn:=by
 unfold ypT at e;split at e
 .rename_i t;obtain ⟨k1,j⟩:=Bool.and_eq_true_iff.mp t;obtain ⟨l,o2,G,I,H⟩:=yhf j;have z:∀ b:Rw,(∀ x h,goB [.val x,.val (yV b)] h=goE [.val x,.val (yV b)] h)->rows[s.t]?=some (yV b)->∃ h' c',ycm [.loc c.rn] h=some (.non,h')/\RR w rows rest h' c' ⟨s.t+1,s.hs,s.sd++[(b,s.hs)],s.dd++[([],[])],s.sn⟩/\c'.rn=c.rn:=fun b C g=>by obtain ⟨h',c',d,f,o⟩:=yCg (r:=b) (R.to (s.t+1)) G o2;exact ⟨h',c',by rw [yiY R.run g,C,d],f,o⟩
  cases r with
  | let_ a n =>
   cases e;obtain ⟨h',d,f⟩:=yCe R g (by simpa [okR] using k1) l;exact ⟨h',c,d,f,rfl⟩
  | put p a =>
   cases e;obtain ⟨k2,k3⟩:p∈SL/\a∈SL:=by simpa [okR] using k1
   obtain ⟨h',d,f⟩:=yCf R g k2 k3 u j;exact ⟨h',c,d,f,rfl⟩
  | take p a =>
   obtain ⟨k2,k3⟩:p∈SL/\a∈SL:=by simpa [okR] using k1
   dsimp only at e;split at e
   .rename_i v B;cases e;obtain ⟨h',d,f⟩:=yzv R g k2 k3 l u B;exact ⟨h',c,d,f,rfl⟩
   .cases e
  | jump k =>
   cases e;obtain ⟨h',d,f⟩:=yzq R g (by simpa [okR] using k1);exact ⟨h',c,d,f,rfl⟩
  | unl r k =>
   cases e;obtain ⟨k2,k3⟩:r∈SL/\0<=k:=by simpa [okR] using k1
   obtain ⟨h',d,f⟩:=ysB R g k2 l k3;exact ⟨h',c,d,f,rfl⟩
  | either k=>cases e;exact z _ (fun _ _=>ysw) g
  | guard a b k=>cases e;exact z _ (fun _ _=>yvN) g
  | settle =>
   dsimp only at e;split at e
   .cases e
   .rename_i D;cases e;obtain ⟨h',c',d,f,o⟩:=ysE (R.to (s.t+1)) j D;exact ⟨h',c',by rw [yiY R.run g,ysx,d],f,o⟩
  | reckon v a p q =>
   dsimp only at e;split at e
   .rename_i i;cases e;obtain ⟨⟨⟨k2,k3⟩,F⟩,k5⟩:((v∈W5/\a∈SL)/\p∈SL)/\q∈SL:=by simpa [okR] using k1
    obtain ⟨h',d,f⟩:=ysG R g k2 k3 F k5 l i;exact ⟨h',c,d,f,rfl⟩
   .cases e
  | lay=>cases e
  | wait =>
   dsimp only at e;unfold yjF at e;split at e
   .cases e
   .rename_i L m;split at e
    .rename_i x i;cases e;exact yzs R g j m i
    .cases e
  | throw a b =>
   dsimp only at e;unfold yjF at e;split at e
   .cases e
   .rename_i L m;split at e
    .rename_i x i;cases e;obtain ⟨y,A,E⟩:=ykI m;rw [i] at A;cases A;exact yvP R g (by simpa [okR] using k1) j m i E
    .cases e
 .cases e
noncomputable def yhs (w:Int) (s:RS):Rw->Bool
 | .take _ p=>isN (ysA s w p)
 | .wait=>decide (((tkL s.sd .wait s.sd.length:Nat):Int)=0)
 | .throw a b=>decide (((tkL s.sd (.throw a b) s.sd.length:Nat):Int)=0)
 | .lay=>true
 | _=>false
theorem ynL (R:RR w rows rest h c s) (er:rows[s.t]?=some (yV r)) (ok:okS s=true) (okr:okR r=true) (hw:1<=w):ybx [.loc c.rn] h=some (.bl (yhs w s r),h):=by
 obtain ⟨h8,o2,o3,o4,o5⟩:=yhf ok;rw [yzm R.run er];have tk:∀ b:Rw,yvI b=true->loB [.val (.loc c.rn),.val (yV b)] h=ob (yN (xOp (oEq) (M2 "taker_layer" ybm) (xC (.int 0))) [.val (.loc c.rn),.val (yV b)] h) (sqK (yN (xOp (oEq) (xOp (ybc) (ye 1) (xC (.int 0))) (xC (.str "lay")))))->ob (loB [.val (.loc c.rn),.val (yV b)] h) fnK=some (.bl (decide (((tkL s.sd b s.sd.length:Nat):Int)=0)),h):=fun b hb e=>by
  rw [e];show ob (ob (yN (xOp oEq (yk 12 "taker_layer" ybm (ye 0) (yc (ye 1) (yi))) (xC (.int 0))) [.val (.loc c.rn),.val (yV b)] h) _) fnK=_
  simpa [ycF,yJ (m:="taker_layer") R.run (by rfl'),ypf R.run R.sds (fun x hx=>(o4 x hx).1) hb (by omega)]
 cases r with
 | wait=>exact tk .wait rfl (by kernel_rfl!)
 | throw a b=>exact tk (.throw a b) rfl (by kernel_rfl!)
 | take a p =>
  obtain ⟨k2,k3⟩:a∈SL/\p∈SL:=by simpa [okR] using okr
  have i0:∀ h,ybc (yV (.take a p)) (.int 0) h=some (.str "take",h):=fun _=>rfl
  have i2:∀ h,ybc (yV (.take a p)) (.int 2) h=some (.str p,h):=fun _=>rfl
  unfold loB
  simpa [ycF,i0,i2,yJ (m:="sees_at") R.run (by rfl'),yzu R k3 h8 hw]
  rfl
 | reckon v a p q =>
  obtain ⟨⟨⟨k2,_⟩,_⟩,_⟩:((v∈W5/\a∈SL)/\p∈SL)/\q∈SL:=by simpa [okR] using okr
  rcases yxc k2 with rfl|rfl|rfl|rfl|rfl<;>kernel_rfl!
 | _=>kernel_rfl!
end
noncomputable def stB (m:List (Nat×Int×Int)) (sp:List Int):Bool:=(m.map fun p=>!decide (sp.getD p.1 0=p.2.2)).any id
theorem yCj {f:Nat×Int×Int->PV}:∀ {m:List _}{p:Nat×Int×Int},(m.map (·.1)).Nodup->p∈m->ykf (sK m) (m.map f) (.inl p.1)=some (f p)
 | q::m,p,c,hp=>by
  show (if (Sum.inl _:Key)=.inl _ then some _ else ykf _ _ _)=_;obtain ⟨d,b⟩:=List.nodup_cons.mp c;rcases mem_cons.mp hp with rfl|hp
  .rw [if_pos rfl]
  .rw [if_neg _]
   .exact yCj b hp
   grind
theorem ynM {Z:Type} f:∀ l:List Z,yhW (l.map fun a=>PV.bl (f a))=some (l.map f)
 | []=>rfl
 | a::l=>by
  show yhW (PV.bl _::l.map _)=some _;unfold yhW;simp only [ynM f l]
  try rfl
theorem yzx {f:Nat×Int×Int->PV}{k:Nat}{a b:Int}{m:List (Nat×Int×Int)}(hf:f (k,a,b)=v):ycR (sK m) (m.map f) (.inl (k:Int)) v=(sK (yeL m k a b),(yeL m k a b).map f):=by
 have e1:∀ m:List (Nat×Int×Int),yrB (sK m) (.inl (k:Int))=decide (k∈m.map (·.1)):=by
  intro m
  induction m with
  | nil=>rfl
  | cons q m ih =>
   show (if (Sum.inl (q.1:Int):Key)=.inl (k:Int) then true else yrB (sK m) (.inl (k:Int)))=_;rw [ih]
   by_cases e:q.1=k
   .rw [if_pos (by rw [e])];simp [e]
   .rw [if_neg (fun z=>e (by have:=Sum.inl.inj z;omega))];simp [Ne.symm e]
 have e2:∀ m:List (Nat×Int×Int),setK (sK m) (m.map f) (.inl (k:Int)) v=(m.map fun p=>if p.1=k then (k,a,b) else p).map f:=by
  intro m
  induction m with
  | nil=>rfl
  | cons q m ih =>
   show (if (Sum.inl (q.1:Int):Key)=.inl (k:Int) then v::setK (sK m) (m.map f) (.inl (k:Int)) v else f q::setK (sK m) (m.map f) (.inl (k:Int)) v)=f (if q.1=k then (k,a,b) else q)::_;rw [ih]
   by_cases e:q.1=k
   .rw [if_pos (by rw [e]),if_pos e,hf]
   .rw [if_neg (fun z=>e (by have:=Sum.inl.inj z;omega)),if_neg e]
 unfold ycR yeL;rw [e1]
 by_cases e:k∈m.map (·.1)
 .rw [if_pos (decide_eq_true e),if_pos e,e2];refine Prod.ext ?_ rfl;show sK m=(m.map fun p=>if p.1=k then (k,a,b) else p).map _;rw [map_map];refine List.map_congr_left fun p _=>?_
  show _=(Sum.inl (((if p.1=k then (k,a,b) else p).1:Nat):Int):Key)
  split
  .rename_i e;rw [e]
  .rfl
 .rw [if_neg (by simp [e]),if_neg e,map_append];unfold sK;rw [map_append,<- hf];rfl
section
variable {h:AH}{w:Int}{rows:List PV}{rest:List (Nat×Nd)}{c:Lc}{s s':RS}{r:Rw}{sp bx:List Int}{ma nu:Nat}
theorem ykJ (R:RR w rows rest h c s) (g:(ma,.lst (sp.map .int))∈rest) (j:(s.sn.map (·.1)).Nodup) (i:∀ p∈s.sn,p.1<sp.length) (hl:s.sn.length<=900):ycE [.loc c.rn,.loc ma] h=some (.bl (stB s.sn sp),h):=by
 obtain ⟨z,F,u,x,y,k,E⟩:=ycY R.run;have e:=R.at_.get 5 rfl;have A:=At.upd (a:=[_,_,_,_,_]) (.fz (sK s.sn) (sB s.sn)) R.at_;have f:=A.2 (ma,.lst (sp.map .int)) (by simp [g]);obtain ⟨H,G,C,v,B,t,D⟩:=ycY (A.get 0 rfl);have en:=A.get 5 rfl;have b:(h.set c.sn (.fz (sK s.sn) (sB s.sn))).set c.sn (.dct (sK s.sn) (sB s.sn))=h:=by rw [List.set_set];obtain ⟨I,q⟩:=List.getElem?_eq_some_iff.mp e;rw [<- q,List.set_getElem_self]
 have o:yjp (xOp (oNe) (xOp (ybR) (ye 1) (ye 0)) (yhZ (ybd [12] "seen_stamps" (ye 2)) (ye 0))) (ygW [1,0] [.val (.loc c.rn),.val (.loc ma)]) ((sK s.sn).map ykn) (h.set c.sn (.fz (sK s.sn) (sB s.sn)))=some (s.sn.map (fun p=>.bl (!decide (sp.getD p.1 0=p.2.2))),h.set c.sn (.fz (sK s.sn) (sB s.sn))):=by
  generalize h.set c.sn _=h1 at *;show yjp _ _ ((s.sn.map _).map ykn) _=_;rw [map_map];refine yfJ _ _ fun p hp=>?_
  show xOp _ _ _ [.val (.int (p.1:Int)),.val (.loc ma),.val (.loc c.rn)] _=_;have m:=yde f (i p hp);have d:yhZ (ybd [12] "seen_stamps" (ye 2)) (ye 0) [.val (.int (p.1:Int)),.val (.loc ma),.val (.loc c.rn)] h1=some (.int p.2.2,h1):=by
   unfold yhZ
   simpa [t]
   unfold yyC;simp only [en,keyOf];unfold sB;rw [yCj j hp]
  simpa [m,d]
 have n:∀ h,ywT [.lst (s.sn.map (fun p=>PV.bl _))] h=some (.bl (stB s.sn sp),h):=fun h=>by unfold ywT ybE;simp only [ynM _];rfl
 have l:ylY (ybd [12] "seen_stamps" (ye 0)) [1,0] (xOp (oNe) (xOp (ybR) (ye 1) (ye 0)) (yhZ (ybd [12] "seen_stamps" (ye 2)) (ye 0))) [.val (.loc c.rn),.val (.loc ma)] h=some (.lst (s.sn.map (fun p=>.bl (!decide (sp.getD p.1 0=p.2.2)))),h):=by
  unfold ylY
  simpa [k]
  simp only [e];rw [if_pos (by unfold sK;rw [length_map];omega),o,ycA,b]
 delta ycE;show ob (yN _ [.val (.loc c.rn),.val (.loc ma)] h) fnK=_
 simpa [l,n]
theorem RR.see (R:RR w rows rest h c s) k a b:RR w rows rest ((h.set c.sn (.dct (sK (yeL s.sn k a b)) (sB (yeL s.sn k a b)))).set c.ls (.dct (sK (yeL s.sn k a b)) (sA (yeL s.sn k a b)))) c { s with sn:=yeL s.sn k a b }:=by have A:=At.upd (a:=[_,_,_,_,_]) (.dct (sK (yeL s.sn k a b)) (sB (yeL s.sn k a b))) R.at_;exact ⟨At.upd (a:=[_,_,_,_]) _ A,R.len⟩
theorem yCk {o st b:Nat}{i:Int}{v:PV}{ks:List Key}{xs:List PV}(d:h[o]?=some (.ins 11 ["stack","last_seen"] [.loc st,.loc b])) (a:h[b]?=some (.dct ks xs)) (hl:ks.length<1000):ygd [.loc o,.int i,v] h=some (.non,h.set b (.dct (ycR ks xs (.inl i) v).1 (ycR ks xs (.inl i) v).2)):=by delta ygd;show ob (yki _ _ _ _ h) fnK=_;rw [ykG rfl (by rw [ykc,show ye 0 _ h=some _ from rfl,ycA,ysp d]) rfl a hl];rfl
theorem ynN {a p:Str}{k:Nat}(R:RR w rows rest h c s) (U:rows[s.t]?=some (yV (.take a p))) (H:(ma,.lst (sp.map .int))∈rest) (E:(nu,.lst (bx.map .int))∈rest) (q:s.hs.length=8) (I:a∈SL) (hp:p∈SL) (y:1<=w) (D:s.hs.getD (sx p) 0%w=(k:Nat)) (t:k<sp.length) (o:k<bx.length) (hl:s.sn.length<=900) :
  ∃ h',ydj [.loc c.rn,.loc nu,.loc ma] h=some (.int (k:Nat),h')/\RR w rows rest h' c ⟨s.t+1,s.hs.set (sx a) (bx.getD k 0),s.sd,s.dd,yeL s.sn k (bx.getD k 0) (sp.getD k 0)⟩:=by
 have g:=R.see k (bx.getD k 0) (sp.getD k 0);have R2:=g.hold (s.hs.set (sx a) (bx.getD k 0));refine ⟨_,?_,R2.to (s.t+1)⟩;obtain ⟨W,Z,f3,f4,X,T,Y⟩:=ycY R.run;have e:=At.upd (a:=[_,_,_,_,_]) (.dct (sK (yeL s.sn k (bx.getD k 0) (sp.getD k 0))) (sB (yeL s.sn k (bx.getD k 0) (sp.getD k 0)))) R.at_;have J:ybR (.loc ma) (.int (k:Nat)) h=some (.int (sp.getD k 0),h):=yde (R.at_.2 (ma,.lst (sp.map .int)) (by unfold RM;simp [H])) t;have N:∀ h,ybc (yV (.take a p)) (.int 1) h=some (.str a,h):=fun _=>rfl
 have S:∀ h,ybc (yV (.take a p)) (.int 2) h=some (.str p,h):=fun _=>rfl
 have C:=yeX R.run R.held q hp y;rw [D] at C;have G:(sK s.sn).length<1000:=by unfold sK;rw [length_map];omega
 have d1:=ykG (h:=h) (n:=c.sn) (i:=(k:Nat)) (x:=.int (sp.getD k 0)) (ed:=ybd [12] "seen_stamps" (ye 0)) (ek:=ye 4) (ev:=xOp (ybR) (ye 2) (ye 4)) (ρ:=[.val (.loc c.rn),.val (.loc nu),.val (.loc ma),.val (yV (.take a p)),.val (.int (k:Nat))]) (by simpa [J]) (by simpa [T]) rfl (R.at_.get 5 rfl) G;rw [show sB s.sn=s.sn.map (fun p=>.int p.2.2) from rfl,yzx (f:=fun p=>.int p.2.2) (a:=bx.getD k 0) (b:=sp.getD k 0) rfl] at d1;have F:=e.get 0 rfl;have ts:ycH [.loc c.rn,.str a,.str p,.loc nu] (h.set c.sn (.dct (sK (yeL s.sn k (bx.getD k 0) (sp.getD k 0))) (sB (yeL s.sn k (bx.getD k 0) (sp.getD k 0)))))=some (.non,((h.set c.sn (.dct (sK (yeL s.sn k (bx.getD k 0) (sp.getD k 0))) (sB (yeL s.sn k (bx.getD k 0) (sp.getD k 0))))).set c.ls (.dct (sK (yeL s.sn k (bx.getD k 0) (sp.getD k 0))) (sA (yeL s.sn k (bx.getD k 0) (sp.getD k 0))))).set c.hl (.lst ((s.hs.set (sx a) (bx.getD k 0)).map .int))):=by
  have B:=yeX (r:=p) (e.get 0 rfl) (e.get 1 rfl) q hp y;rw [D] at B;have K:=(ycY (e.get 0 rfl)).2.2.1;have s1:=yCk (i:=(k:Nat)) (v:=.int (bx.getD k 0)) (e.get 2 rfl) (e.get 4 rfl) G;rw [show sA s.sn=s.sn.map (fun p=>.int p.2.1) from rfl,yzx (f:=fun p=>.int p.2.1) (a:=bx.getD k 0) (b:=sp.getD k 0) rfl] at s1;have O:=yde (e.2 (nu,.lst (bx.map .int)) (by simp [E])) o;have P:=yde (g.at_.2 (nu,.lst (bx.map .int)) (by unfold RM;simp [E])) o;have L:=e.get 2 rfl;have A:=yiu (v:=bx.getD k 0) g.run g.held q I;have r2:=g.run;dsimp only at A r2;change _=some (PV.non,(h.set c.sn _).set c.ls (.dct (sK (yeL s.sn k (bx.getD k 0) (sp.getD k 0))) (sA (yeL s.sn k (bx.getD k 0) (sp.getD k 0))))) at s1;generalize (h.set c.sn _)=h1 at *;delta ycH;show ob (yl _ _ [.val (.loc c.rn),.val (.str a),.val (.str p),.val (.loc nu),.no] h1) fnK=_
  simpa [ycF,yJ (m:="box_at") F (by rfl'),B,K,yJ (m:="see") L (by rfl'),O,s1,yJ (m:="hold") r2 (by rfl'),P,A]
 have M:=R2.run;have l:=(ycY R2.run).2.2.2.2.1;have u:=fun ρ=>yml (j:=((s.t+1:Nat):Int)) (ρ:=ρ) R2.run
 have z:((s.t:Nat):Int)+1=((s.t+1:Nat):Int):=by omega
 dsimp only at l u M;change _=some (Out.nx _,h.set c.sn (.dct (sK (yeL s.sn k (bx.getD k 0) (sp.getD k 0))) (sB (yeL s.sn k (bx.getD k 0) (sp.getD k 0))))) at d1;delta ydj;show ob (yl _ _ [.val (.loc c.rn),.val (.loc nu),.val (.loc ma),.no,.no] h) fnK=_
 simpa [ycF,yJ (m:="row") R.run (by rfl'),yit R.run rfl U,N,S,yJ (m:="box_at") R.run (by rfl'),C,d1,yJ (m:="take_seen") F (by rfl'),ts,yql,l,z,u]
end
structure HC where
 H:Nat
 nu:Nat
 ma:Nat
 cr:Nat
 en:Nat
structure HQ where
 bx:List Int
 sp:List Int
 en:List PV
 cw:List Nat
 i:Nat
 hd:Nat
 ds:List PV
 nth:Nat
 sl:Bool
 bf:List Int
noncomputable def HL (g:HC) (rn:Nat) (w:Int) (q:HQ) (own:List (Nat×Nd)):List (Nat×Nd) :=
 (g.H,ypQ g.nu g.ma g.cr g.en)::(g.nu,.lst (q.bx.map .int))::(g.ma,.lst (q.sp.map .int))::(g.cr,.lst (q.cw.map .loc))::(g.en,.lst q.en)::(q.hd,ydG q.ds w q.nth q.sl q.bf rn)::own
structure NF (W:Nat) (s:RS):Prop where
 nd:(s.sn.map (·.1)).Nodup
 hb:∀ p∈s.sn,p.1<W
 hl:s.sn.length<=900
noncomputable def stN (q:HQ):Str:=if q.nth=q.ds.length then "ended" else if q.sl=true then "asleep" else "awake"
section
variable {h:AH}{w:Int}{rows:List PV}{c:Lc}{s s':RS}{r:Rw}{g:HC}{q:HQ}{own:List (Nat×Nd)}{rn:Nat}
theorem RR.rest {m:List _}(R:RR w rows m h c s):At h m:=by have A:=R.at_;exact At.sub A (List.sublist_append_right (_::_::_::_::_::_::_::lay c.ly s.dd) m)
theorem ynO (A:At h (HL g rn w q own)) (a:q.cw[q.i]?=some q.hd):ybR (.loc g.cr) (.int q.i) h=some (.loc q.hd,h):=by have e:=A.get 3 rfl;unfold ybR;simp only [e];rw [yee (by rw [getElem?_map,a];rfl)]
theorem yeo (A:At h (HL g rn w q own)) (a:q.cw[q.i]?=some q.hd):ycg [.loc g.H,.int q.i] h=some (.loc q.hd,h):=by
 obtain ⟨l,m,f,k⟩:=yds (A.get 0 rfl);have e:=A.get 3 rfl;have b:yek [.int q.i] h=some (.bl true,h):=rfl;have d:=ynO A a;have lt:=(List.getElem?_eq_some_iff.mp a).1;have i:((0:Int)<=q.i)=True:=eq_true (by omega);have j:((q.i:Int)<(q.cw.map PV.loc).length)=True:=eq_true (by simp_all);delta ycg;show ob (yl _ _ [.val _,.val _] h) fnK=_
 simpa [f,yia e,b,d,i,j]
theorem ygk (A:At h (HL g rn w q own)):ydm [.loc q.hd] h=some (.str (stN q),h):=by
 obtain ⟨d,i,b,f,j,k⟩:=ydH (A.get 5 rfl);unfold ydm stN;rw [yp];show ob (yl _ _ [.val _] h) fnK=_
 by_cases e:q.nth=q.ds.length
 .have a:=by omega
  rw [if_pos e]
  simpa [b,d,a]
 .have a:((q.nth:Int)=q.ds.length)=False:=eq_false (by omega);rw [if_neg e]
  simpa [b,d,f,a]
  cases q.sl<;>rfl
theorem awake (hn:q.nth<q.ds.length) (hs:q.sl=false):stN q = "awake":=by unfold stN;rw [if_neg (by omega),hs];rfl
theorem ysH (A:At h (HL g rn w q own)) (a:q.cw[q.i]?=some q.hd) (hs:(stN q = "awake")=False):yB [.loc g.H,.int q.i] h=some (.tup [.str "idle"],h):=by
 delta yB;show ob (yl _ _ [.val _,.val _,.no,.no] h) fnK=_
 simpa [ycF,yJ (m:="hand_at") (A.get 0 rfl) (rfl),yeo A a,yJ (m:="state") (A.get 5 rfl) (rfl),ygk A,hs]
theorem ysI (R:RR w rows (HL g c.rn w q own) h c s) (o:q.cw[q.i]?=some q.hd) (d:rows[s.t]?=some (yV r)) (i:1<=w) (p:q.nth<q.ds.length) (hs:q.sl=false) (t:okS s=true) (b:okR r=true) (a:yhs w s r=false) (e:ypT w r s=some s') :
  ∃ h' c',yB [.loc g.H,.int q.i] h=some (.tup [.str "gone",.int s.t],h')/\RR w rows (HL g c'.rn w q own) h' c' s':=by
 obtain ⟨h',c',k,j,n⟩:=yzw R d i e;refine ⟨h',c',?_,by rw [n];exact j⟩;have A:=R.rest;obtain ⟨x,C,D,B,v,l⟩:=ydH (A.get 5 rfl);obtain ⟨k1,k2,k3,y,k5,u,z⟩:=ycY R.run;have st:=ygk A;rw [awake p hs] at st;have f:=ynL R d t b i;rw [a] at f;delta yB;show ob (yl _ _ [.val _,.val _,.no,.no] h) fnK=_
 simpa [ycF,yJ (m:="hand_at") (A.get 0 rfl) (rfl),yeo A o,yJ (m:="state") (A.get 5 rfl) (rfl),st,l,k5,yJ (m:="is_looked_over") R.run (rfl),f,yJ (m:="go") R.run (rfl),k]
theorem ygl (R:RR w rows (HL g c.rn w q own) h c s) (n:q.cw[q.i]?=some q.hd) (f:rows[s.t]?=some (yV r)) (k:1<=w) (j:q.nth<q.ds.length) (hs:q.sl=false) (o:okS s=true) (d:okR r=true) (b:yhs w s r=true) (F:NF q.sp.length s) (fr:stB s.sn q.sp=false):yB [.loc g.H,.int q.i] h=ob (yS [.loc g.H,.int q.i,.int s.t] h) fun x h=>some (x,h):=by
 have A:=R.rest;obtain ⟨G,E,H,v,y,l⟩:=ydH (A.get 5 rfl);obtain ⟨u,p,z,D⟩:=yds (A.get 0 rfl);obtain ⟨k1,k2,k3,B,k5,t,C⟩:=ycY R.run;have st:=ygk A;rw [awake j hs] at st;have e:=ynL R f o d k;rw [b] at e;have sl:=ykJ R (mem_of_getElem? (i:=2) rfl) F.nd F.hb F.hl;rw [fr] at sl;delta yB;show ob (yl _ _ [.val _,.val _,.no,.no] h) fnK=_
 simpa [ycF,yJ (m:="hand_at") (A.get 0 rfl) (by rfl'),yeo A n,yJ (m:="state") (A.get 5 rfl) (rfl),st,l,k5,yJ (m:="is_looked_over") R.run (rfl),e,p,yJ (m:="is_stale") R.run (rfl),sl,yJ (m:="looked_over_told") (A.get 0 rfl) (rfl)]
theorem ysJ {a p:Str}{k:Nat}(R:RR w rows (HL g c.rn w q own) h c s) (n:q.cw[q.i]?=some q.hd) (f:rows[s.t]?=some (yV (.take a p))) (u:1<=w) (C:q.nth<q.ds.length) (hs:q.sl=false) (o:okS s=true) (d:okR (.take a p)=true) (e:isN (ysA s w p)=true) (F:NF q.sp.length s) (fr:stB s.sn q.sp=false) (B:s.hs.getD (sx p) 0%w=k) (b:k<q.bx.length) (z:q.sp.length=q.bx.length) :
  ∃ h',yB [.loc g.H,.int q.i] h=some (.tup [.str "seen",.int s.t,.int k,.int (q.bx.getD k 0)],h')/\RR w rows (HL g c.rn w q own) h' c ⟨s.t+1,s.hs.set (sx a) (q.bx.getD k 0),s.sd,s.dd,yeL s.sn k (q.bx.getD k 0) (q.sp.getD k 0)⟩:=by
 obtain ⟨J,o2,O,N,L⟩:=yhf o;obtain ⟨k2,k3⟩:a∈SL/\p∈SL:=by simpa [okR] using d
 obtain ⟨h',G,t⟩:=ynN R f (mem_of_getElem? (i:=2) rfl) (mem_of_getElem? (i:=1) rfl) J k2 k3 u B (by omega) b F.hl;refine ⟨h',?_,t⟩;rw [ygl R n f u C hs o d e F fr];have A:=R.rest;have l:=t.rest;obtain ⟨M,P,T,U,K,x⟩:=ydH (A.get 5 rfl);obtain ⟨v,H,E,S⟩:=yds (A.get 0 rfl);have j:=(yds (l.get 0 rfl)).1;have y:=ynO A n;have I:∀ h,ybc (yV (.take a p)) (.int 0) h=some _:=fun _=>rfl
 have D:=yde (l.get 1 rfl) b;delta yS;show ob (ob (yl _ _ [.val _,.val _,.val _,.no,.no,.no] h) fnK) _=_
 simpa [ycF,v,H,E,y,x,yJ (m:="row") R.run (rfl),yit R.run rfl f,I,yJ (m:="see_next") R.run (rfl),G,j,D]
theorem ysK {n:Nat}{ds:List PV}{w nth:Int}{sl v:Bool}{bf:List Int}{rn:Nat}{ρ:PSt}(e:h[n]?=some (ydG ds w nth sl bf rn)):fL [14] "sleeps" ρ (.bl v) (.loc n) h=some (.nx ρ,h.set n (ydG ds w nth v bf rn)):=yeW e (rfl) (rfl)
theorem RR.sub {m m':List _}(R:RR w rows m h c s) (u:m'.Sublist m):RR w rows m' h c s:=by refine ⟨?_,R.len⟩;have A:=R.at_;exact A.sub ((((((((List.Sublist.refl _).append u).cons₂ _).cons₂ _).cons₂ _).cons₂ _).cons₂ _).cons₂ _ |>.cons₂ _)
theorem RR.urest {a b:List _}{n:Nat}{d:Nd} d' (R:RR w rows (a++(n,d)::b) h c s):RR w rows (a++(n,d')::b) (h.set n d') c s:=by refine ⟨?_,R.len⟩;have A:=R.at_;unfold RM at A ⊢;rw [<- append_assoc] at A ⊢;exact At.upd (a:=_::_::_::_::_::_::_::(lay c.ly s.dd++a)) d' A
theorem ypU (R:RR w rows (HL g c.rn w q own) h c s) (d:q.cw[q.i]?=some q.hd) (e:rows[s.t]?=some (yV .wait)) (f:1<=w) (o:q.nth<q.ds.length) (hs:q.sl=false) (i:okS s=true) (b:yhs w s .wait=true) (F:NF q.sp.length s) (fr:stB s.sn q.sp=false) :
  ∃ h',yB [.loc g.H,.int q.i] h=some (.tup [.str "asleep",.int s.t],h')/\RR w rows (HL g c.rn w { q with sl:=true } own) h' c s:=by
 have A:=R.rest;refine ⟨h.set q.hd (ydG q.ds w q.nth true q.bf c.rn),?_,RR.urest (a:=[_,_,_,_,_]) _ R⟩;rw [ygl R d e f o hs i rfl b F fr];obtain ⟨u,B,D,z,y,k⟩:=ydH (A.get 5 rfl);obtain ⟨x,C,j,t⟩:=yds (A.get 0 rfl);have l:=ynO A d;have p:∀ h,ybc (yV .wait) (.int 0) h=some _:=fun _=>rfl
 have n:ycn [.loc q.hd] h=some (.non,h.set q.hd (ydG q.ds w q.nth true q.bf c.rn)):=by
  have s1:=fun ρ=>ysK (ρ:=ρ) (v:=true) (A.get 5 rfl)
  delta ycn;show ob (yda _ _ _ _ [.val _] h) fnK=_
  simpa [yql,s1]
 delta yS;show ob (ob (yl _ _ [.val _,.val _,.val _,.no,.no,.no] h) fnK) _=_
 simpa [ycF,j,l,k,yJ (m:="row") R.run (rfl),yit R.run rfl e,p,ynI,yJ (m:="fall_asleep") (A.get 5 rfl) (rfl),n]
end
section
variable {h:AH}{w:Int}{rows rows':List PV}{c:Lc}{s s':RS}{r:Rw}{g:HC}{q:HQ}{own:List (Nat×Nd)}{rn:Nat}
noncomputable def hp1 (h:AH) (bf:List Int):AH:=h++[Nd.lst (bf.map .int)]
def hp2 (h:AH) (bf:List Int):AH:=hp1 h bf++[Nd.dct [] []]
noncomputable def hp3 (h:AH) (bf:List Int):AH:=hp2 h bf++[Nd.lst [.loc (hp1 h bf).length]]
def hp4 (h:AH) (bf:List Int):AH:=hp3 h bf++[Nd.dct [] []]
noncomputable def hp5 (h:AH) (bf:List Int):AH:=hp4 h bf++[Nd.ins 11 ["stack","last_seen"] [.loc (hp2 h bf).length,.loc (hp3 h bf).length]]
def hp6 (h:AH) (bf:List Int):AH:=hp5 h bf++[Nd.dct [] []]
theorem yvQ {bf:List Int}:∃ h' c',ob (yeh [.lst rows,.lst (bf.map .int),.int w] h) (fun d h1=>some (PV.loc h1.length,h1++[d]))=some (.loc c'.rn,h')/\∀ m,At h m->RR w rows m h' c' (S0 bf):=by refine ⟨_,⟨_,h.length,(hp4 h bf).length,(hp2 h bf).length,(hp3 h bf).length,(hp5 h bf).length,(hp6 h bf).length,[(hp1 h bf).length]⟩,rfl,fun m A=>⟨?_,rfl⟩⟩;have e:=At.new (.dct [] []) (a:=[_]) (At.new (.lst (bf.map .int)) (a:=[]) A);have b:=At.new (.dct [] []) (a:=[_,_]) (At.new (.lst [.loc (hp1 h bf).length]) (a:=[_]) e);have f:=At.new (.ins 11 ["stack","last_seen"] [.loc (hp2 h bf).length,.loc (hp3 h bf).length]) (a:=[_]) b;exact At.new _ (a:=[]) (At.new (.lst []) (a:=[_,_,_,_,_]) (At.new _ (a:=[_,_,_,_]) f))
theorem yvR {n:Nat}{ds:List PV}{w nth v:Int}{sl:Bool}{bf:List Int}{rn:Nat}{ρ:PSt}(e:h[n]?=some (ydG ds w nth sl bf rn)):fL [14] "nth" ρ (.int v) (.loc n) h=some (.nx ρ,h.set n (ydG ds w v sl bf rn)):=yeW e (rfl) (rfl)
theorem yzy {n:Nat}{ds:List PV}{w nth:Int}{sl:Bool}{bf v:List Int}{rn:Nat}{ρ:PSt}(e:h[n]?=some (ydG ds w nth sl bf rn)):fL [14] "before" ρ (.lst (v.map .int)) (.loc n) h=some (.nx ρ,h.set n (ydG ds w nth sl v rn)):=yeW e (rfl) (rfl)
theorem ysL {n:Nat}{ds:List PV}{w nth:Int}{sl:Bool}{bf:List Int}{rn v:Nat}{ρ:PSt}(e:h[n]?=some (ydG ds w nth sl bf rn)):fL [14] "run" ρ (.loc v) (.loc n) h=some (.nx ρ,h.set n (ydG ds w nth sl bf v)):=yeW e (rfl) (rfl)
noncomputable def Due (ds:List PV) (nth:Nat) (rows:List PV):Prop:=nth<ds.length/\ds[nth]?=some (.lst rows)\/nth=ds.length/\rows=[]
theorem ygO {n:Nat}{ds:List PV}{nth:Nat}{bf:List Int}(f1:yeO [14] "deeds" (.loc n) h=some (.lst ds,h)) (f2:yeO [12,14] "width" (.loc n) h=some (.int w,h)) (f3:yeO [14] "nth" (.loc n) h=some (.int nth,h)) (f5:yeO [14] "before" (.loc n) h=some (.lst (bf.map .int),h)) (hr:Due ds nth rows):∃ h' c',ycf [.loc n] h=some (.loc c'.rn,h')/\∀ m,At h m->RR w rows m h' c' (S0 bf):=by
 obtain ⟨h',c',q1,q2⟩:=yvQ (h:=h) (w:=w) (rows:=rows) (bf:=bf);refine ⟨h',c',?_,q2⟩;delta ycf;show ob (yl _ _ [.val (.loc n),.no] h) fnK=_;rcases hr with ⟨h1,h2⟩|⟨h1,h2⟩
 .have e1:(((nth:Nat):Int)<(ds.length:Nat))=True:=eq_true (by omega);have e2:ybR (.lst ds) (.int (nth:Nat)) h=some (.lst rows,h):=by unfold ybR;simp only [yee h2]
  simpa [f3,f1,f5,f2,e1,e2,q1]
 .have e1:(((nth:Nat):Int)<(ds.length:Nat))=False:=eq_false (by omega);subst h2
  simpa [f3,f1,f5,f2,e1,q1]
theorem yvS {v:PV}{bf:List Int}(A:At h (HL g rn w q own)) (j:∀ h1,At h1 (HL g rn w { q with nth:=q.nth+1 } own)->yX [v] h1=some (.lst (bf.map .int),h1)) (f:Due q.ds (q.nth+1) rows) :
  ∃ h' c',ydW [.loc q.hd,v] h=some (.non,h')/\RR w rows (HL g c'.rn w { q with nth:=q.nth+1,bf:=bf } own) h' c' (S0 bf):=by
 obtain ⟨p,u,e,o,n,t⟩:=ydH (A.get 5 rfl);have d:At _ (HL g rn w { q with nth:=q.nth+1 } own):=At.upd (a:=[_,_,_,_,_]) _ A;have b:At ((h.set q.hd (ydG q.ds w (q.nth+1:Nat) q.sl q.bf rn)).set q.hd (ydG q.ds w (q.nth+1:Nat) q.sl bf rn)) _:=At.upd (a:=[_,_,_,_,_]) _ d;have s1:=fun ρ=>yvR (ρ:=ρ) (v:=(q.nth+1:Nat)) (A.get 5 rfl)
 have s2:=fun ρ=>yzy (ρ:=ρ) (v:=bf) (d.get 5 rfl)
 have k:=j _ d;obtain ⟨a1,a2,a3,a4,a5,a6⟩:=ydH (b.get 5 rfl);obtain ⟨h',c',l,i⟩:=ygO a1 a2 a3 a5 f;have R:=i _ b;have B:=R.rest;have s3:=fun ρ=>ysL (ρ:=ρ) (v:=c'.rn) (B.get 5 rfl)
 refine ⟨_,c',?_,RR.urest _ R⟩;have z:(q.nth:Int)+1=(q.nth+1:Nat):=rfl;delta ydW;show ob (yl _ _ [.val _,.val v] h) fnK=_
 simpa [yql,ycF,e,z,s1,s2,k,yJ (m:="new_run") (b.get 5 rfl) (rfl),l,s3]
def EX (c:Lc) (w:Int) (rows:List PV) (s:RS):List (Nat×Nd):=RM w rows c s []
theorem yiw {m:List _}:RM w rows c s m=EX c w rows s++m:=by unfold EX RM;simp
theorem RR.hl (R:RR w rows (HL g c.rn w q own) h c s):At h (HL g c.rn w q (EX c w rows s++own)):=by have A:=R.at_;rw [yiw] at A;exact A.perm (show (HL g c.rn w q []++(EX c w rows s++own)).Perm _ from List.perm_append_comm_assoc _ _ _)
theorem yCl {L:List PV}{b st:Nat}{m:List _}(a:h[b]?=some (.ins 11 ["stack","last_seen"] [.loc st,.loc rn])) (d:h[rn]?=some (.dct (sK m) (sA m))) (hs:sortI (sK m) (sA m)=some L):yge [.loc b] h=some (.lst L,h):=by have a:=ysp a;unfold yge;rw [yp,ypJ,yDb];unfold yjw;rw [ykc,show ye 0 _ h=some _ from rfl,ycA,a,ycA];unfold ylS;simp only [d,hs];rfl
noncomputable def yAb (q:HQ) (en:PV) (L laid:List PV) (bf:List Int):PV:=.tup [.int (q.i:Nat),.int (q.nth:Nat),en,.lst L,.lst laid,.lst (bf.map .int)]
theorem yix {en v:PV}{L laid:List PV}{bf:List Int}(A:At h (HL g c.rn w q (EX c w rows s++own))) (n:q.cw[q.i]?=some q.hd) (hs:sortI (sK s.sn) (sA s.sn)=some L) (e:∀ h1 p,At h1 (HL g c.rn w p (EX c w rows s++own))->yX [v] h1=some (.lst (bf.map .int),h1)) (x:Due q.ds (q.nth+1) rows') (hl:q.en.length<1000) :
  ∃ h' c',ycx [.loc g.H,.int q.i,en,.lst laid,v] h=some (.non,h')/\RR w rows' (HL g c'.rn w { q with en:=q.en++[yAb q en L laid bf],nth:=q.nth+1,bf:=bf } own) h' c' (S0 bf):=by
 obtain ⟨E,I,f,y⟩:=yds (A.get 0 rfl);obtain ⟨k1,k2,k3,B,k5,o⟩:=ydH (A.get 5 rfl);obtain ⟨D,r2,u,H,F,C,G⟩:=ycY (A.get 6 rfl);have l:=ynO A n;have b:=A.get 4 rfl;have d:At _ (HL g c.rn w { q with en:=q.en++[yAb q en L laid bf] } _):=At.upd (a:=[_,_,_,_]) _ A;obtain ⟨h',c',z,k⟩:=yvS d (fun h1 a=>e h1 _ a) x;refine ⟨h',c',?_,k.sub ((((((List.sublist_append_right _ _).cons₂ _).cons₂ _).cons₂ _).cons₂ _).cons₂ _ |>.cons₂ _)⟩;have i:yiU _ [.tup _] h=some (.non,h.set g.en (.lst (q.en++[yAb q en L laid bf]))):=ynB b (by omega);have j:=e _ _ A;have t:=yCl (A.get 8 rfl) (A.get 10 rfl) hs;delta ycx;show ob (yl _ _ [.val _,.val _,.val en,.val _,.val v,.no] h) fnK=_
 simpa [ycF,f,l,y,ydE b,k3,o,u,yJ (m:="saw") (A.get 8 rfl) (rfl),t,j,i,yJ (m:="go_on") (d.get 5 rfl) (rfl),z]
theorem ypV:(("lay":Str) = "take")=False:=eq_false (by rfl')
theorem ypW:(("lay":Str) = "wait")=False:=eq_false (by rfl')
theorem ynP:(("lay":Str) = "throw")=False:=eq_false (by rfl')
theorem ysM {L:List PV}{a b:Str}(R:RR w rows (HL g c.rn w q own) h c s) (e:q.cw[q.i]?=some q.hd) (i:rows[s.t]?=some (yV (.throw a b))) (o:1<=w) (G:q.nth<q.ds.length) (hs:q.sl=false) (j:okS s=true) (d:okR (.throw a b)=true) (f:yhs w s (.throw a b)=true) (F:NF q.sp.length s) (fr:stB s.sn q.sp=false) (p:sortI (sK s.sn) (sA s.sn)=some L) (u:Due q.ds (q.nth+1) rows') (hl:q.en.length<1000) :
  ∃ h' c',yB [.loc g.H,.int q.i] h=some (.tup [.str "fell",.int s.t],h')/\RR w rows' (HL g c'.rn w { q with en:=q.en++[yAb q (.tup [.str "fell",.str a,.int (s.hs.getD (sx b) 0)]) L [] q.bf],nth:=q.nth+1 } own) h' c' (S0 q.bf):=by
 obtain ⟨D,o2,O,K,N⟩:=yhf j;have A:=R.hl;have t:=by simpa [okR] using d
 obtain ⟨h',c',y,l⟩:=yix (v:=.lst _) A e p (fun h1 _ _=>rfl) u hl;refine ⟨h',c',?_,l⟩;rw [ygl R e i o G hs j d f F fr];obtain ⟨J,P,U,M,k,x⟩:=ydH (A.get 5 rfl);obtain ⟨T,S,z,I⟩:=yds (A.get 0 rfl);have B:=ynO A e;have C:=ydf R.run R.held D t;have E:∀ h,ybc (yV (.throw a b)) (.int 0) h=some _:=fun _=>rfl
 have n:∀ h,ybc (yV (.throw a b)) (.int 1) h=some _:=fun _=>rfl
 have H:∀ h,ybc (yV (.throw a b)) (.int 2) h=some _:=fun _=>rfl
 delta yS;show ob (ob (yl _ _ [.val _,.val _,.val _,.no,.no,.no] h) fnK) _=_
 simpa [ycF,z,B,x,yJ (m:="row") R.run (rfl),yit R.run rfl i,E,n,H,ymg,yhc,yJ (m:="held_in") R.run (rfl),C,k,yJ (m:="end_deed") (A.get 0 rfl) (rfl),y]
end
noncomputable def ybl (p:Nat×Int):PV:=.tup [.int (p.1:Nat),.int p.2]
noncomputable def ymn:List Int->List (Nat×Int)->List Int
 | bx,[]=>bx
 | bx,p::r=>ymn (bx.set p.1 p.2) r
noncomputable def ykK:List Int->List (Nat×Int)->List Int
 | sp,[]=>sp
 | sp,p::r=>ykK (sp.set p.1 (sp.getD p.1 0+1)) r
theorem yph:∀ l bx,(ymn bx l).length=bx.length
 | [],_=>rfl
 | p::r,bx=>by show (ymn _ r).length=_;rw [yph r,length_set]
theorem ykL:∀ l bx,(ykK bx l).length=bx.length
 | [],_=>rfl
 | p::r,bx=>by show (ykK _ r).length=_;rw [ykL r,length_set]
section
variable {h:AH}{w:Int}{rows rows':List PV}{c:Lc}{s s':RS}{r:Rw}{g:HC}{q:HQ}{own:List (Nat×Nd)}{rn:Nat}
theorem ygP {n:Nat}{xs:List Int}{k:Nat}{v:Int}{eo ei ev:XE}{ρ:PSt}(f:ev ρ h=some (.int v,h)) (i:eo ρ h=some (.loc n,h)) (a:ei ρ h=some (.int k,h)) (e:h[n]?=some (.lst (xs.map .int))) (b:k<xs.length):yho eo ei ev ρ h=some (.nx ρ,h.set n (.lst ((xs.set k v).map .int))):=by
 have d:ixN (xs.map PV.int).length k=some k:=by unfold ixN;simp [b]
 unfold yho;rw [f,ycA,i,ycA,a,ycA];simp only [e,d];rw [map_set]
theorem yht {G:XG}{S:XS}{x:PV}{xs:List PV}{ρ ρ1 ρ2:PSt}{h1:AH}(b:G x ρ=some ρ1) (a:S ρ1 h=some (.nx ρ2,h1)):yeR G S (x::xs) ρ h=yeR G S xs ρ2 h1:=by show (G x ρ).bind _=_;rw [b,bind_some,a];rfl
theorem ypi {v1 v2 v3:PVar}:∀ (l:List (Nat×Int)) (q:HQ) (h:AH) (v4 v5:PVar),At h (HL g rn w q own)->(∀ p∈l,p.1<q.bx.length)->q.sp.length=q.bx.length ->
  ∃ h' v4' v5',yeR (yr 4) ldB (l.map ybl) [.val (.loc g.H),v1,v2,v3,v4,v5] h=some (.nx [.val (.loc g.H),v1,v2,v3,v4',v5'],h')/\At h' (HL g rn w { q with bx:=ymn q.bx l,sp:=ykK q.sp l } own)
 | [],q,h,v4,v5,A,_,_=>⟨h,v4,v5,rfl,A⟩
 | p::l,q,h,v4,v5,A,hb,hs=>by
  have hp:=hb p mem_cons_self;obtain ⟨g1,g2,g3,g4⟩:=yds (A.get 0 rfl);have A1:At (h.set g.nu (.lst ((q.bx.set p.1 p.2).map .int))) (HL g rn w { q with bx:=q.bx.set p.1 p.2 } own):=At.upd (a:=[_]) _ A;have A2:At ((h.set g.nu (.lst ((q.bx.set p.1 p.2).map .int))).set g.ma (.lst ((q.sp.set p.1 (q.sp.getD p.1 0+1)).map .int))) (HL g rn w { q with bx:=q.bx.set p.1 p.2,sp:=q.sp.set p.1 (q.sp.getD p.1 0+1) } own):=At.upd (a:=[_,_]) _ A1;obtain ⟨t1,t2,t3,t4⟩:=yds (A1.get 0 rfl);have s1:=ygP (h:=h) (xs:=q.bx) (k:=p.1) (v:=p.2) (eo:=ybd [15] "numbers" (ye 0)) (ei:=ye 5) (ev:=xOp (ybc) (ye 4) (xC (.int 1))) (ρ:=[.val (.loc g.H),v1,v2,v3,.val (ybl p),.val (.int (p.1:Nat))]) rfl (by simpa [g1]) rfl (A.get 1 rfl) hp;have s2:=ygP (h:=h.set g.nu (.lst ((q.bx.set p.1 p.2).map .int))) (xs:=q.sp) (k:=p.1) (v:=q.sp.getD p.1 0+1) (eo:=ybd [15] "marks" (ye 0)) (ei:=ye 5) (ev:=xOp yeu (xOp (ybR) (ybd [15] "marks" (ye 0)) (ye 5)) (xC (.int 1))) (ρ:=[.val (.loc g.H),v1,v2,v3,.val (ybl p),.val (.int (p.1:Nat))]) (by
   have i3:=yde (A1.get 2 rfl) (show p.1<q.sp.length by omega)
   simpa [t2,i3]) (by simpa [t2]) rfl (A1.get 2 rfl) (by omega)
  have i0:∀ h,ybc (ybl p) (.int 0) h=some (.int (p.1:Nat),h):=fun _=>rfl
  have bd:ldB [.val (.loc g.H),v1,v2,v3,.val (ybl p),v5] h=some (.nx [.val (.loc g.H),v1,v2,v3,.val (ybl p),.val (.int (p.1:Nat))],(h.set g.nu (.lst ((q.bx.set p.1 p.2).map .int))).set g.ma (.lst ((q.sp.set p.1 (q.sp.getD p.1 0+1)).map .int))):=by
   unfold ldB
   simpa [i0,s1,s2]
  obtain ⟨h',a,b,e1,e2⟩:=ypi (v1:=v1) (v2:=v2) (v3:=v3) l _ _ (.val (ybl p)) (.val (.int (p.1:Nat))) A2 (fun x hx=>by show x.1<(q.bx.set p.1 p.2).length;rw [length_set];exact hb x (mem_cons_of_mem _ hx)) (by show (q.sp.set _ _).length=(q.bx.set _ _).length;rw [length_set,length_set];exact hs);refine ⟨h',a,b,?_,e2⟩;show yeR _ _ (ybl p::l.map ybl) _ h=_;rw [yht (by kernel_rfl!) bd];exact e1
theorem yvT {o st b l0:Nat}{d:List Key×List PV}{ks:List Key}{xs L:List PV}(G:LG h o st b [l0] [d] ks xs) (hs:sortI d.1 d.2=some L):yeA [.loc o] h=some (.lst L,h):=by
 have e1:=yfM G.ob;have e2:=G.st;have e3:h[l0]?=some (.dct d.1 d.2):=G.dl.1;have i2:ybR (.loc st) (.int 0) h=some (.loc l0,h):=by unfold ybR;simp only [e2];rfl
 delta yeA;show ob (yl _ _ [.val (.loc o),.no] h) fnK=_
 simpa [e1,i2]
 unfold yjw;symm;unfold ylS;simp only [e3,hs];rfl
theorem yCm {L:List PV}{l:List _}{d:List Key×List PV}(R:RR w rows (HL g c.rn w q own) h c s) (i:q.cw[q.i]?=some q.hd) (ed:s.dd=[d]) (o:sortI d.1 d.2=some (l.map ybl)) (j:∀ p∈l,p.1<q.bx.length) (e:q.sp.length=q.bx.length) (k:sortI (sK s.sn) (sA s.sn)=some L) (v:Due q.ds (q.nth+1) rows') (hl:q.en.length<1000) :
  ∃ h1 c',(∀ h2,ybC [.loc g.H] h1=some (.non,h2)->ycT [.loc g.H,.int q.i] h=some (.non,h2))/\RR w rows' (HL g c'.rn w { q with bx:=ymn q.bx l,sp:=ykK q.sp l,en:=q.en++[yAb q (.tup [.str "done"]) L (l.map ybl) s.hs],nth:=q.nth+1,bf:=s.hs } own) h1 c' (S0 s.hs):=by
 have A:=R.hl;obtain ⟨l0,D⟩:∃ l0,c.ly=[l0]:=by have:=R.len;rw [ed] at this;exact List.length_eq_one_iff.mp this
 have G:=R.lg;rw [D,ed] at G;have wr:=yvT G o;obtain ⟨F,P,n,J⟩:=yds (A.get 0 rfl);obtain ⟨k1,k2,k3,H,k5,z⟩:=ydH (A.get 5 rfl);obtain ⟨N,r2,u,E,O,U,M⟩:=ycY R.run;have x:=ynO A i;obtain ⟨K,v4,v5,B,b⟩:=ypi (v1:=.val (.int q.i)) (v2:=.val (.loc c.rn)) (v3:=.val (.lst (l.map ybl))) l q h .no .no A j e;obtain ⟨h',c',C,f⟩:=yix b i k (fun h1 S a=>yhG (a.get 7 rfl)) v hl;refine ⟨h',c',fun h2 t=>?_,f⟩;obtain ⟨u1,W,T,I,u5,u6,u7⟩:=ycY (b.get 6 rfl);have y:xIL (ye 3) [.val (.loc g.H),.val (.int q.i),.val (.loc c.rn),.val _,.no,.no] h=some (l.map ybl,h):=ykz rfl;delta ycT;show ob (yl _ _ [.val _,.val _,.no,.no,.no,.no] h) fnK=_
 simpa [ycF,n,x,z,u,yJ (m:="wrote") R.lg.ob (rfl),wr,y,B,u1,yJ (m:="end_deed") (b.get 0 rfl) (rfl),C,yJ (m:="wake_stale") (f.rest.get 0 rfl) (rfl),t]
theorem ysN {L:List PV}{l:List _}{d:List Key×List PV}(R:RR w rows (HL g c.rn w q own) h c s) (b:q.cw[q.i]?=some q.hd) (f:rows[s.t]?=some (yV .lay)) (i:1<=w) (y:q.nth<q.ds.length) (hs:q.sl=false) (z:okS s=true) (F:NF q.sp.length s) (fr:stB s.sn q.sp=false) (ed:s.dd=[d]) (C:sortI d.1 d.2=some (l.map ybl)) (k:∀ p∈l,p.1<q.bx.length) (a:q.sp.length=q.bx.length) (j:sortI (sK s.sn) (sA s.sn)=some L) (t:Due q.ds (q.nth+1) rows') (hl:q.en.length<1000) :
  ∃ h1 c',(∀ h2,ybC [.loc g.H] h1=some (.non,h2)->yB [.loc g.H,.int q.i] h=some (.tup [.str "done",.int s.t],h2))/\RR w rows' (HL g c'.rn w { q with bx:=ymn q.bx l,sp:=ykK q.sp l,en:=q.en++[yAb q (.tup [.str "done"]) L (l.map ybl) s.hs],nth:=q.nth+1,bf:=s.hs } own) h1 c' (S0 s.hs):=by
 obtain ⟨h',c',e,x⟩:=yCm R b ed C k a j t hl;refine ⟨h',c',fun h2 o=>?_,x⟩;have e:=e h2 o;rw [ygl R b f i y hs z rfl rfl F fr];have A:=R.rest;obtain ⟨K,I,M,H,D,u⟩:=ydH (A.get 5 rfl);obtain ⟨G,J,n,E⟩:=yds (A.get 0 rfl);have v:=ynO A b;have B:∀ h,ybc (yV .lay) (.int 0) h=some _:=fun _=>rfl
 delta yS;show ob (ob (yl _ _ [.val _,.val _,.val _,.no,.no,.no] h) fnK) _=_
 simpa [ycF,n,v,u,yJ (m:="row") R.run (rfl),yit R.run rfl f,B,ypV,ypW,ynP,yJ (m:="lay_down") (A.get 0 rfl) (rfl),e]
theorem ysO (R:RR w rows (HL g c.rn w q own) h c s) (j:Due q.ds q.nth rows'):∃ h' c',ybU [.loc q.hd] h=some (.non,h')/\RR w rows' (HL g c'.rn w { q with sl:=false } own) h' c' (S0 q.bf):=by
 have A:=R.rest;have d:At (h.set q.hd (ydG q.ds w q.nth false q.bf c.rn)) _:=At.upd (a:=[_,_,_,_,_]) _ A;have s1:=fun ρ=>ysK (ρ:=ρ) (v:=false) (A.get 5 rfl)
 obtain ⟨a1,a2,a3,a4,a5,a6⟩:=ydH (d.get 5 rfl);obtain ⟨h',c',f,i⟩:=ygO a1 a2 a3 a5 j;have e:=i _ d;have B:=e.rest;have s3:=fun ρ=>ysL (ρ:=ρ) (v:=c'.rn) (B.get 5 rfl)
 refine ⟨_,c',?_,RR.urest _ e⟩;delta ybU;show ob (yl _ _ [.val _] h) fnK=_
 simpa [yql,ycF,s1,yJ (m:="new_run") (d.get 5 rfl) (by rfl'),f,s3]
theorem ysP (R:RR w rows (HL g c.rn w q own) h c s) (o:q.cw[q.i]?=some q.hd) (e:rows[s.t]?=some (yV r)) (k:1<=w) (t:q.nth<q.ds.length) (hs:q.sl=false) (f:okS s=true) (b:okR r=true) (a:yhs w s r=true) (F:NF q.sp.length s) (fr:stB s.sn q.sp=true) (l:Due q.ds q.nth rows') :
  ∃ h' c',yB [.loc g.H,.int q.i] h=some (.tup [.str "anew",.int s.t],h')/\RR w rows' (HL g c'.rn w { q with sl:=false } own) h' c' (S0 q.bf):=by
 obtain ⟨h',c',j,p⟩:=ysO R l;refine ⟨h',c',?_,p⟩;have A:=R.rest;obtain ⟨E,G,I,x,y,n⟩:=ydH (A.get 5 rfl);obtain ⟨H,u,z,C⟩:=yds (A.get 0 rfl);obtain ⟨k1,k2,k3,B,k5,v,D⟩:=ycY R.run;have st:=ygk A;rw [awake t hs] at st;have d:=ynL R e f b k;rw [a] at d;have sl:=ykJ R (mem_of_getElem? (i:=2) rfl) F.nd F.hb F.hl;rw [fr] at sl;delta yB;show ob (yl _ _ [.val _,.val _,.no,.no] h) fnK=_
 simpa [ycF,yJ (m:="hand_at") (A.get 0 rfl) (rfl),yeo A o,yJ (m:="state") (A.get 5 rfl) (rfl),st,n,k5,yJ (m:="is_looked_over") R.run (rfl),d,u,yJ (m:="is_stale") R.run (rfl),sl,yJ (m:="begin_anew") (A.get 5 rfl) (rfl),j]
end
structure HD where
 ds:List PV
 nth:Nat
 sl:Bool
 bf:List Int
 rows:List PV
 s:RS
noncomputable def HN (w:Int) (a:Nat×Lc) (x:HD) (m:List (Nat×Nd)):List (Nat×Nd):=(a.1,ydG x.ds w x.nth x.sl x.bf a.2.rn)::RM w x.rows a.2 x.s m
noncomputable def CR (w:Int):List (Nat×Lc)->List HD->List (Nat×Nd)->List (Nat×Nd)
 | a::as,x::xs,m=>HN w a x (CR w as xs m)
 | _,_,m=>m
noncomputable def LyOk:List (Nat×Lc)->List HD->Prop
 | a::as,x::xs=>a.2.ly.length=x.s.dd.length/\LyOk as xs
 | [],[]=>True
 | _,_=>False
noncomputable def H5 (g:HC) (bx sp:List Int) (en:List PV) (cw:List Nat):List (Nat×Nd):=[(g.H,ypQ g.nu g.ma g.cr g.en),(g.nu,.lst (bx.map .int)),(g.ma,.lst (sp.map .int)),(g.cr,.lst (cw.map .loc)),(g.en,.lst en)]
structure HH (h:AH) (g:HC) (w:Int) (bx sp:List Int) (en:List PV) (as:List (Nat×Lc)) (xs:List HD) (own:List (Nat×Nd)):Prop where
 at_:At h (H5 g bx sp en (as.map (·.1))++CR w as xs own)
 ly:LyOk as xs
noncomputable def qOf (bx sp:List Int) (en:List PV) (cw:List Nat) (i hd:Nat) (x:HD):HQ:=⟨bx,sp,en,cw,i,hd,x.ds,x.nth,x.sl,x.bf⟩
section
variable {h:AH}{w:Int}{g:HC}{bx sp:List Int}{en:List PV}{as as1 as2:List (Nat×Lc)}{xs xs1 xs2:List HD}{a:Nat×Lc}{x x':HD}{own m:List (Nat×Nd)}{c:Lc}
theorem yhg:HN w a x m=HN w a x []++m:=by unfold HN;rw [yiw,yiw,append_nil];rfl
theorem ykM:∀ {as1:List (Nat×Lc)}{xs1:List HD},as1.length=xs1.length->(CR w (as1++a::as2) (xs1++x::xs2) m).Perm (HN w a x (CR w as1 xs1 (CR w as2 xs2 m)))
 | [],[],_=>.refl _
 | b::as1,y::xs1,e=>by show (HN w b y (CR w (as1++a::as2) (xs1++x::xs2) m)).Perm (HN w a x (HN w b y (CR w as1 xs1 (CR w as2 xs2 m))));have ih:=ykM (as1:=as1) (xs1:=xs1) (by simpa using e);rw [yhg (a:=b),yhg (a:=a) (m:=HN w b y _),yhg (a:=b) (m:=CR w as1 xs1 _)];refine (ih.append_left _).trans ?_;rw [yhg (a:=a)];exact List.perm_append_comm_assoc _ _ _
theorem LyOk.split:∀ {as1:List _}{xs1:List HD},as1.length=xs1.length->(LyOk (as1++a::as2) (xs1++x::xs2) ↔ LyOk as1 xs1/\a.2.ly.length=x.s.dd.length/\LyOk as2 xs2)
 | [],[],_=>⟨fun k=>⟨trivial,k⟩,fun k=>k.2⟩
 | b::as1,y::xs1,e=>by have d:=LyOk.split (by simpa using e);show _/\LyOk (as1++a::as2) (xs1++x::xs2) ↔ (_/\LyOk as1 xs1)/\_;rw [d,and_assoc]
theorem yCn {rows:List PV}{s:RS}{b:Nat}{q:HQ}:(H5 g q.bx q.sp q.en q.cw++(q.hd,ydG q.ds w q.nth q.sl q.bf b)::RM w rows c s m).Perm (RM w rows c s (HL g b w q m)):=by rw [yiw,yiw];refine .trans ?_ (show (H5 g q.bx q.sp q.en q.cw++(EX c w rows s++(q.hd,ydG q.ds w q.nth q.sl q.bf b)::m)).Perm _ from List.perm_append_comm_assoc _ _ _);exact List.perm_middle.symm.append_left _
theorem HH.foc (X:HH h g w bx sp en (as1++a::as2) (xs1++x::xs2) own) (l:as1.length=xs1.length):RR w x.rows (HL g a.2.rn w (qOf bx sp en ((as1++a::as2).map (·.1)) as1.length a.1 x) (CR w as1 xs1 (CR w as2 xs2 own))) h a.2 x.s:=by exact ⟨(X.at_.perm (((ykM l).append_left _).trans (yCn (q:=qOf bx sp en _ _ _ _))).symm),((LyOk.split l).mp X.ly).2.1⟩
theorem HH.unf {b d:List Int}{f:List PV}(L:LyOk (as1++a::as2) (xs1++x::xs2)) (l:as1.length=xs1.length) (R:RR w x'.rows (HL g c.rn w (qOf b d f ((as1++a::as2).map (·.1)) as1.length a.1 x') (CR w as1 xs1 (CR w as2 xs2 own))) h c x'.s):HH h g w b d f (as1++(a.1,c)::as2) (xs1++x'::xs2) own:=by
 obtain ⟨i,k,j⟩:=(LyOk.split l).mp L;refine ⟨?_,(LyOk.split l).mpr ⟨i,R.len,j⟩⟩;have e:(as1++(a.1,c)::as2).map (·.1)=(as1++a::as2).map (·.1):=by simp
 rw [e];exact R.at_.perm (((ykM l).append_left _).trans (yCn (q:=qOf b d f _ _ _ _)))
theorem ykN:((as1++a::as2).map (·.1))[as1.length]?=some a.1:=by simp
noncomputable def asB (x:HD):Bool:=decide (x.nth≠x.ds.length) && x.sl
noncomputable def yep (sp:List Int) (x:HD):HD:=if (asB x && stB x.s.sn sp)=true then { x with sl:=false,s:=S0 x.bf } else x
theorem yiZ:(("ended":Str) = "asleep")=False:=eq_false (by rfl')
theorem yja:(("awake":Str) = "asleep")=False:=eq_false (by rfl')
theorem yCo (X:HH h g w bx sp en (as1++a::as2) (xs1++x::xs2) own) (l:as1.length=xs1.length) (t:Due x.ds x.nth x.rows) (F:NF sp.length x.s):∃ h' c',wkB [.val (.loc g.H),.val (.loc a.1)] h=some (.nx [.val (.loc g.H),.val (.loc a.1)],h')/\HH h' g w bx sp en (as1++(a.1,c')::as2) (xs1++yep sp x::xs2) own:=by
 have R:=X.foc l;have A:=R.rest;have st:=ygk A;obtain ⟨y,q,v,u⟩:=yds (A.get 0 rfl);have j:h[a.1]?=some (ydG x.ds w x.nth x.sl x.bf a.2.rn):=A.get 5 rfl;have p:=(ydH j).2.2.2.2.2;have sl:=ykJ (ma:=g.ma) (sp:=sp) R (mem_of_getElem? (i:=2) rfl) F.nd F.hb F.hl;have o:=R.run
 by_cases e:x.nth=x.ds.length
 .have d:stN (qOf bx sp en ((as1++a::as2).map (·.1)) as1.length a.1 x) = "ended":=if_pos e;rw [d] at st;have f:yep sp x=x:=by unfold yep asB;simp [e]
  rw [f];refine ⟨h,a.2,?_,X⟩;unfold wkB;dsimp only [qOf] at st
  simpa [ycF,yJ (m:="state") j (by rfl'),st,yiZ]
 .cases es:x.sl with
  | false =>
   have d:stN (qOf bx sp en ((as1++a::as2).map (·.1)) as1.length a.1 x) = "awake":=(if_neg e).trans (if_neg (by rw [show (qOf bx sp en _ as1.length a.1 x).sl=x.sl from rfl,es];decide));rw [d] at st;have f:yep sp x=x:=by unfold yep asB;simp [es]
   rw [f];refine ⟨h,a.2,?_,X⟩;unfold wkB;dsimp only [qOf] at st
   simpa [ycF,yJ (m:="state") j (by rfl'),st,yja]
  | true =>
   have d:stN (qOf bx sp en ((as1++a::as2).map (·.1)) as1.length a.1 x) = "asleep":=(if_neg e).trans (if_pos (by rw [show (qOf bx sp en _ as1.length a.1 x).sl=x.sl from rfl,es]));rw [d] at st;dsimp only [qOf] at st;cases k:stB x.s.sn sp with
   | false =>
    have f:yep sp x=x:=by unfold yep;simp [k]
    rw [f];rw [k] at sl;refine ⟨h,a.2,?_,X⟩;unfold wkB
    simpa [ycF,yJ (m:="state") j (by rfl'),st,p,q,yJ (m:="is_stale") o (by rfl'),sl]
   | true =>
    have f:yep sp x={ x with sl:=false,s:=S0 x.bf }:=if_pos (by unfold asB;simp [e,es,k]);rw [f];rw [k] at sl;obtain ⟨h',c',n,r⟩:=ysO R (t);refine ⟨h',c',?_,HH.unf X.ly l r⟩;dsimp only [qOf] at n;unfold wkB
    simpa [ycF,yJ (m:="state") j (by rfl'),st,p,q,yJ (m:="is_stale") o (by rfl'),sl,yJ (m:="begin_anew") j (by rfl'),n]
def yDg (W:Nat) (x:HD):Prop:=Due x.ds x.nth x.rows/\NF W x.s
theorem LyOk.len:∀ {as:List _}{xs:List HD},LyOk as xs->as.length=xs.length
 | [],[],_=>rfl
 | _::_,_::_,k=>by rw [length_cons,length_cons,LyOk.len k.2]
theorem LyOk.app:∀ {as1 as2:List _}{xs1 xs2:List HD},as1.length=xs1.length->LyOk (as1++as2) (xs1++xs2)->LyOk as2 xs2
 | [],_,[],_,_,k=>k
 | _::_,_,_::_,_,e,k=>LyOk.app (by simpa using e) k.2
theorem ysQ:∀ (as2:List (Nat×Lc)) (xs2:List HD) (as1:List (Nat×Lc)) (xs1:List HD) (h:AH) (v:PVar),HH h g w bx sp en (as1++as2) (xs1++xs2) own->as1.length=xs1.length->(∀ x∈xs2,yDg sp.length x) ->
  ∃ h' as' v',ymK g.cr false (yr 1) wkB as2.length as1.length [.val (.loc g.H),v] h=some (.nx [.val (.loc g.H),v'],h')/\HH h' g w bx sp en (as1++as') (xs1++xs2.map (yep sp)) own/\as'.map (·.1)=as2.map (·.1)
 | [],xs2,as1,xs1,h,v,X,l,_=>by have e:h[g.cr]?=some (.lst (((as1++([]:List (Nat×Lc))).map (fun a=>a.1)).map .loc)):=X.at_.get 3 rfl;have l2:=(LyOk.app l X.ly).len;have:xs2=[]:=List.length_eq_zero_iff.mp l2.symm;subst this;refine ⟨h,[],v,?_,X,rfl⟩;show ymK g.cr false (yr 1) wkB 0 as1.length _ h=_;unfold ymK;simp only [e];rw [if_pos (by simp)]
 | a::as2,[],as1,xs1,h,v,X,l,_=>by have l2:=(LyOk.app l X.ly).len;cases l2
 | a::as2,x::xs2,as1,xs1,h,v,X,l,hx=>by
  have e:h[g.cr]?=some (.lst (((as1++a::as2).map (·.1)).map .loc)):=X.at_.get 3 rfl;obtain ⟨h1,c1,q1,X1⟩:=yCo X l (hx x mem_cons_self).1 (hx x mem_cons_self).2;obtain ⟨h',as',v',q2,X2,em⟩:=ysQ as2 xs2 (as1++[(a.1,c1)]) (xs1++[yep sp x]) h1 (.val (.loc a.1)) (by rw [append_assoc,append_assoc];exact X1) (by simp [l]) (fun y hy=>hx y (mem_cons_of_mem _ hy));refine ⟨h',(a.1,c1)::as',v',?_,by rw [append_assoc,append_assoc] at X2;exact X2,by simp [em]⟩;rw [length_append] at q2;have y1:yr 1 (.loc a.1) [.val (.loc g.H),v]=some [.val (.loc g.H),.val (.loc a.1)]:=rfl;have ei:(((as1++a::as2).map (·.1)).map PV.loc)[as1.length]?=some (.loc a.1):=by rw [getElem?_map,ykN];rfl
  show ymK g.cr false (yr 1) wkB (as2.length+1) as1.length _ h=_;unfold ymK;simp only [e,Bool.false_eq_true,if_false,ei,y1,bind_some,q1,ycA];exact q2
theorem yzz (X:HH h g w bx sp en as xs own) (i:∀ x∈xs,yDg sp.length x):∃ h' b,ybC [.loc g.H] h=some (.non,h')/\HH h' g w bx sp en b (xs.map (yep sp)) own/\b.map (·.1)=as.map (·.1):=by
 obtain ⟨h',b,p,f,d,j⟩:=ysQ as xs [] [] h .no X rfl i;refine ⟨h',b,?_,d,j⟩;obtain ⟨l,n,k,q⟩:=yds (X.at_.get 0 rfl);have e:=X.at_.get 3 rfl;delta ybC;show ob (ykm false _ _ wkB [.val _,.no] h) fnK=_;unfold ykm
 simpa [k]
 simp only [e];rw [length_map,length_map];exact (congrArg (fun o=>ob o fnK) f).trans rfl
end
section
variable {h:AH}{w:Int}{g:HC}{bx sp:List Int}{en:List PV}{as as1 as2:List (Nat×Lc)}{xs xs1 xs2:List HD}{a:Nat×Lc}{x x':HD}{own m:List (Nat×Nd)}{c:Lc}{s s':RS}{r:Rw}
theorem ynQ {m:List _}{k:Nat}{u v:Int}{p:Nat×Int×Int}(hp:p∈yeL m k u v):p=(k,u,v)\/p∈m:=by
 unfold yeL at hp;split at hp
 .obtain ⟨q,b,e⟩:=List.mem_map.mp hp;split at e
  .exact .inl e.symm
  .exact .inr (e ▸ b)
 .rcases List.mem_append.mp hp with z|z
  .exact .inr z
  .exact .inl (List.mem_singleton.mp z)
theorem ypj m k u v:(yeL m k u v).map (·.1)=if k∈m.map (·.1) then m.map (·.1) else m.map (·.1)++[k]:=by
 unfold yeL;split
 .rw [map_map];refine List.map_congr_left fun p _=>?_
  show (if p.1=k then (k,u,v) else p).1=p.1;split
  .rename_i e;exact e.symm
  .rfl
 .simp
theorem yjG:∀ (W:Nat) (l:List Nat),l.Nodup->(∀ k∈l,k<W)->l.length<=W
 | 0,l,_,hb=>by
  cases l with
  | nil=>simp
  | cons a _=>exact absurd (hb a mem_cons_self) (by omega)
 | W+1,l,nd,hb=>by
  by_cases e:W∈l
  .have:=yjG W (l.erase W) (nd.erase W) fun k hk=>by have h1:=hb k (List.mem_of_mem_erase hk);have h2:k≠W:=(List.Nodup.mem_erase_iff nd).mp hk |>.1;omega
   rw [List.length_erase_of_mem e] at this;omega
  .have:=yjG W l nd fun k hk=>by
    have h1:=hb k hk;have:k≠W:=fun z=>e (z ▸ hk)
    omega
   omega
theorem NF.put {W k:Nat}{u v:Int}(F:NF W s) (hk:k<W) (hW:W<=16) {t:Nat}{hs:List Int}:NF W ⟨t,hs,s.sd,s.dd,yeL s.sn k u v⟩:=by
 have nd:((yeL s.sn k u v).map (·.1)).Nodup:=by
  rw [ypj];split
  .exact F.nd
  .rename_i e;rw [List.nodup_append];exact ⟨F.nd,by simp,fun x hx y hy z=>by rw [List.mem_singleton.mp hy] at z;exact e (z ▸ hx)⟩
 have hb:∀ p∈yeL s.sn k u v,p.1<W:=fun p hp=>by
  rcases ynQ hp with rfl|hp
  .exact hk
  .exact F.hb p hp
 refine ⟨nd,hb,?_⟩;have:=yjG W _ nd fun x hx=>by obtain ⟨p,hp,rfl⟩:=List.mem_map.mp hx;exact hb p hp
 rw [length_map] at this;show (yeL s.sn k u v).length<=900;omega
theorem yjH {rws:List Rw}{t:Nat}(b:rws[t]?=some r):(rws.map yV)[t]?=some (yV r):=by simp_all
noncomputable def stX (x:HD):Str:=if x.nth=x.ds.length then "ended" else if x.sl=true then "asleep" else "awake"
theorem yEM (X:HH h g w bx sp en (as1++a::as2) (xs1++x::xs2) own) (l:as1.length=xs1.length) (hs:(stX x = "awake")=False):yB [.loc g.H,.int as1.length] h=some (.tup [.str "idle"],h):=ysH (q:=qOf bx sp en _ as1.length a.1 x) (X.foc l).rest (ykN) hs
theorem yCp {rws:List Rw}(X:HH h g bx.length bx sp en (as1++a::as2) (xs1++x::xs2) own) (l:as1.length=xs1.length) (b:sp.length=bx.length) (h1:1<=bx.length) (k:x.rows=rws.map yV) (i:x.nth<x.ds.length) (hs:x.sl=false) (F:NF bx.length x.s) (fr:stB x.s.sn sp=false) (d:rws[x.s.t]?=some .wait) (j:okS x.s=true) (n:yhs bx.length x.s .wait=true) :
  ∃ h',yB [.loc g.H,.int as1.length] h=some (.tup [.str "asleep",.int x.s.t],h')/\HH h' g bx.length bx sp en (as1++a::as2) (xs1++{ x with sl:=true }::xs2) own:=by
 have R:=X.foc l;obtain ⟨h',e,f⟩:=ypU R (ykN) (by rw [k];exact yjH d) (by omega) i hs j n (show NF sp.length x.s by rw [b];exact F) fr;exact ⟨h',e,HH.unf X.ly l f⟩
theorem yEN {rws:List Rw}(X:HH h g bx.length bx sp en (as1++a::as2) (xs1++x::xs2) own) (l:as1.length=xs1.length) (h1:1<=bx.length) (o:x.rows=rws.map yV) (j:x.nth<x.ds.length) (hs:x.sl=false) (f:rws[x.s.t]?=some r) (k:okS x.s=true) (b:okR r=true) (d:yhs bx.length x.s r=false) (e:ypT bx.length r x.s=some s') :
  ∃ h' c',yB [.loc g.H,.int as1.length] h=some (.tup [.str "gone",.int x.s.t],h')/\HH h' g bx.length bx sp en (as1++(a.1,c')::as2) (xs1++{ x with s:=s' }::xs2) own:=by
 have R:=X.foc l;obtain ⟨h',c',i,n⟩:=ysI R (ykN) (by rw [o];exact yjH f) (by omega) j hs k b d e;exact ⟨h',c',i,HH.unf X.ly l n⟩
theorem yEO {rws:List Rw}{p q:Str}{k:Nat}(X:HH h g bx.length bx sp en (as1++a::as2) (xs1++x::xs2) own) (l:as1.length=xs1.length) (b:sp.length=bx.length) (h1:1<=bx.length) (n:x.rows=rws.map yV) (u:x.nth<x.ds.length) (hs:x.sl=false) (F:NF bx.length x.s) (fr:stB x.s.sn sp=false) (f:rws[x.s.t]?=some (.take p q)) (i:okS x.s=true) (d:okR (.take p q)=true) (e:isN (ysA x.s bx.length q)=true) (ek:x.s.hs.getD (sx q) 0%bx.length=k) (j:k<bx.length) :
  ∃ h',yB [.loc g.H,.int as1.length] h=some (.tup [.str "seen",.int x.s.t,.int k,.int (bx.getD k 0)],h')/\HH h' g bx.length bx sp en (as1++a::as2) (xs1++{ x with s:=⟨x.s.t+1,x.s.hs.set (sx p) (bx.getD k 0),x.s.sd,x.s.dd,yeL x.s.sn k (bx.getD k 0) (sp.getD k 0)⟩ }::xs2) own:=by
 have R:=X.foc l;obtain ⟨h',t,o⟩:=ysJ R (ykN) (by rw [n];exact yjH f) (by omega) u hs i d e (show NF sp.length x.s by rw [b];exact F) fr ek j b;exact ⟨h',t,HH.unf X.ly l o⟩
theorem yEP {rws:List Rw}{rows':List PV}(X:HH h g bx.length bx sp en (as1++a::as2) (xs1++x::xs2) own) (l:as1.length=xs1.length) (d:sp.length=bx.length) (h1:1<=bx.length) (j:x.rows=rws.map yV) (o:x.nth<x.ds.length) (hs:x.sl=false) (F:NF bx.length x.s) (fr:stB x.s.sn sp=true) (f:rws[x.s.t]?=some r) (k:okS x.s=true) (b:okR r=true) (e:yhs bx.length x.s r=true) (p:Due x.ds x.nth rows') :
  ∃ h' c',yB [.loc g.H,.int as1.length] h=some (.tup [.str "anew",.int x.s.t],h')/\HH h' g bx.length bx sp en (as1++(a.1,c')::as2) (xs1++{ x with sl:=false,rows:=rows',s:=S0 x.bf }::xs2) own:=by
 have R:=X.foc l;obtain ⟨h',c',n,i⟩:=ysP R (ykN) (by rw [j];exact yjH f) (by omega) o hs k b e (show NF sp.length x.s by rw [d];exact F) fr p;exact ⟨h',c',n,HH.unf X.ly l i⟩
noncomputable def yAc (i:Nat) (x:HD) (en:PV) (L laid:List PV) (bf:List Int):PV:=.tup [.int (i:Nat),.int (x.nth:Nat),en,.lst L,.lst laid,.lst (bf.map .int)]
theorem yEQ {rws:List Rw}{rows' L:List PV}{p q:Str}(X:HH h g bx.length bx sp en (as1++a::as2) (xs1++x::xs2) own) (l:as1.length=xs1.length) (d:sp.length=bx.length) (h1:1<=bx.length) (k:x.rows=rws.map yV) (o:x.nth<x.ds.length) (hs:x.sl=false) (F:NF bx.length x.s) (fr:stB x.s.sn sp=false) (e:rws[x.s.t]?=some (.throw p q)) (f:okS x.s=true) (b:okR (.throw p q)=true) (t:yhs bx.length x.s (.throw p q)=true) (j:sortI (sK x.s.sn) (sA x.s.sn)=some L) (u:Due x.ds (x.nth+1) rows') (hl:en.length<1000) :
  ∃ h' c',yB [.loc g.H,.int as1.length] h=some (.tup [.str "fell",.int x.s.t],h')/\HH h' g bx.length bx sp (en++[yAc as1.length x (.tup [.str "fell",.str p,.int (x.s.hs.getD (sx q) 0)]) L [] x.bf]) (as1++(a.1,c')::as2) (xs1++{ x with nth:=x.nth+1,rows:=rows',s:=S0 x.bf }::xs2) own:=by
 have R:=X.foc l;obtain ⟨h',c',n,i⟩:=ysM R (ykN) (by rw [k];exact yjH e) (by omega) o hs f b t (show NF sp.length x.s by rw [d];exact F) fr j u hl;exact ⟨h',c',n,HH.unf X.ly l i⟩
theorem yER {rws:List Rw}{rows' L:List PV}{ls:List _}{d:List Key×List PV}(X:HH h g bx.length bx sp en (as1++a::as2) (xs1++x::xs2) own) (l:as1.length=xs1.length) (e:sp.length=bx.length) (h1:1<=bx.length) (u:x.rows=rws.map yV) (B:x.nth<x.ds.length) (hs:x.sl=false) (F:NF bx.length x.s) (fr:stB x.s.sn sp=false) (H:rws[x.s.t]?=some .lay) (n:okS x.s=true) (ed:x.s.dd=[d]) (E:sortI d.1 d.2=some (ls.map ybl)) (q:∀ p∈ls,p.1<bx.length) (o:sortI (sK x.s.sn) (sA x.s.sn)=some L) (f:Due x.ds (x.nth+1) rows') (hl:en.length<1000) (i:∀ y∈xs1++xs2,yDg bx.length y) :
  ∃ h' b,yB [.loc g.H,.int as1.length] h=some (.tup [.str "done",.int x.s.t],h')/\HH h' g bx.length (ymn bx ls) (ykK sp ls) (en++[yAc as1.length x (.tup [.str "done"]) L (ls.map ybl) x.s.hs]) b ((xs1++{ x with nth:=x.nth+1,bf:=x.s.hs,rows:=rows',s:=S0 x.s.hs }::xs2).map (yep (ykK sp ls))) own/\b.map (·.1)=(as1++a::as2).map (·.1):=by
 have R:=X.foc l;obtain ⟨h2,c',A,v⟩:=ysN R (ykN) (by rw [u];exact yjH H) (by omega) B hs n (show NF sp.length x.s by rw [e];exact F) fr ed E q e o f hl;have D:=HH.unf (x':={ x with nth:=x.nth+1,bf:=x.s.hs,rows:=rows',s:=S0 x.s.hs }) X.ly l v;have G:(ykK sp ls).length=bx.length:=by rw [ykL];exact e
 obtain ⟨h',b,k,j,C⟩:=yzz D (fun y t=>by
  show yDg (ykK sp ls).length y;rw [G];rcases List.mem_append.mp t with z|z
  .exact i y (mem_append_left _ z)
  .rcases mem_cons.mp z with rfl|z
   .exact ⟨f,⟨List.nodup_nil,fun p hp=>(by cases hp),by show 0<=900;omega⟩⟩
   .exact i y (mem_append_right _ z))
 exact ⟨h',b,A h' k,j,by rw [C];simp⟩
end
section
variable {h:AH}{w:Int}{g:HC}{bx sp:List Int}{en:List PV}{as as1 as2:List (Nat×Lc)}{xs xs1 xs2:List HD}{a:Nat×Lc}{x x':HD}{own m:List (Nat×Nd)}
theorem yCq {f:PV->PV->Option Bool}{x y:PV}{xs ys:List PV}(e1:f x y=some true) (e2:yjv f xs ys=some true):yjv f (x::xs) (y::ys)=some true:=by show (match f x y,yjv f xs ys with|some b,some c=>some (b && c)|_,_=>none)=_;rw [e1,e2];rfl
theorem yES {n:Nat}{i:Int}:eqP (n+1) h (.int i) (.int i)=some true:=by show some (eqV (.int i) (.int i))=_;rw [yoG rfl]
theorem ykO {n:Nat}:∀ xs:List Int,yjv (eqP (n+1) h) (xs.map .int) (xs.map .int)=some true
 | []=>rfl
 | _::xs=>yCq yES (ykO xs)
theorem ysR {n m:Nat}{xs:List Int}(e:h[m]?=some (.lst (xs.map .int))):pairE (eqP (n+1) h) h (.lst (xs.map .int)) (.loc m)=some true:=by unfold pairE ybE;simp only [e,ykO,if_true]
theorem ypk {m:Nat}{xs:List Int}(e:h[m]?=some (.lst (xs.map .int))):yvd (.lst (xs.map .int)) (.loc m) h=some (.bl true,h):=by unfold yvd;rw [ysR e]
noncomputable def Shp (e:PV):Prop:=∃ a b c x y z,e=.tup [a,b,c,.lst x,.lst y,.lst z]
theorem ysS {n:Nat}{en:List PV}{E:XE}{inn:PV->PSt}(e:h[n]?=some (.lst en)) (c:∀ x∈en,E (inn x) h=some (x,h)):∀ k i,i+k=en.length->yvl n E inn k i h=some (en.drop i,h)
 | 0,i,d=>by unfold yvl;grind
 | k+1,i,d=>by
  have b:i<en.length:=by omega
  unfold yvl;simp only [e,List.getElem?_eq_getElem b];rw [c _ (getElem_mem b),ycA,ysS e c k _ (by omega),ycA,List.drop_eq_getElem_cons b]
theorem ykP (X:HH h g w bx sp en as xs own) (hs:∀ e∈en,Shp e) (hl:en.length<1000):ybq [.loc g.H] h=some (.lst en,h):=by
 obtain ⟨k,j,i,f⟩:=yds (X.at_.get 0 rfl);have e:=X.at_.get 4 rfl;delta ybq;show ob (yN _ [.val _] h) fnK=_;rw [ypJ,yDb];unfold yoP
 simpa [f]
 simp only [e];rw [if_pos (by omega),ysS e (fun x d=>?_) en.length 0 (by omega)]
 .rfl
 .obtain ⟨a,b,c,x,y,z,rfl⟩:=hs x d;rfl
variable (X:HH h g w bx sp en (as1++a::as2) (xs1++x::xs2) own) (l:as1.length=xs1.length)
include X l
theorem yET:ycg [.loc g.H,.int as1.length] h=some (.loc a.1,h)/\h[a.1]?=some (ydG x.ds w x.nth x.sl x.bf a.2.rn)/\h[g.H]?=some (ypQ g.nu g.ma g.cr g.en) :=
 ⟨yeo (q:=qOf bx sp en _ as1.length a.1 x) (X.foc l).rest (ykN),(X.foc l).rest.get 5 rfl,(X.foc l).rest.get 0 rfl⟩
end
noncomputable def Z8:List Int:=[0,0,0,0,0,0,0,0]
abbrev Fr (h h':AH):Prop:=∀ m,At h m->At h' m
section
variable {h:AH}{w:Int}
def Rdb (d:Str×List Rw):Prop:=∀ h:AH,∃ h',yT yen (yc (yT yme (yc (ye 0) yi)) yi) [.val (.str d.1)] h=some (.lst (d.2.map yV),h')/\Fr h h'
noncomputable def txV (d:Str×List Rw):PV:=.str d.1
def ysT (d:Str×List Rw):PV:=.lst (d.2.map yV)
theorem At.seen {m:List _}{d d':Nd}(A:At h m):At ((h++[d]).set h.length d') m:=⟨A.1,fun p hp=>by have:=A.lt hp;rw [getElem?_set_ne (by omega),getElem?_append_left this];exact A.2 p hp⟩
theorem ynR {Z:Type}{E:XE}{inn:PV->PSt}{f g:Z->PV}:∀ (l:List Z),(∀ h a,a∈l->∃ h',E (inn (f a)) h=some (g a,h')/\Fr h h')->∀ h,∃ h',yjp E inn (l.map f) h=some (l.map g,h')/\Fr h h'
 | [],_,h=>⟨h,rfl,fun _ A=>A⟩
 | a::l,d,h=>by obtain ⟨h1,e,k⟩:=d h a mem_cons_self;obtain ⟨h2,i,n⟩:=ynR l (fun h b j=>d h b (mem_cons_of_mem _ j)) h1;refine ⟨h2,?_,fun m A=>n m (k m A)⟩;show ob _ _=_;rw [e,ycA,i];rfl
theorem yvU {ds:List _}(j:∀ d∈ds,Rdb d) (hl:ds.length<=100):∃ h',ybI [.lst (ds.map txV)] h=some (.lst (ds.map ysT),h')/\Fr h h':=by obtain ⟨h',e,i⟩:=ynR (inn:=ygW [] _) (f:=txV) (g:=ysT) ds (fun h a c=>j a c h) h;refine ⟨h',?_,i⟩;delta ybI;show ob (yN _ [.val _] h) fnK=_;rw [ypJ,yDb,ywK,ykz rfl,ycA,if_pos (by grind),e];rfl
noncomputable def hsV (hs:List (List (Str×List Rw))):List PV:=hs.map fun ds=>.lst (ds.map txV)
theorem yvV {hs:List (List (Str×List Rw))}(hd:∀ p∈hs,p.length<=6/\∀ d∈p,Rdb d) (h1:1<=hs.length) (h8:hs.length<=8):∃ h',ycv [.lst (hsV hs)] h=some (.lst (hs.map fun p=>.lst (p.map ysT)),h')/\Fr h h':=by
 obtain ⟨h',q3,q4⟩:=ynR (E:=yT ybI (yc (ye 0) (yi))) (inn:=ygW [] [.val (.lst (hsV hs))]) (f:=fun p:List (Str×List Rw)=>.lst (p.map txV)) (g:=fun p=>.lst (p.map ysT)) hs (fun h a ha=>by
  obtain ⟨h',q,F⟩:=yvU (h:=h) (hd a ha).2 (by have:=(hd a ha).1;omega);refine ⟨h',?_,F⟩;show yT ybI (yc (ye 0) (yi)) [.val (.lst (a.map txV))] h=_
  simpa [q]) h
 have q1:yjp (xOp (oGt) (xCB (yca) (yc (ye 0) (yi))) (xC (.int 6))) (ygW [] [.val (.lst (hsV hs))]) (hsV hs) h=some (hs.map fun _=>.bl false,h):=yfJ (f:=fun p:List (Str×List Rw)=>.lst (p.map txV)) (g:=fun _=>.bl false) fun a ha=>by
  have l2:((6:Int)<((a.map txV).length:Nat))=False:=eq_false (by have:=(hd _ ha).1;rw [length_map];omega);show xOp (oGt) (xCB (yca) (yc (ye 0) (yi))) (xC (.int 6)) [.val (.lst (a.map txV))] h=_
  simpa [l2]
 have an:∀ h,ywT [.lst (hs.map fun _=>PV.bl false)] h=some (.bl false,h):=fun h=>by unfold ywT ybE;simp only [ynM (fun _:List (Str×List Rw)=>false)];rw [show (hs.map fun _=>false).any id=false by simp]
 refine ⟨h',?_,q4⟩;have ll:(hsV hs).length=hs.length:=by unfold hsV;rw [length_map]
 have l1:((1:Int)<=((hsV hs).length:Nat))=True:=eq_true (by rw [ll];omega);have l2:((((hsV hs).length:Nat):Int)<=8)=True:=eq_true (by rw [ll];omega);have l3:((hsV hs).length<=100000)=True:=eq_true (by rw [ll];omega);have i0:∀ h,xIL (ye 0) [.val (.lst (hsV hs))] h=some (hsV hs,h):=fun _=>ykz rfl
 delta ycv;show ob (yl _ _ [.val (.lst (hsV hs))] h) fnK=_;have q3:yjp (yT ybI (yc (ye 0) (yi))) (ygW [] [.val (.lst (hsV hs))]) (hsV hs) h=some (hs.map fun p=>.lst (p.map ysT),h'):=q3
 simpa [l1,l2,l3,i0,q1,an,q3,↓reduceIte]
noncomputable def hv (k:Nat) (ds:List PV) (w:Int):Nd:=.ins 14 ((["deeds","width","nth","sleeps","before"]:List Str).take k) (([.lst ds,.int w,.int 0,.bl false,.lst (Z8.map .int)]:List PV).take k)
theorem ysU {ds rows:List PV}(v:Due ds 0 rows):∃ h' c',ybV [.loc h.length,.lst ds,.int w] (h++[Nd.ins 14 [] []])=some (.non,h')/\∀ m,At h m->RR w rows ((h.length,ydG ds w 0 false Z8 c'.rn)::m) h' c' (S0 Z8):=by
 have N:∀ {k:AH}{d d':Nd},k[h.length]?=some d->(k.set h.length d')[h.length]?=some d':=fun e=>getElem?_set_self (List.getElem?_eq_some_iff.mp e).1
 have q:(h++[Nd.ins 14 [] []])[h.length]?=some (hv 0 ds w):=by simp [hv]
 generalize i:h++[Nd.ins 14 [] []]=k0 at *;have s1:∀ ρ,fL [14] "deeds" ρ (.lst ds) (.loc h.length) k0=some (.nx ρ,k0.set h.length (hv 1 ds w)):=fun ρ=>yeW q (by decide) (by kernel_rfl!)
 have n:=N (d':=hv 1 ds w) q;have s2:∀ ρ,fL [12,14] "width" ρ (.int w) (.loc h.length) (k0.set h.length (hv 1 ds w))=some (.nx ρ,(k0.set h.length (hv 1 ds w)).set h.length (hv 2 ds w)):=fun ρ=>yeW n (by decide) (by kernel_rfl!)
 have l:=N (d':=hv 2 ds w) n;rw [List.set_set] at s2 l;have s3:∀ ρ,fL [14] "nth" ρ (.int 0) (.loc h.length) (k0.set h.length (hv 2 ds w))=some (.nx ρ,(k0.set h.length (hv 2 ds w)).set h.length (hv 3 ds w)):=fun ρ=>yeW l (by decide) (by kernel_rfl!)
 have j:=N (d':=hv 3 ds w) l;rw [List.set_set] at s3 j;have s4:∀ ρ,fL [14] "sleeps" ρ (.bl false) (.loc h.length) (k0.set h.length (hv 3 ds w))=some (.nx ρ,(k0.set h.length (hv 3 ds w)).set h.length (hv 4 ds w)):=fun ρ=>yeW j (by decide) (by kernel_rfl!)
 have g:=N (d':=hv 4 ds w) j;rw [List.set_set] at s4 g;have s5:∀ ρ,fL [14] "before" ρ (.lst (Z8.map .int)) (.loc h.length) (k0.set h.length (hv 4 ds w))=some (.nx ρ,(k0.set h.length (hv 4 ds w)).set h.length (hv 5 ds w)):=fun ρ=>yeW g (by decide) (by kernel_rfl!)
 have f:=N (d':=hv 5 ds w) g;rw [List.set_set] at s5 f;obtain ⟨h',c',t,r⟩:=ygO (rows:=rows) (nth:=0) (bf:=Z8) (w:=w) (ds:=ds) (fl 0 f (by decide) (by rfl') rfl) (fl 1 f (by decide) (by rfl') rfl) (fl 2 f (by decide) (by rfl') rfl) (fl 4 f (by decide) (by rfl') rfl) v;have R:∀ m,At h m->RR w rows ((h.length,hv 5 ds w)::m) h' c' (S0 Z8):=fun m A=>r _ (by have o:=At.new (Nd.ins 14 [] []) (a:=[]) A;rw [i] at o;exact At.upd (a:=[]) (hv 5 ds w) o)
 have u:At h []:=⟨List.nodup_nil,fun p hp=>by simp at hp⟩
 have s:h'[h.length]?=some (hv 5 ds w):=(R [] u).rest.get 0 rfl;have s6:∀ ρ,fL [14] "run" ρ (.loc c'.rn) (.loc h.length) h'=some (.nx ρ,h'.set h.length (ydG ds w 0 false Z8 c'.rn)):=fun ρ=>yeW s (by decide) (by kernel_rfl!)
 refine ⟨_,c',?_,fun m A=>RR.urest (a:=[]) _ (R m A)⟩;have l0:∀ k,yX [.lst ds] k=some (.lst ds,k):=fun _=>rfl
 delta ybV;show ob (yl _ _ [.val (.loc h.length),.val (.lst ds),.val (.int w)] k0) fnK=_
 simpa [yql,l0,s1,s2,s3,s4]
 rw [if_pos (by decide),show PV.lst (repL ((8:Nat):Int).toNat [PV.int 0])=.lst (Z8.map .int) from rfl]
 simpa [yql,s5,ycF,yJ (m:="new_run") f (by rfl'),t,s6]
end
section
variable {h:AH}{w:Int}
theorem yiy:∀ {b:List _}{xs:List HD}{m:List _},CR w b xs m=CR w b xs []++m
 | [],_,_=>rfl
 | _::_,[],_=>rfl
 | a::b,x::xs,m=>by show HN w a x _=HN w a x _++m;rw [yhg,yhg (m:=CR w b xs []),yiy,append_assoc]
end
section
variable {h:AH}
theorem yCr {i:Int}(b:0<=i/\i<B64):ydb [.int i] h=some (.bl true,h):=by
 have e:yek [.int i] h=some (.bl true,h):=rfl;have c:=eq_true b.1;have d:=eq_true b.2;delta ydb;show ob (yN _ [.val _] h) fnK=_
 simpa [e,c,d]
theorem ysV {ρ:PSt}:∀ bx:List Int,(∀ i∈bx,0<=i/\i<B64)->yjp (yT ydb (yc (ye 0) yi)) (ygW [] ρ) (bx.map .int) h=some (replicate bx.length (.bl true),h)
 | [],_=>rfl
 | i::bx,b=>by show ob (ydb _ h) _=_;rw [yCr (b i mem_cons_self),ycA];rw [ysV bx fun j c=>b j (mem_cons_of_mem _ c)];rfl
theorem ysW:∀ n,yhW (replicate n (PV.bl true))=some (replicate n true)
 | 0=>rfl
 | n+1=>by
  rw [List.replicate_succ];unfold yhW;simp only [ysW n]
  try rfl
theorem yvW {bx:List Int}(h1:1<=bx.length) (b:bx.length<=16) (d:∀ i∈bx,0<=i/\i<B64):ydB [.lst (bx.map .int)] h=some (.non,h):=by
 have c:=ysV (h:=h) (ρ:=[.val (.lst (bx.map .int))]) bx d;have e:ywG [.lst (replicate bx.length (PV.bl true))] h=some (.bl true,h):=by unfold ywG ybE;simp only [ysW];simp_all
 have k:xIL (ye 0) [.val (.lst (bx.map .int))] h=some _:=rfl;have j:((bx.map PV.int).length:Int)=bx.length:=by rw [length_map]
 have l:((1:Int)<=bx.length)=True:=eq_true (by omega);have g:((bx.length:Int)<=16)=True:=eq_true (by omega);have f:((bx.map PV.int).length<=100000)=True:=eq_true (by omega);delta ydB;show ob (yl _ _ [.val _] h) fnK=_
 simpa [j,l,g,f,k,c,e]
end
noncomputable def av (k nu ma cr en:Nat):Nd:=.ins 15 ((["numbers","marks","crew","entries"]:List Str).take k) (([.loc nu,.loc ma,.loc cr,.loc en]:List PV).take k)
noncomputable def hd0 (ds:List (Str×List Rw)):HD:=⟨ds.map ysT,0,false,Z8,match ds with|[]=>[]|d::_=>d.2.map yV,S0 Z8⟩
theorem yFN:∀ ds,Due (hd0 ds).ds 0 (hd0 ds).rows
 | []=>.inr ⟨rfl,rfl⟩
 | d::r=>.inl ⟨by simp [hd0],rfl⟩
section
variable {h:AH}{w:Int}
theorem yFO n:repL ((n:Nat):Int).toNat [PV.int 0]=(replicate n 0).map .int:=by show (replicate n _).flatten=_;simp_all
theorem ysX {bx:List Int}{ρ:PSt}(c:∀ x,ygW [1] ρ x=[.val x,.val (.lst (bx.map .int))]):∀ (hs:List _) h,∃ h' b,yjp (yjy 14 ybV (yc (ye 0) (yc (xCB yca (yc (ye 1) yi)) yi))) (ygW [1] ρ) (hs.map fun ds=>.lst (ds.map ysT)) h=some ((b.map (·.1)).map .loc,h')/\LyOk b (hs.map hd0)/\∀ m,At h m->At h' (CR bx.length b (hs.map hd0) m)
 | [],h=>⟨h,[],rfl,trivial,fun _ A=>A⟩
 | ds::hs,h=>by
  obtain ⟨h1,d,e,i⟩:=ysU (w:=bx.length) (yFN ds);obtain ⟨h',b,l,k,o⟩:=ysX c hs h1;have lw:((bx.map PV.int).length:Nat)=bx.length:=by rw [length_map]
  have n:At h []:=⟨List.nodup_nil,fun p hp=>by simp at hp⟩
  refine ⟨h',(h.length,d)::b,?_,⟨(i [] n).len,k⟩,fun m A=>?_⟩
  .show ob _ _=_;rw [c,yrP];have e:ybV [.loc h.length,.lst (ds.map ysT),.int bx.length] _=some _:=e
   simpa [lw,e,l]
   rfl
  .have R:=i m A;have j:At h1 (HN bx.length (h.length,d) (hd0 ds) m):=by have f:=R.at_;rw [yiw] at f;show At h1 ((h.length,ydG _ bx.length 0 false Z8 d.rn)::RM _ _ _ _ _);rw [yiw];exact f.perm List.perm_middle.symm
   have g:=o _ j;rw [yiy,yhg] at g;show At h' (HN bx.length _ _ _);rw [yhg,yiy];exact g.perm (List.perm_append_comm_assoc _ _ _)
theorem ysY {bx:List Int}{hs:List (List (Str×List Rw))}(h1:1<=bx.length) (h16:bx.length<=16) (hb:∀ i∈bx,0<=i/\i<B64) (hd:∀ p∈hs,p.length<=6/\∀ d∈p,Rdb d) (hh1:1<=hs.length) (hh8:hs.length<=8) :
  ∃ h' g as,ycw [.loc h.length,.lst (bx.map .int),.lst (hsV hs)] (h++[Nd.ins 15 [] []])=some (.non,h')/\g.H=h.length/\∀ m,At h m->HH h' g bx.length bx (replicate bx.length 0) [] as (hs.map hd0) m:=by
 have e0:At h []:=⟨List.nodup_nil,fun p hp=>by simp at hp⟩
 have A0:∀ m,At h m->At (h++[Nd.ins 15 [] []]) ((h.length,.ins 15 [] [])::m):=fun m A=>At.new _ (a:=[]) A
 have c0:=yvW (h:=h++[Nd.ins 15 [] []]) h1 h16 hb;generalize h++[Nd.ins 15 [] []]=k0 at *;have A1:∀ m,At h m->At (k0++[Nd.lst (bx.map .int)]) ((h.length,.ins 15 [] [])::(k0.length,.lst (bx.map .int))::m):=fun m A=>At.new _ (a:=[_]) (A0 m A)
 have s1:∀ ρ,fL [15] "numbers" ρ (.loc k0.length) (.loc h.length) (k0++[Nd.lst (bx.map .int)])=some (.nx ρ,(k0++[Nd.lst (bx.map .int)]).set h.length (av 1 k0.length 0 0 0)):=fun ρ=>yeW ((A1 [] e0).get 0 rfl) (by decide) (by kernel_rfl!)
 have A2:=fun m A=>At.upd (a:=[]) (av 1 k0.length 0 0 0) (A1 m A)
 generalize hnu:k0.length=nu at *;generalize (k0++[Nd.lst (bx.map .int)]).set h.length (av 1 nu 0 0 0)=k1 at *;have A3:∀ m,At h m->At (k1++[Nd.lst ((replicate bx.length (0:Int)).map .int)]) ((h.length,av 1 nu 0 0 0)::(nu,.lst (bx.map .int))::(k1.length,.lst ((replicate bx.length (0:Int)).map .int))::m):=fun m A=>At.new _ (a:=[_,_]) (A2 m A)
 have s2:∀ ρ,fL [15] "marks" ρ (.loc k1.length) (.loc h.length) (k1++[Nd.lst ((replicate bx.length (0:Int)).map .int)])=some (.nx ρ,(k1++[Nd.lst ((replicate bx.length (0:Int)).map .int)]).set h.length (av 2 nu k1.length 0 0)):=fun ρ=>yeW ((A3 [] e0).get 0 rfl) (by decide) (by kernel_rfl!)
 have A4:=fun m A=>At.upd (a:=[]) (av 2 nu k1.length 0 0) (A3 m A)
 generalize hma:k1.length=ma at *;generalize (k1++[Nd.lst ((replicate bx.length (0:Int)).map .int)]).set h.length (av 2 nu ma 0 0)=k2 at *;have F2:Fr h k2:=fun m A=>(A4 m A).sub (((List.Sublist.refl m).cons _).cons _ |>.cons _)
 obtain ⟨k3,q1,q2⟩:=yvV (h:=k2) hd hh1 hh8;obtain ⟨k4,as,q3,q4,q5⟩:=ysX (bx:=bx) (ρ:=[.val (.loc h.length),.val (.lst (bx.map .int)),.val (.lst (hsV hs))]) (fun _=>rfl) hs k3;have R4:=fun m A=>q5 _ (q2 _ (A4 m A))
 have R4':∀ m,At h m->At k4 ((h.length,av 2 nu ma 0 0)::(nu,.lst (bx.map .int))::(ma,.lst ((replicate bx.length (0:Int)).map .int))::CR bx.length as (hs.map hd0) m):=fun m A=>by have:=R4 m A;rw [yiy] at this;rw [yiy];exact this.perm (show ([_,_,_]++(CR bx.length as (hs.map hd0) []++m)).Perm (CR bx.length as (hs.map hd0) []++([_,_,_]++m)) from List.perm_append_comm_assoc _ _ _)
 have R5:=fun m A=>At.new (Nd.lst ((as.map (·.1)).map .loc)) (a:=[_,_,_]) (R4' m A)
 have s3:∀ ρ,fL [15] "crew" ρ (.loc k4.length) (.loc h.length) (k4++[Nd.lst ((as.map (·.1)).map .loc)])=some (.nx ρ,(k4++[Nd.lst ((as.map (·.1)).map .loc)]).set h.length (av 3 nu ma k4.length 0)):=fun ρ=>yeW ((R5 [] e0).get 0 rfl) (by decide) (by kernel_rfl!)
 have R6:=fun m A=>At.upd (a:=[]) (av 3 nu ma k4.length 0) (R5 m A)
 generalize hcr:k4.length=cr at *;generalize (k4++[Nd.lst ((as.map (·.1)).map .loc)]).set h.length (av 3 nu ma cr 0)=k6 at *;have R7:=fun m A=>At.new (Nd.lst []) (a:=[_,_,_,_]) (R6 m A)
 have s4:∀ ρ,fL [15] "entries" ρ (.loc k6.length) (.loc h.length) (k6++[Nd.lst []])=some (.nx ρ,(k6++[Nd.lst []]).set h.length (av 4 nu ma cr k6.length)):=fun ρ=>yeW ((R7 [] e0).get 0 rfl) (by decide) (by kernel_rfl!)
 have R8:=fun m A=>At.upd (a:=[]) (av 4 nu ma cr k6.length) (R7 m A)
 refine ⟨_,⟨h.length,nu,ma,cr,k6.length⟩,as,?_,rfl,fun m A=>⟨R8 m A,q4⟩⟩;have l0:∀ k,yX [.lst (bx.map .int)] k=some (.lst (bx.map .int),k):=fun _=>rfl
 have lw:(((bx.map PV.int).length:Nat):Int)=bx.length:=by rw [length_map]
 delta ycw;show ob (yl _ _ [.val (.loc h.length),.val (.lst (bx.map .int)),.val (.lst (hsV hs))] k0) fnK=_
 simpa [yql,c0,l0,hnu,s1,lw]
 rw [if_pos (by omega),yFO];have i1:xIL (yT ycv (yc (ye 2) (yi))) [.val (.loc h.length),.val (.lst (bx.map .int)),.val (.lst (hsV hs))] k2=some (hs.map fun p=>.lst (p.map ysT),k3):=by
  unfold xIL
  simpa [q1]
 have l8:((hs.map fun p=>PV.lst (p.map ysT)).length<=100000)=True:=eq_true (by rw [length_map];omega)
 simpa [yql,hma,s2,i1,l8,q3,hcr,s3,s4]
end
section
variable {h:AH}
abbrev Pc:=Q×(Int->List Rw)
noncomputable def lrB (n:Nat):XS:=ynC 2 (yT (ydc n) (yc (ye 3) (yc (xOp yeu (ye 1) (yhp 2)) yi)))
structure ytF (d:Nat) (ar:Int) (p:Pc):Prop where
 rd:∀ n,PQ (n+d) ar p.1
 lg:∀ n (h:AH),ynw "long" (yha (n+d)) (ye 0) [.val p.1.1] h=some (.int ((p.2 0).length:Nat),h)
 rw:∀ n (f:Int) (h:AH),ydc (n+d) [p.1.1,.int f] h=some (.lst ((p.2 f).map yV),h)
 fs:frs p.1.2
 ln:∀ f,(p.2 f).length=(p.2 0).length
noncomputable def AllOk (d:Nat) (ar:Int) (l:List Pc):Prop:=∀ p∈l,ytF d ar p
noncomputable def cat:List Pc->Int->List Rw
 | [],_=>[]
 | p::l,f=>p.2 f++cat l (f+((p.2 f).length:Nat))
noncomputable def lgs (l:List Pc):Int:=(l.map fun p=>((p.2 0).length:Int)).sum
section
variable {d:Nat}{ar:Int}{p:Pc}{l:List Pc}
theorem AllOk.c (a:ytF d ar p) (b:AllOk d ar l):AllOk d ar (p::l):=List.forall_mem_cons.2 ⟨a,b⟩
theorem AllOk.n:AllOk d ar []:=fun _ h=>by cases h
theorem AllOk.a {m:List Pc}(a:AllOk d ar l) (b:AllOk d ar m):AllOk d ar (l++m):=fun p hp=>(List.mem_append.mp hp).elim (a p) (b p)
theorem yfO:∀ {l:List Pc}{f:Int},AllOk d ar l->((cat l f).length:Int)=lgs l
 | [],_,_=>rfl
 | p::l,f,H=>by
  have:=yfO (l:=l) (f:=f+((p.2 f).length:Nat)) fun p h=>H p (mem_cons_of_mem _ h)
  have e:=(H p mem_cons_self).ln f;unfold cat;rw [length_append,Int.natCast_add,this,e];rfl
theorem yCs:∀ l,0<=lgs l
 | []=>Int.le_refl _
 | p::l=>Int.add_nonneg (Int.natCast_nonneg _) (yCs l)
theorem yvX {m:List Pc}:lgs (l++m)=lgs l+lgs m:=by unfold lgs;simp_all
end
theorem yCt {i:Nat}{e:XE}{ρ:PSt}{xs:List PV}(c:ρ[i]?=some (.own (.lst xs))) {ys:List PV}{h1:AH}(b:e ρ h=some (.lst ys,h1)) (hl:xs.length+ys.length<=100000):ynC i e ρ h=some (.nx (ρ.set i (.own (.lst (xs++ys)))),h1):=by unfold ynC;rw [c];show ob _ _=_;rw [b,ycA];simp_all
section
variable {d n:Nat}{ar:Int}
theorem ysZ {X:PV}{F:Int}:∀ l R v,AllOk d ar l->R.length+lgs l<=1000 ->
  ∃ b,yeR (yr 3) (lrB (n+d)) (l.map fun p=>p.1.1) [.val X,.val (.int F),.own (.lst (R.map yV)),v] h=some (.nx [.val X,.val (.int F),.own (.lst ((R++cat l (F+R.length)).map yV)),b],h)
 | [],R,v,_,_=>⟨v,by show some _=_;unfold cat;rw [append_nil]⟩
 | p::l,R,v,hp,hl=>by
  have P:=hp p mem_cons_self;have g:=P.rw n (F+R.length) h;have i:=P.ln (F+R.length);have l0:=yCs l;have hl:R.length+((p.2 0).length+lgs l)<=1000:=hl;obtain ⟨b,e⟩:=ysZ l (R++p.2 _) _ (fun p c=>hp p (mem_cons_of_mem _ c)) (by rw [length_append,Int.natCast_add,i];omega);refine ⟨b,?_⟩;have f:lrB (n+d) [.val X,.val (.int F),.own (.lst (R.map yV)),.val p.1.1] h=some (.nx [.val X,.val (.int F),.own (.lst ((R++p.2 (F+R.length)).map yV)),.val p.1.1],h):=by
   refine (yCt (ys:=(p.2 (F+R.length)).map yV) (h1:=h) rfl ?_ (by grind)).trans (by simp_all);have:yhp 2 [.val X,.val (.int F),.own (.lst (R.map yV)),.val (p.1.1)] h=some _:=rfl;rw [length_map] at this
   simpa [this,g]
  show yeR _ _ (p.1.1::l.map _) _ h=_;rw [yht rfl f,e,show cat (p::l) _=p.2 _++cat l _ from rfl];rw [append_assoc,length_append,Int.natCast_add,Int.add_assoc]
theorem yeZ {l:List Pc}{F:Int}(hp:AllOk d ar l) (hl:lgs l<=999):ycu (n+d+1) [.lst (l.map fun p=>p.1.1),.int F] h=some (.lst ((cat l F).map yV),h):=by
 obtain ⟨f,e⟩:=ysZ (n:=n) l [] .no hp (by show (0:Int)+_<=_;omega);rw [show F+([].length:Nat)=F from Int.add_zero F] at e;have c:xIL (ye 0) [.val _,.val (.int F),.own (.lst []),.no] h=some (l.map fun p=>p.1.1,h):=ykz rfl;have b:yeR _ _ _ [.val (.lst (l.map fun p=>p.1.1)),.val _,.own (.lst []),.no] h=some (.nx [.val _,.val _,.own (.lst ((cat l F).map yV)),f],h):=e;delta ycu;show ob (yl _ (yl (yhF _ _ (lrB _)) _) [.val _,.val _,.no,.no] h) fnK=_
 simpa [c,b]
theorem yea {l:List Pc}(H:AllOk d ar l) (hl:l.length<=100):yW (n+d+1) [.lst (l.map fun p=>p.1.1)] h=some (.int (lgs l),h):=by delta yW;symm;rw [ykz rfl,ycA];rw [if_pos (by grind)];rw [yfJ (f:=fun p=>p.1.1) (g:=fun p=>.int _) fun p hp=>(H p hp).lg n h];symm;rw [show (l.map _)=(l.map _).map PV.int by rw [map_map];rfl];unfold yuG ybE;simp only [ygF];rfl
theorem ypX {l:List Pc}(hp:AllOk d ar l) (hd:d<=44) (hl:lgs l<=999):yen [.lst (l.map fun p=>p.1.1)] h=some (.lst ((cat l 0++[Rw.lay]).map yV),h):=by
 have b:=by have:=yeZ (h:=h) (n:=44-d) (F:=0) hp hl;rwa [show 44-d+d+1=45 by omega] at this
 have:=yfO (f:=0) hp;delta yen;show ob (yN _ [.val _] h) fnK=_
 simpa [b]
 rw [if_pos (by grind),map_append];rfl
end
theorem yzA:∀ {B:Nat} l,(∀ q∈l,frs q.2/\q.2.length<=B/\q.2≠[])->frs (wr l)/\(wr l).length<=(B+1)*l.length/\∀ q:Q,q.2≠[]->Str.join " ; " ((q::l).map fun q=>Str.join " " q.2)=Str.join " " (q.2++wr l)
 | _,[],_=>⟨(fun _ h=>by cases h),Nat.le_refl _,fun q _=>by show _=Str.join " " (q.2++[]);rw [append_nil];rfl⟩
 | B,u::l,H=>by
  obtain ⟨h1,h2,c⟩:=H u mem_cons_self;obtain ⟨e,g,d⟩:=yzA l fun q h=>H q (mem_cons_of_mem _ h)
  refine ⟨List.forall_mem_cons.2 ⟨yiS _ (by rfl'),yeV h1 e⟩,?_,fun q f=>?_⟩
  .show (u.2++wr l).length+1<=(B+1)*(l.length+1);grind
  .show Str.join " " q.2++" ; "++Str.join " ; " _=Str.join " " (q.2++(";":Str)::(u.2++wr l));rw [d u c,yfn f (fun z=>by cases z),yso fun z=>c (List.append_eq_nil_iff.mp z).1,yBU];simp only [ymf]
theorem ynS {W:List Str}(f:frs W) (c:W≠[]) (hl:W.length<=3000):yfm [.str (Str.join " " W)] h=some (.lst (W.map .str),h):=by
 have e:=yhI " " (by rfl') W f;delta yfm;show ob (yl _ _ [.val _] h) fnK=_
 simpa [yzg f c,yyO (show (Str.join " " W).length<=100000 by omega),yie _ c fun w d=>(f w d).1,↓reduceIte]
theorem yCu {d:Nat}{s:Str}{p:Pc}{l:List Pc}(H:AllOk d 0 (p::l)) (hd:d<=44) (es:s=Str.join " ; " ((p::l).map fun p=>Str.join " " p.1.2)) (x:∀ q∈p::l,q.1.2.length<=99) (hl:l.length<=28) (F:lgs (p::l)<=79):Rdb (s,cat (p::l) 0++[Rw.lay])/\s.length<=69000:=by
 have A:∀ q∈(p::l).map (·.1),PQ 44 0 q/\frs q.2/\q.2.length<=99/\q.2≠[]:=fun q f=>by obtain ⟨p,hp,rfl⟩:=List.mem_map.mp f;have R:=(H p hp).rd (44-d);rw [show 44-d+d=44 by omega] at R;obtain ⟨P,w,tl,e,n⟩:=R;exact ⟨⟨P,w,tl,e,n⟩,(H p hp).fs,x p hp,by rw [e];exact fun z=>by cases z⟩
 obtain ⟨a1,a2,a3,a4⟩:=A p.1 mem_cons_self;obtain ⟨B,v,E⟩:=yzA (l.map (·.1)) fun q f=>(A q (mem_cons_of_mem _ f)).2
 have c:s=Str.join " " (wl ((p::l).map (·.1))):=by rw [es];refine .trans ?_ (E p.1 a4);rw [map_cons,map_cons,map_map];rfl
 have j:frs (wl ((p::l).map (·.1))):=yeV a2 B;have u:wl ((p::l).map (·.1))≠[]:=fun z=>a4 (List.append_eq_nil_iff.mp z).1
 have D:(wl ((p::l).map (·.1))).length<=3000:=by show (p.1.2++wr (l.map (·.1))).length<=3000;rw [length_append];rw [length_map] at v;omega
 refine ⟨fun h=>?_,by have:=yhI " " (by rfl') _ j;rw [c];omega⟩;have I:(p::l).length<=79:=by rw [length_cons];omega
 have k:∀ h,yen [.lst ((p::l).map (·.1.1))] h=some _:=fun h=>ypX H hd (by omega)
 obtain ⟨d,d',C⟩:∃ d d',yme [.str s] h=some (.lst ((p::l).map (·.1.1)),(h++[d]).set h.length d'):=by
  refine ⟨rdr (wl ((p::l).map (·.1))) 0,rdr (wl ((p::l).map (·.1))) (0+(wl ((p::l).map (·.1))).length),?_⟩;rw [c];clear c es k;have t:=fun h=>by have:=yea (h:=h) (n:=44-d) H (by omega);rwa [show 44-d+d+1=45 by omega] at this
  generalize o:(p::l).map (·.1)=b at *;have hv:b.map (·.1)=(p::l).map (·.1.1):=by rw [<- o,map_map];rfl
  have i:b.length<=90:=by rw [<- o,length_map];omega
  delta yme;show ob (yl _ _ [.val (.str (Str.join " " (wl b))),.no,.no] h) fnK=_;have y:h.length<(h++[rdr (wl b) 0]).length:=by simp
  have c:h++[rdr (wl b) 0]=hR (h++[rdr (wl b) 0]) h.length (wl b) 0:=by unfold hR;simp
  simpa [ynS j u D,show ydd [PV.lst (List.map PV.str (wl b))] h=some (rdr (wl b) 0,h) from rfl]
  generalize J:h++[rdr (wl b) 0]=G at *;conv=>lhs;rw [c]
  have r:h.length<G.length/\(wl b).length<=100000:=⟨y,by omega⟩
  simpa [ycF,list_eq (rest:=[]) r (.inl rfl) (fun q f=>(A q f).1) i (show (wl b).drop 0=wl b++[] by simp),hv,yeE r (show (wl b).drop (0+(wl b).length)=[] by simp),hdV,t]
  rw [if_neg (by intro z;cases z),if_neg (by omega)];rfl
 refine ⟨(h++[d]).set h.length d',?_,fun m A=>At.seen A⟩;dsimp only;clear es c
 simpa [C,k]
end
noncomputable def vR:Rw->PV
 | .let_ r n=>.ins 1 ["slot","number"] [.str r,.int n]
 | .reckon w a b c=>.ins 2 ["word","slot","one","other"] [.str w,.str a,.str b,.str c]
 | .take r s=>.ins 3 ["slot","place"] [.str r,.str s]
 | .put r s=>.ins 4 ["place","slot"] [.str r,.str s]
 | .throw r s=>.ins 8 ["name","slot"] [.str r,.str s]
 | _=>.ins 9 [] []
noncomputable def wR:Rw->List Str
 | .let_ r n=>["let",r,(tI n)]
 | .reckon w a b c=>[w,a,b,c]
 | .take r s=>["take",r,s]
 | .put r s=>["put",r,s]
 | .throw r s=>["throw",r,s]
 | _=>["wait"]
abbrev qR (r:Rw):Q:=(vR r,wR r)
def pl (r:Rw):Pc:=(qR r,fun _=>[r])
def sd (l:List Q):List Str:=("(":Str)::(wl l++[(")":Str)])
noncomputable def iQ (s:Str) (a b:List Q):Q:=(.ins 5 ["slot","parts","others"] [.str s,.lst (a.map (·.1)),.lst (b.map (·.1))],("if":Str)::s::(sd a++("else":Str)::sd b))
noncomputable def eQ (a b:List Q):Q:=(.ins 6 ["parts","others"] [.lst (a.map (·.1)),.lst (b.map (·.1))],("either":Str)::(sd a++("or":Str)::sd b))
noncomputable def tQ (nm s:Str) (a b:List Q):Q:=(.ins 7 ["parts","name","slot","others"] [.lst (a.map (·.1)),.str nm,.str s,.lst (b.map (·.1))],("try":Str)::(sd a++("on":Str)::nm::s::sd b))
def sl (r:Str):Prop:=ydZ r/\fr r
noncomputable def gdR:Rw->Prop
 | .let_ r n=>sl r/\0<=n/\n<B64
 | .reckon w a b c=>w∈W5/\sl a/\sl b/\sl c
 | .take r s|.put r s=>sl r/\sl s
 | .throw r s=>(yis r/\fr r)/\sl s
 | .wait=>True
 | _=>False
theorem slA:sl "a":=⟨fun _=>rfl,yiS _ (rfl)⟩
theorem yDh:sl "b":=⟨fun _=>rfl,yiS _ (rfl)⟩
theorem slC:sl "c":=⟨fun _=>rfl,yiS _ (rfl)⟩
theorem slD:sl "d":=⟨fun _=>rfl,yiS _ (rfl)⟩
def PF (n:Nat) (ar:Int) (q:Q):Prop:=PQ n ar q/\frs q.2
def LF (n:Nat) (ar:Int) (l:List Q):Prop:=(∀ q∈l,PF n ar q)/\l.length<=90
section
variable {n:Nat}{ar:Int}{r:Rw}{a b l:List Q}{q:Q}{s nm:Str}
theorem ycU {w:Str}{l:List Str}(h:fr w) (k:frs l):frs (w::l):=List.forall_mem_cons.2 ⟨h,k⟩
theorem ykQ:frs []:=fun _ h=>by cases h
theorem yEU (g:gdR r) (f:ar<=8):PF (n+1) ar (qR r):=by
 cases r with
 | let_ r n=>exact ⟨⟨yjD (rfl) f (yEJ g.1.1 g.2),_,_,rfl,eq_false (by rfl')⟩,ycU (yiS _ (rfl)) (ycU g.1.2 (ycU (yxa g.2.1 g.2.2) ykQ))⟩
 | take r s=>exact ⟨⟨yjD (rfl) f (yxe g.1.1 g.2.1).1,_,_,rfl,eq_false (by rfl')⟩,ycU (yiS _ (rfl)) (ycU g.1.2 (ycU g.2.2 ykQ))⟩
 | put r s=>exact ⟨⟨yjD (rfl) f (yxe g.1.1 g.2.1).2,_,_,rfl,eq_false (by rfl')⟩,ycU (yiS _ (rfl)) (ycU g.1.2 (ycU g.2.2 ykQ))⟩
 | throw r s=>exact ⟨⟨yjD (rfl) f (yzl g.1.1 g.2.1),_,_,rfl,eq_false (by rfl')⟩,ycU (yiS _ (rfl)) (ycU g.1.2 (ycU g.2.2 ykQ))⟩
 | wait=>exact ⟨⟨yjD (rfl) f yBX,_,_,rfl,eq_false (by rfl')⟩,ycU (yiS _ (rfl)) ykQ⟩
 | reckon w a b c=>refine ⟨⟨yjD ?_ f (yvF g.1 g.2.1.1 g.2.2.1.1 g.2.2.2.1),_,_,rfl,eq_false ?_⟩,ycU ?_ (ycU g.2.1.2 (ycU g.2.2.1.2 (ycU g.2.2.2.2 ykQ)))⟩<;>rcases yxc g.1 with rfl|rfl|rfl|rfl|rfl<;>first|exact yiS _ (rfl)|rfl'
 | _=>exact g.elim
theorem LF.f (k:LF n ar l):frs (sd l):=by
 have e:∀ l,(∀ q∈l,PF n ar q)->frs (wr l):=fun l=>by
  induction l with
  | nil=>exact fun _=>ykQ
  | cons q l ih=>exact fun h=>ycU (yiS _ (by rfl')) (yeV (h q mem_cons_self).2 (ih fun q f=>h q (mem_cons_of_mem _ f)))
 refine ycU (yiS _ (rfl)) (yeV ?_ (ycU (yiS _ (rfl)) ykQ));cases l with
 | nil=>exact ykQ
 | cons q l=>exact yeV (k.1 q mem_cons_self).2 (e l fun q f=>k.1 q (mem_cons_of_mem _ f))
theorem LF.t (k:LF n ar l):Tk "side_taken" (yq (n+2)) [.int ar] (.lst (l.map (·.1))) (sd l):=yBY (fun q d=>(k.1 q d).1) k.2
theorem yGi (e:ar<=8) (A:LF n (ar+1) a) (B:LF n (ar+1) b):PF (n+4) ar (eQ a b):=⟨⟨(yst e).1 (yvG A.t B.t),_,_,rfl,eq_false (by rfl')⟩,ycU (yiS _ (rfl)) (yeV A.f (ycU (yiS _ (rfl)) B.f))⟩
theorem yGj (e:ar<=8) (g:sl s) (A:LF n (ar+1) a) (B:LF n (ar+1) b):PF (n+4) ar (iQ s a b):=⟨⟨yvH e (yGg g.1 A.t B.t),_,_,rfl,eq_false (by rfl')⟩,ycU (yiS _ (rfl)) (ycU g.2 (yeV A.f (ycU (yiS _ (rfl)) B.f)))⟩
theorem yGk (f:ar<=8) (e:yis nm/\fr nm) (g:sl s) (A:LF n (ar+1) a) (B:LF n (ar+1) b):PF (n+4) ar (tQ nm s a b):=⟨⟨(yst f).2 (yEK e.1 g.1 A.t B.t),_,_,rfl,eq_false (by rfl')⟩,ycU (yiS _ (rfl)) (yeV A.f (ycU (yiS _ (rfl)) (ycU e.2 (ycU g.2 B.f))))⟩
theorem ypY {d:Nat}(g:gdR r) (ha:ar<=8):ytF (d+1) ar (pl r):=by
 refine ⟨fun n=>(yEU (n:=n+d) g ha).1,?_,?_,(yEU (n:=0) g ha).2,fun _=>rfl⟩
 .intro n;show ∀ h:AH,ynw "long" (yha (n+d+1)) (ye 0) [.val (vR r)] h=some (.int 1,h);cases r<;>first|exact g.elim|exact fun _=>by kernel_rfl!
 .intro n;show ∀ (f:Int) (h:AH),ydc (n+d+1) [vR r,.int f] h=some (.lst [yV r],h);cases r with
  | reckon w a b c=>rcases yxc g.1 with rfl|rfl|rfl|rfl|rfl<;>exact fun _ _=>by kernel_rfl!
  | _=>first|exact g.elim|exact fun _ _=>by kernel_rfl!
end
noncomputable def qs (l:List Pc):List Q:=l.map (·.1)
noncomputable def ifP (s:Str) (A B:List Pc):Pc:=(iQ s (qs A) (qs B),fun f=>.unl s (f+2+lgs A)::(cat A (f+1)++.jump (f+2+lgs A+lgs B)::cat B (f+2+lgs A)))
noncomputable def eiP (A B:List Pc):Pc:=(eQ (qs A) (qs B),fun f=>.either (f+3+lgs A)::(cat A (f+1)++.settle::.jump (f+3+lgs A+lgs B)::cat B (f+3+lgs A)))
noncomputable def trP (nm s:Str) (A B:List Pc):Pc:=(tQ nm s (qs A) (qs B),fun f=>.guard nm s (f+3+lgs A)::(cat A (f+1)++.settle::.jump (f+3+lgs A+lgs B)::cat B (f+3+lgs A)))
section
variable {d:Nat}{ar:Int}{A B:List Pc}{h:AH}
theorem AllOk.lf (H:AllOk d ar A) (hl:A.length<=90) (n:Nat):LF (n+d) ar (qs A):=⟨fun q hq=>by obtain ⟨p,hp,rfl⟩:=List.mem_map.mp hq;exact ⟨(H p hp).rd n,(H p hp).fs⟩,by unfold qs;rw [length_map];exact hl⟩
theorem yGl:(qs A).map (·.1)=A.map fun p=>p.1.1:=by unfold qs;rw [map_map];rfl
theorem yvY {v:PV}{n:Nat}{b:Int}{hd:Int->Rw}{bt:Int->List Rw}(HA:AllOk d (ar+1) A) (HB:AllOk d (ar+1) B) (hd0:d<=30) (la:A.length<=90/\lgs A<=90) (lb:B.length<=90/\lgs B<=90)
  (e1:∀ h,yuO "long" (yha 45) v h=some (.int (b+lgs A+lgs B),h))
  (e2:∀ h,yeO [5,6,7] "others" v h=some (.lst (B.map fun p=>p.1.1),h)) (e3:∀ h,yeO [5,6,7] "parts" v h=some (.lst (A.map fun p=>p.1.1),h))
  (e4:∀ (k:Int) h,yeD [v,.int k] h=some (yV (hd k),h)) (e5:∀ (k:Int) h,ydk [v,.int k] h=some (.lst ((bt k).map yV),h)) (e6:∀ k,(bt k).length<=2) {f:Int} :
  ydX (n+d+2) [v,.int f] h=some (.lst ((hd (f+b+lgs A)::(cat A (f+1)++(bt (f+b+lgs A+lgs B)++cat B (f+b+lgs A)))).map yV),h):=by
 have hl:∀ h,yW 45 [.lst (B.map fun p=>p.1.1)] h=some (.int (lgs B),h):=fun h=>by have:=yea (h:=h) (n:=44-d) HB (by omega);rwa [show 44-d+d+1=45 by omega] at this
 have r1:∀ h,ycu (n+d+1) [.lst (A.map fun p=>p.1.1),.int (f+1)] h=some (.lst ((cat A (f+1)).map yV),h):=fun h=>yeZ HA (by omega)
 have r2:∀ h,ycu (n+d+1) [.lst (B.map fun p=>p.1.1),.int (f+b+lgs A)] h=some (.lst ((cat B (f+b+lgs A)).map yV),h):=fun h=>yeZ HB (by omega)
 have c1:=yfO (f:=f+1) HA;have c2:=yfO (f:=f+b+lgs A) HB;have c3:=e6 (f+b+lgs A+lgs B);delta ydX;show ob (yl _ _ [.val v,.val (.int f),.no,.no,.no,.no] h) fnK=_;have z1:f+b+lgs A+lgs B-lgs B=f+b+lgs A:=by omega
 have z2:f+(b+lgs A+lgs B)=f+b+lgs A+lgs B:=by omega
 have k1:∀ {a b:List PV}{h:AH},a.length+b.length<=1000->yot (.lst a) (.lst b) h=some (.lst (a++b),h):=fun l=>by rw [yrv,if_pos (by omega)]
 have k2:∀ h,yot (.lst [yV (hd (f+b+lgs A))]) (.lst ((cat A (f+1)).map yV)) h=some (.lst ((hd (f+b+lgs A)::cat A (f+1)).map yV),h):=fun h=>k1 (by simp only [length_cons,length_nil,length_map];omega)
 have k3:∀ h,yot (.lst ((hd (f+b+lgs A)::cat A (f+1)).map yV)) (.lst ((bt (f+b+lgs A+lgs B)).map yV)) h=some (.lst ((hd (f+b+lgs A)::cat A (f+1)++bt (f+b+lgs A+lgs B)).map yV),h):=fun h=>(k1 (by simp only [length_cons,length_map];omega)).trans (by rw [map_append])
 have k4:∀ h,yot (.lst ((hd (f+b+lgs A)::cat A (f+1)++bt (f+b+lgs A+lgs B)).map yV)) (.lst ((cat B (f+b+lgs A)).map yV)) h=some (.lst ((hd (f+b+lgs A)::(cat A (f+1)++(bt (f+b+lgs A+lgs B)++cat B (f+b+lgs A)))).map yV),h):=fun h=>(k1 (by simp only [length_append,length_cons,length_map];omega)).trans (by rw [<- map_append,append_assoc];rfl)
 clear k1
 simpa [e1,e2,e3,hl,z2,z1,r1,r2,e4,e5,k2,k3,k4,-yrv]
variable (hd0:d<=30) (la:A.length<=90/\lgs A<=90) (lb:B.length<=90/\lgs B<=90) (HA:AllOk d (ar+1) A) (HB:AllOk d (ar+1) B) (ha:ar<=8)
include hd0 la lb HA HB ha
theorem yzB {n k:Nat}{b:Int}{fs:List Str}{xs:List PV}{F:Nat->Fn}(e:∀ m,F (m+1)=ybs 1 (yN (xOp yeu (xOp yeu (xC (.int b)) (yT (yW m) (yc (ybd [5,6,7] "parts" (ye 0)) yi))) (yT (yW m) (yc (ybd [5,6,7] "others" (ye 0)) yi)))))
  (f:∀ h,yeO [5,6,7] "others" (.ins k fs xs) h=some (.lst (B.map fun p=>p.1.1),h)) (g:∀ h,yeO [5,6,7] "parts" (.ins k fs xs) h=some (.lst (A.map fun p=>p.1.1),h)):F (n+d+2) [.ins k fs xs] h=some (.int (b+lgs A+lgs B),h):=by
 have a:∀ h,yW (n+d+1) _ h=some _:=fun h=>yea HA (by omega)
 have c:∀ h,yW (n+d+1) _ h=some _:=fun h=>yea HB (by omega)
 rw [e,yp];show ob (yN _ [.val _] h) fnK=_
 simpa [f,g,a,c]
theorem yzC {k:Nat}{fs ws:List Str}{xs:List PV}{b:Nat}{hd:Int->Rw}{bt:Int->List Rw}{F:Nat->Fn}(q:∀ n,PF (n+d+4) ar (.ins k fs xs,ws)) (v:∀ m,F (m+1)=ybs 1 (yN (xOp yeu (xOp yeu (xC (.int b)) (yT (yW m) (yc (ybd [5,6,7] "parts" (ye 0)) (yi)))) (yT (yW m) (yc (ybd [5,6,7] "others" (ye 0)) (yi))))))
  (a:∀ h,yeO [5,6,7] "others" (.ins k fs xs) h=some (.lst ((qs B).map (·.1)),h)) (c:∀ h,yeO [5,6,7] "parts" (.ins k fs xs) h=some (.lst ((qs A).map (·.1)),h)) (u:∀ (i:Int) h,yeD [.ins k fs xs,.int i] h=some (yV (hd i),h)) (r:∀ (i:Int) h,ydk [.ins k fs xs,.int i] h=some (.lst ((bt i).map yV),h))
  (p:∀ k,(bt k).length+1=b) (w:b<=3) (o:∀ m h,yuO "long" (yha (m+1)) (.ins k fs xs) h=F m [.ins k fs xs] h) (s:∀ (f:Int) h,ptT [.val (.ins k fs xs),.val (.int f)] h=some (true,h)) :
  ytF (d+4) ar ((.ins k fs xs,ws),fun f=>hd (f+b+lgs A)::(cat A (f+1)++(bt (f+b+lgs A+lgs B)++cat B (f+b+lgs A)))):=by
 rw [yGl] at a c;have g:∀ f:Int,((hd (f+b+lgs A)::(cat A (f+1)++(bt (f+b+lgs A+lgs B)++cat B (f+b+lgs A)))).length:Int)=b+lgs A+lgs B:=fun f=>by have x:=yfO (f:=f+1) HA;have y:=yfO (f:=f+b+lgs A) HB;grind
 have l:∀ n h,F (n+d+2) _ h=some _:=fun n h=>yzB (n:=n) (F:=F) hd0 la lb HA HB ha v a c
 have j:∀ h,yuO "long" (yha 45) _ h=some _:=fun h=>by rw [o 44 h,<- l (42-d) h,show 42-d+d+2=44 by omega]
 refine ⟨fun n=>(q n).1,fun n h=>?_,fun n f h=>?_,(q 0).2,fun f=>by have:=g f;have:=g 0;dsimp only;omega⟩
 .rw [g 0,<- l (n+1) h,show n+(d+4)=n+1+d+2+1 by omega];exact o _ h
 .dsimp only;have e:=yvY (n:=n+1) (h:=h) (f:=f) HA HB hd0 la lb j a c u r (fun k=>by have:=p k;omega);rw [show n+(d+4)=n+1+d+2+1 by omega];have t:=s f h;delta ydc;show ob (yl _ _ [.val _,.val (.int f)] h) fnK=_
  simpa [t,e]
theorem yzD {s:Str}(g:sl s):ytF (d+4) ar (ifP s A B):=yzC (bt:=fun k=>[.jump k]) (F:=yir) hd0 la lb HA HB ha (fun n=>yGj ha g (HA.lf la.1 n) (HB.lf lb.1 n)) (fun _=>rfl) fun _=>by kernel_rfl! fun _=>by kernel_rfl! fun _ _=>by kernel_rfl! fun _ _=>by kernel_rfl! (fun _=>rfl) (by decide) fun _ _=>by kernel_rfl! fun _ _=>by kernel_rfl!
theorem yEV:ytF (d+4) ar (eiP A B):=yzC (bt:=fun k=>[.settle,.jump k]) (F:=yeC) hd0 la lb HA HB ha (fun n=>yGi ha (HA.lf la.1 n) (HB.lf lb.1 n)) (fun _=>rfl) fun _=>by kernel_rfl! fun _=>by kernel_rfl! fun _ _=>by kernel_rfl! fun _ _=>by kernel_rfl! (fun _=>rfl) (by decide) fun _ _=>by kernel_rfl! fun _ _=>by kernel_rfl!
theorem yEW {nm s:Str}(a:yis nm/\fr nm) (g:sl s):ytF (d+4) ar (trP nm s A B):=yzC (bt:=fun k=>[.settle,.jump k]) (F:=ygN) hd0 la lb HA HB ha (fun n=>yGk ha a g (HA.lf la.1 n) (HB.lf lb.1 n)) (fun _=>rfl) fun _=>by kernel_rfl! fun _=>by kernel_rfl! fun _ _=>by kernel_rfl! fun _ _=>by kernel_rfl! (fun _=>rfl) (by decide) fun _ _=>by kernel_rfl! fun _ _=>by kernel_rfl!
end
noncomputable def shR (f:Int):Rw->Rw
 | .either k=>.either (f+k)
 | .guard a b k=>.guard a b (f+k)
 | .jump k=>.jump (f+k)
 | .unl s k=>.unl s (f+k)
 | r=>r
noncomputable def zn:Nat->Option Nat->List Rw->List (Option Nat)
 | _,_,[]=>[]
 | i,z,r::l=>z::zn (i+1) (match r with|.either _=>some i|.guard ..=>some i|.settle=>none|_=>z) l
def zo (S:List Rw) (i:Nat):Option Nat:=((zn 0 none S)[i]?).getD none
noncomputable def tg (S:List Rw) (k:Int) (z:Option Nat):Bool:=decide (0<=k) && decide (k.toNat<=S.length) && (zo S k.toNat == z)
noncomputable def ckR (S:List Rw) (i:Nat):Rw->Bool
 | .unl _ k=>(zo S (i+1) == zo S i) && tg S k (zo S i)
 | .jump k=>tg S k (zo S i)
 | .either k=>(zo S i == none) && (zo S (i+1) == some i) && tg S k none
 | .guard _ _ k=>(zo S i == none) && (zo S (i+1) == some i) && tg S k none
 | .settle=>(zo S i).isSome && (zo S (i+1) == none)
 | .wait=>true
 | .throw ..=>true
 | .lay=>false
 | _=>zo S (i+1) == zo S i
noncomputable def chk (S:List Rw):Bool:=decide (0<S.length) && (List.range S.length).all fun i=>(match S[i]? with|some r=>okR r && ckR S i r|none=>false) && (match zo S i with|none=>true|some j=>(match S[j]? with|some b=>ygj b && okR b && tg S (toB b) none|none=>false))
noncomputable def DR:List (List Rw)->Nat->List Rw
 | [],_=>[.lay]
 | S::l,f=>S.map (shR f)++DR l (f+S.length)
noncomputable def zR (S:List Rw) (f i:Nat):Option Rw:=(zo S i).bind fun j=>(S[j]?).map (shR f)
noncomputable def Pos:List (List Rw)->Nat->Nat->Option Rw->Prop
 | [],f,t,z=>t=f/\z=none
 | S::l,f,t,z=>(∃ i,i<S.length/\t=f+i/\z=zR S f i)\/Pos l (f+S.length) t z
noncomputable def cnd (P:Nat->Option Rw->Prop) (t:Nat) (z:Option Rw):Rw->Prop
 | .unl _ k=>P (t+1) z/\P k.toNat z
 | .jump k=>P k.toNat z
 | .either k=>z=none/\P (t+1) (some (.either k))/\P k.toNat none
 | .guard a b k=>z=none/\P (t+1) (some (.guard a b k))/\P k.toNat none
 | .settle=>z≠none/\P (t+1) none
 | .wait=>True
 | .throw ..=>True
 | .lay=>z=none
 | _=>P (t+1) z
def ytG:Rw->Prop|.let_ _ n=>0<=n/\n<B64|_=>True
structure yxg (rws:List Rw) (P:Nat->Option Rw->Prop):Prop where
 st:P 0 none
 nx:∀ t z,P t z->∃ r,rws[t]?=some r/\okR r=true/\cnd P t z r
 zz:∀ t b,P t (some b)->ygj b=true/\okR b=true/\P (toB b).toNat none
 lt:∀ r∈rws,ytG r
theorem yvZ {P Q:Nat->Option Rw->Prop}(h:∀ t z,P t z->Q t z) {t:Nat}{z:Option Rw}{r:Rw}(c:cnd P t z r):cnd Q t z r:=by
 cases r with
 | unl s k=>exact ⟨h _ _ c.1,h _ _ c.2⟩
 | jump k=>exact h _ _ c
 | either k=>exact ⟨c.1,h _ _ c.2.1,h _ _ c.2.2⟩
 | guard a b k=>exact ⟨c.1,h _ _ c.2.1,h _ _ c.2.2⟩
 | settle=>exact ⟨c.1,h _ _ c.2⟩
 | wait=>trivial
 | throw a b=>trivial
 | lay=>exact c
 | _=>exact h _ _ c
section
variable {S:List Rw}{l:List (List Rw)}{f:Nat}
theorem yGm:zo S 0=none:=by cases S<;>rfl
theorem Pos.st:∀ {l:List _}{f:Nat},(∀ S∈l,chk S=true)->Pos l f f none
 | [],_,_=>⟨rfl,rfl⟩
 | S::l,f,H=>.inl ⟨0,by have:=H S mem_cons_self;unfold chk at this;rw [Bool.and_eq_true_iff] at this;exact of_decide_eq_true this.1,rfl,by unfold zR;rw [yGm];rfl⟩
theorem ypl (H:∀ S∈l,chk S=true) {k:Nat}(c:k<=S.length):Pos (S::l) f (f+k) (zR S f k):=by
 by_cases e:k<S.length
 .exact .inl ⟨k,e,rfl,rfl⟩
 .have:k=S.length:=by omega
  subst this;refine .inr ?_;have a:∀ S i z,(zn i z S).length=S.length:=fun S=>by
   induction S with
   | nil=>intro _ _;rfl
   | cons r S ih=>intro i z;show (zn _ _ S).length+1=_;rw [ih];rfl
  have b:zR S f S.length=none:=by unfold zR zo;rw [getElem?_eq_none (by rw [a];omega)];rfl
  rw [b];exact Pos.st H
theorem yxh (H:∀ S∈l,chk S=true) {k:Int}{z:Option Nat}(e:tg S k z=true):Pos (S::l) f (f+k).toNat (z.bind fun j=>S[j]?.map (shR f)):=by unfold tg at e;simp only [Bool.and_eq_true_iff,decide_eq_true_eq,beq_iff_eq] at e;have:=ypl (f:=f) H e.1.2;unfold zR at this;grind
theorem yxi {r:Rw}(e:okR r=true):okR (shR f r)=true:=by cases r<;>simp only [shR,okR,Bool.and_eq_true_iff,decide_eq_true_eq] at e ⊢<;>first|exact e|omega|grind
theorem yta:∀ (l:List (List Rw)) (f t:Nat) (z:Option Rw),(∀ S∈l,chk S=true)->Pos l f t z->f<=t/\(∃ r,(DR l f)[t-f]?=some r/\okR r=true/\cnd (Pos l f) t z r)/\∀ b,z=some b->ygj b=true/\okR b=true/\Pos l f (toB b).toNat none
 | [],f,t,z,_,⟨A,x⟩=>by subst A;exact ⟨Nat.le_refl _,⟨.lay,by rw [sub_self];rfl,rfl,x⟩,fun b e=>by rw [x] at e;cases e⟩
 | S::l,f,t,z,H,.inr p=>by obtain ⟨h1,⟨r,h2,y,F⟩,u⟩:=yta l (f+S.length) t z (fun S h=>H S (mem_cons_of_mem _ h)) p;refine ⟨by omega,⟨r,?_,y,yvZ (fun _ _=>.inr) F⟩,fun b e=>⟨(u b e).1,(u b e).2.1,.inr (u b e).2.2⟩⟩;show (S.map (shR f)++DR l (f+S.length))[t-f]?=_;rw [getElem?_append_right (by rw [length_map];omega),length_map,show t-f-S.length=t-(f+S.length) by omega,h2]
 | S::l,f,t,z,H,.inl ⟨i,m,D,g⟩=>by
  have C:=H S mem_cons_self;have o:=fun S h=>H S (mem_cons_of_mem _ h)
  unfold chk at C;rw [Bool.and_eq_true_iff] at C;have c:=List.all_eq_true.mp C.2 i (List.mem_range.mpr m);rw [Bool.and_eq_true_iff] at c;obtain ⟨v,d⟩:=c;rw [List.getElem?_eq_getElem m] at v;rw [Bool.and_eq_true_iff] at v;obtain ⟨o1,o2⟩:=v;subst D;have N:zo S (i+1)=zo S i->Pos (S::l) f (f+i+1) z:=fun e=>by have:=ypl (f:=f) (k:=i+1) o m;unfold zR at this;rw [e] at this;rw [g];exact this
  have T:∀ {k:Int},tg S k (zo S i)=true->Pos (S::l) f ((f:Int)+k).toNat z:=fun e=>by rw [g];exact yxh o e
  have w:∀ {k:Int},tg S k none=true->Pos (S::l) f ((f:Int)+k).toNat none:=fun e=>yxh o e
  have B:∀ {b:Rw},S[i]=b->zo S (i+1)=some i->Pos (S::l) f (f+i+1) (some (shR f b)):=fun E e=>by have:=ypl (f:=f) (k:=i+1) o m;unfold zR at this;rw [e,bind_some,List.getElem?_eq_getElem m,E] at this;exact this
  refine ⟨by omega,⟨shR f S[i],?_,yxi o1,?_⟩,fun b e=>?_⟩
  .show (S.map (shR f)++DR l (f+S.length))[f+i-f]?=_;rw [getElem?_append_left (by rw [length_map];omega),getElem?_map,show f+i-f=i by omega,List.getElem?_eq_getElem m];rfl
  .generalize G:S[i]=r at *;cases r with
   | unl s k =>
    simp only [ckR,Bool.and_eq_true_iff,beq_iff_eq] at o2;exact ⟨N o2.1,T o2.2⟩
   | jump k=>exact T o2
   | either k =>
    simp only [ckR,Bool.and_eq_true_iff,beq_iff_eq] at o2;exact ⟨by rw [g];unfold zR;rw [o2.1.1];rfl,B rfl o2.1.2,w o2.2⟩
   | guard a b k =>
    simp only [ckR,Bool.and_eq_true_iff,beq_iff_eq] at o2;exact ⟨by rw [g];unfold zR;rw [o2.1.1];rfl,B rfl o2.1.2,w o2.2⟩
   | settle =>
    simp only [ckR,Bool.and_eq_true_iff,beq_iff_eq] at o2;have p:=ypl (f:=f) (k:=i+1) o m;unfold zR at p;rw [o2.2] at p;refine ⟨fun e=>?_,p⟩;obtain ⟨j,n⟩:=Option.isSome_iff_exists.mp o2.1;rw [n] at d;rw [e] at g;unfold zR at g;rw [n,bind_some] at g;dsimp only at d;cases q:S[j]? with
    | none=>rw [q] at d;cases d
    | some b=>rw [q] at g;cases g
   | wait=>trivial
   | throw a b=>trivial
   | lay=>cases o2
   | _=>exact N (by simpa [ckR] using o2)
  .rw [g] at e;unfold zR at e;cases n:zo S i with
   | none=>rw [n] at e;cases e
   | some j =>
    rw [n,bind_some] at e;rw [n] at d;dsimp only at d;cases q:S[j]? with
    | none=>rw [q] at e;cases e
    | some b' =>
     rw [q] at e d;cases e;simp only [Bool.and_eq_true_iff] at d;refine ⟨?_,yxi d.1.2,?_⟩
     .revert d;cases b'<;>simp [ygj,shR]
     .have:=w d.2
      revert this d;cases b'<;>simp [ygj,shR,toB]
end
theorem yxj:∀ {l:List _}{f:Nat},(∀ S∈l,∀ r∈S,ytG r)->∀ r∈DR l f,ytG r
 | [],_,_,r,h=>by rw [List.mem_singleton.mp h];trivial
 | S::l,f,H,r,h=>by
  rcases List.mem_append.mp h with h|h
  .obtain ⟨q,b,rfl⟩:=List.mem_map.mp h;have:=H S mem_cons_self q b;cases q<;>exact this
  .exact yxj (fun S h=>H S (mem_cons_of_mem _ h)) r h
theorem yzE {l:List _}(H:∀ S∈l,chk S=true) (K:∀ S∈l,∀ r∈S,ytG r):yxg (DR l 0) (Pos l 0):=⟨Pos.st H,fun t z p=>(yta l 0 t z H p).2.1,fun t b p=>(yta l 0 t _ H p).2.2 b rfl,yxj K⟩
noncomputable def skR:Rw->Rw
 | .let_ ..=>.let_ "a" 0
 | .reckon ..=>.let_ "a" 0
 | .take ..=>.let_ "a" 0
 | .put ..=>.let_ "a" 0
 | r=>r
noncomputable def ywa (S:List Rw):Bool:=decide (0<S.length) && (List.range S.length).all fun i=>(match S[i]? with|some r=>ckR S i r|none=>false) && (match zo S i with|none=>true|some j=>(match S[j]? with|some b=>ygj b && tg S (toB b) none|none=>false))
section
variable {S:List Rw}
theorem yCv:∀ S i z,zn i z (S.map skR)=zn i z S
 | [],_,_=>rfl
 | r::S,i,z=>by show z::zn _ _ _=z::zn _ _ S;rw [yCv S];cases r<;>rfl
theorem yzF {i:Nat}:zo (S.map skR) i=zo S i:=by unfold zo;rw [yCv]
theorem yCw {k:Int}{z:Option Nat}:tg (S.map skR) k z=tg S k z:=by unfold tg;rw [yzF,length_map]
theorem yEX {i:Nat}{r:Rw}:ckR (S.map skR) i (skR r)=ckR S i r:=by cases r<;>simp only [skR,ckR,yCw,yzF]
theorem yCx (h:ywa (S.map skR)=true) (k:∀ r∈S,okR r=true):chk S=true:=by
 unfold ywa at h;unfold chk;rw [Bool.and_eq_true_iff] at h ⊢;rw [length_map] at h;refine ⟨h.1,List.all_eq_true.mpr fun i f=>?_⟩;have c:=List.all_eq_true.mp h.2 i f;rw [Bool.and_eq_true_iff] at c ⊢;have f:=List.mem_range.mp f;rw [yzF] at c;obtain ⟨g,d⟩:=c;constructor
 .rw [getElem?_map,List.getElem?_eq_getElem f] at g;rw [List.getElem?_eq_getElem f];have g:ckR _ i _=true:=g;rw [yEX] at g;show (okR _ && ckR S i _)=true;simp_all
 .cases e:zo S i with
  | none=>rfl
  | some j =>
   rw [e] at d;dsimp only at d ⊢;rw [getElem?_map] at d;cases q:S[j]? with
   | none=>simp_all
   | some b =>
    rw [q] at d;have d:(ygj _ && tg _ _ none)=true:=d;rw [yCw] at d;have o:=k b (mem_of_getElem? q);dsimp only;rw [o];revert d;cases b<;>simp [skR,ygj,toB]
end
noncomputable def gP:Rw->Prop
 | .let_ a n=>a∈SL/\0<=n/\n<B64
 | .reckon w a b c=>w∈W5/\a∈SL/\b∈SL/\c∈SL
 | .take a b=>a∈SL/\b∈SL
 | .put a b=>a∈SL/\b∈SL
 | _=>False
theorem ykR {a:Str}(h:a∈SL):sl a:=by
 have:a = "a"\/a = "b"\/a = "c"\/a = "d"\/a = "e"\/a = "f"\/a = "g"\/a = "h":=by simpa [SL] using h
 rcases this with rfl|rfl|rfl|rfl|rfl|rfl|rfl|rfl<;>exact ⟨fun _=>by kernel_rfl!,yiS _ (by rfl')⟩
theorem yfa {r:Rw}(g:gP r):gdR r/\okR r=true/\ytG r/\skR r=.let_ "a" 0/\(∀ f,shR f r=r)/\(wR r).length<=4:=by
 cases r with
 | let_ a n=>exact ⟨⟨ykR g.1,g.2⟩,by simpa [okR] using g.1,g.2,rfl,fun _=>rfl,Nat.le_of_ble_eq_true rfl⟩
 | reckon w a b c=>exact ⟨⟨g.1,ykR g.2.1,ykR g.2.2.1,ykR g.2.2.2⟩,by simp [okR,g.1,g.2.1,g.2.2.1,g.2.2.2],trivial,rfl,fun _=>rfl,Nat.le_of_ble_eq_true rfl⟩
 | take a b=>exact ⟨⟨ykR g.1,ykR g.2⟩,by simp [okR,g.1,g.2],trivial,rfl,fun _=>rfl,Nat.le_of_ble_eq_true rfl⟩
 | put a b=>exact ⟨⟨ykR g.1,ykR g.2⟩,by simp [okR,g.1,g.2],trivial,rfl,fun _=>rfl,Nat.le_of_ble_eq_true rfl⟩
 | _=>exact g.elim
def PL (A:List Rw):Prop:=(∀ r∈A,gP r)/\A.length<=4
section
variable {A B:List Rw}(g:PL A)
include g
theorem PL.sh {f:Int}:A.map (shR f)=A:=by rw [List.map_congr_left (g:=id) fun r b=>(yfa (g.1 r b)).2.2.2.2.1 f,List.map_id]
theorem PL.sk:A.map skR=replicate A.length (.let_ "a" 0):=by refine List.eq_replicate_iff.mpr ⟨length_map ..,fun r c=>?_⟩;obtain ⟨q,b,rfl⟩:=List.mem_map.mp c;exact (yfa (g.1 q b)).2.2.2.1
theorem PL.pc {d:Nat}{ar:Int}(ha:ar<=8):AllOk (d+1) ar (A.map pl):=fun p hp=>by obtain ⟨r,hr,rfl⟩:=List.mem_map.mp hp;exact ypY (yfa (g.1 r hr)).1 ha
omit g
theorem yjI:∀ {A:List Rw}{f:Int},cat (A.map pl) f=A
 | [],_=>rfl
 | r::A,f=>by show r::cat _ _=_;rw [yjI]
theorem ymo:lgs (A.map pl)=A.length:=by
 induction A with
 | nil=>rfl
 | cons r A ih=>show (1:Nat)+lgs _=_;grind
theorem ykS:∀ {a b:List Pc}{f:Int},cat (a++b) f=cat a f++cat b (f+(cat a f).length)
 | [],b,f=>by simp [cat]
 | p::a,b,f=>by show p.2 f++cat (a++b) _=p.2 f++cat a _++_;rw [ykS,append_assoc,show cat _ f=p.2 f++cat a _ from rfl,length_append,Int.natCast_add,Int.add_assoc]
theorem ypZ {p:Pc}{f:Int}:cat [p] f=p.2 f:=append_nil _
end
inductive Pce where
 | two (A B:List Rw)|iff (A B:List Rw)|eit (A B:List Rw)|try_ (nm:Str) (A B:List Rw)|tk (x:Int)|one (r:Rw)
noncomputable def Pce.pc:Pce->List Pc
 | .two A B=>(A++B).map pl
 | .iff A B=>[ifP "b" (A.map pl) (B.map pl)]
 | .eit A B=>[eiP (A.map pl++[ifP "c" [] [pl .wait]]) (B.map pl)]
 | .try_ nm A B=>[trP "low" "d" (A.map pl++[ifP "b" [pl (.throw nm "c")] (B.map pl)]) (B.map pl)]
 | .tk x=>[pl (.let_ "a" x),pl (.take "b" "a"),ifP "b" [] [pl .wait]]
 | .one r=>[pl r]
noncomputable def Pce.sg:Pce->List Rw
 | .two A B=>A++B
 | .iff A B=>.unl "b" (2+A.length)::(A++.jump (2+A.length+B.length)::B)
 | .eit A B=>.either (6+A.length)::(A++([.unl "c" (3+A.length),.jump (4+A.length),.wait,.settle,.jump (6+A.length+B.length)]++B))
 | .try_ nm A B=>.guard "low" "d" (6+A.length+B.length)::(A++([.unl "b" (4+A.length),.throw nm "c",.jump (4+A.length+B.length)]++(B++([.settle,.jump (6+A.length+B.length+B.length)]++B))))
 | .tk x=>[.let_ "a" x,.take "b" "a",.unl "b" 4,.jump 5,.wait]
 | .one r=>[r]
noncomputable def nmP (nm:Str):Prop:=nm = "low"\/nm = "high"
noncomputable def onR (r:Rw):Prop:=r=.wait\/r=.throw "low" "c"\/r=.throw "high" "b"
noncomputable def Pce.Ok:Pce->Prop
 | .two A B=>PL A/\PL B/\A≠[]
 | .iff A B=>PL A/\PL B/\A≠[]/\B≠[]
 | .eit A B=>PL A/\PL B/\A≠[]/\B≠[]
 | .try_ nm A B=>nmP nm/\PL A/\PL B/\A≠[]/\B≠[]
 | .tk x=>0<=x/\x<B64
 | .one r=>onR r
theorem ywb {nm:Str}(h:nmP nm):yis nm/\fr nm:=by rcases h with rfl|rfl<;>exact ⟨fun _=>by kernel_rfl!,yiS _ (by rfl')⟩
theorem yCy {r:Rw}(h:onR r):gdR r/\okR r=true/\ytG r:=by
 rcases h with rfl|rfl|rfl
 .exact ⟨trivial,rfl,trivial⟩
 .exact ⟨⟨ywb (.inl rfl),slC⟩,by rfl',trivial⟩
 .exact ⟨⟨ywb (.inr rfl),yDh⟩,by rfl',trivial⟩
theorem yzG {p:Pc}:lgs [p]=(p.2 0).length:=by simp [lgs]
theorem yCz:lgs []=0:=rfl
theorem yCA {p:Pce}(g:p.Ok) {f:Nat}:cat p.pc f=p.sg.map (shR f):=by
 cases p with
 | two A B =>
  show cat ((A++B).map pl) f=(A++B).map (shR f);rw [yjI,map_append,g.1.sh,g.2.1.sh]
 | iff A B =>
  show cat [ifP "b" (A.map pl) (B.map pl)] f=(_::(A++_::B)).map (shR f);rw [ypZ,map_cons,map_append,map_cons,g.1.sh,g.2.1.sh];simp only [ifP,yjI,ymo,shR,Int.add_assoc]
 | eit A B =>
  show cat [eiP _ (B.map pl)] f=(_::(A++(_++B))).map (shR f);rw [ypZ,map_cons,map_append,map_append,g.1.sh,g.2.1.sh];simp only [eiP,ykS,ypZ,ifP,yjI,yvX,ymo,yzG,yCz,shR];simp [cat,pl,shR];omega
 | try_ nm A B =>
  show cat [trP "low" "d" _ (B.map pl)] f=(_::(A++(_++(B++(_++B))))).map (shR f);rw [ypZ,map_cons,map_append,map_append,map_append,map_append,g.2.1.sh,g.2.2.1.sh];simp only [trP,ykS,ypZ,ifP,yjI,yvX,ymo,yzG,yCz,shR];simp [pl,shR];omega
 | tk x =>
  simp [Pce.pc,Pce.sg,cat,pl,ifP,lgs,shR];omega
 | one r =>
  rcases g with rfl|rfl|rfl<;>rfl
noncomputable def skS (w a b:Nat) (nm:Str):List Rw :=
 let A:=replicate a (Rw.let_ "a" 0)
 let B:=replicate b (Rw.let_ "a" 0)
 match w with
 | 0=>A++B
 | 1=>.unl "b" (2+a)::(A++.jump (2+a+b)::B)
 | 2=>.either (6+a)::(A++([.unl "c" (3+a),.jump (4+a),.wait,.settle,.jump (6+a+b)]++B))
 | _=>.guard "low" "d" (6+a+b)::(A++([.unl "b" (4+a),.throw nm "c",.jump (4+a+b)]++(B++([.settle,.jump (6+a+b+b)]++B))))
theorem ywc:∀ w,w<4->∀ a,a<5->∀ b,b<5->0<a->ywa (skS w a b "low")=true:=by rfl'
theorem yEY:∀ a,a<5->∀ b,b<5->0<a->ywa (skS 3 a b "high")=true:=by rfl'
theorem ymp {A:List Rw}(n:A≠[]):0<A.length:=List.length_pos_iff.mpr n
theorem yhh {A B:List Rw}(a:PL A) (b:PL B) {r:Rw}(h:r∈A\/r∈B):okR r=true/\ytG r:=by
 rcases h with h|h
 .exact ⟨(yfa (a.1 r h)).2.1,(yfa (a.1 r h)).2.2.1⟩
 .exact ⟨(yfa (b.1 r h)).2.1,(yfa (b.1 r h)).2.2.1⟩
theorem yCB {p:Pce}(g:p.Ok):∀ r∈p.sg,okR r=true/\ytG r:=by
 have J:∀ {k:Int},0<=k->okR (.jump k)=true/\ytG (.jump k):=fun h=>⟨decide_eq_true h,trivial⟩
 have U:∀ {s:Str}{k:Int},s∈SL->0<=k->okR (.unl s k)=true/\ytG (.unl s k):=fun h k=>⟨by simp [okR,h,k],trivial⟩
 cases p with
 | two A B=>exact fun r h=>yhh g.1 g.2.1 (List.mem_append.mp h)
 | iff A B =>
  intro r h;simp only [Pce.sg,mem_cons,List.mem_append] at h;rcases h with rfl|h|rfl|h
  .exact U (by simp [SL]) (by omega)
  .exact yhh g.1 g.2.1 (.inl h)
  .exact J (by omega)
  .exact yhh g.1 g.2.1 (.inr h)
 | eit A B =>
  intro r h;simp only [Pce.sg,mem_cons,List.mem_append,not_mem_nil,or_false] at h;rcases h with rfl|h|(rfl|rfl|rfl|rfl|rfl)|h
  .exact ⟨by simp [okR];omega,trivial⟩
  .exact yhh g.1 g.2.1 (.inl h)
  .exact U (by simp [SL]) (by omega)
  .exact J (by omega)
  .exact ⟨rfl,trivial⟩
  .exact ⟨rfl,trivial⟩
  .exact J (by omega)
  .exact yhh g.1 g.2.1 (.inr h)
 | try_ nm A B =>
  intro r h;simp only [Pce.sg,mem_cons,List.mem_append,not_mem_nil,or_false] at h;rcases h with rfl|h|(rfl|rfl|rfl)|h|(rfl|rfl)|h
  .exact ⟨by simp [okR,SL];omega,trivial⟩
  .exact yhh g.2.1 g.2.2.1 (.inl h)
  .exact U (by simp [SL]) (by omega)
  .exact ⟨by simp [okR,SL],trivial⟩
  .exact J (by omega)
  .exact yhh g.2.1 g.2.2.1 (.inr h)
  .exact ⟨rfl,trivial⟩
  .exact J (by omega)
  .exact yhh g.2.1 g.2.2.1 (.inr h)
 | tk x =>
  intro r h;simp only [Pce.sg,mem_cons,not_mem_nil,or_false] at h;rcases h with rfl|rfl|rfl|rfl|rfl
  .exact ⟨by simp [okR,SL],g⟩
  .exact ⟨by rfl',trivial⟩
  .exact ⟨by rfl',trivial⟩
  .exact ⟨rfl,trivial⟩
  .exact ⟨rfl,trivial⟩
 | one r =>
  intro q h;rw [List.mem_singleton.mp h];exact (yCy g).2
theorem yCC {p:Pce}(g:p.Ok):chk p.sg=true:=by
 refine yCx ?_ fun r h=>(yCB g r h).1
 cases p with
 | two A B =>
  have:=ywc 0 (by decide) A.length (by have:=g.1.2;omega) B.length (by have:=g.2.1.2;omega) (ymp g.2.2);show ywa ((A++B).map skR)=true;rw [map_append,g.1.sk,g.2.1.sk];exact this
 | iff A B =>
  have:=ywc 1 (by decide) A.length (by have:=g.1.2;omega) B.length (by have:=g.2.1.2;omega) (ymp g.2.2.1);show ywa ((_::(A++_::B)).map skR)=true;rw [map_cons,map_append,map_cons,g.1.sk,g.2.1.sk];exact this
 | eit A B =>
  have:=ywc 2 (by decide) A.length (by have:=g.1.2;omega) B.length (by have:=g.2.1.2;omega) (ymp g.2.2.1);show ywa ((_::(A++(_++B))).map skR)=true;rw [map_cons,map_append,map_append,g.1.sk,g.2.1.sk];exact this
 | try_ nm A B =>
  have:ywa (skS 3 A.length B.length nm)=true:=by
   have ha:A.length<5:=by have:=g.2.1.2;omega
   have hb:B.length<5:=by have:=g.2.2.1.2;omega
   rcases g.1 with rfl|rfl
   .exact ywc 3 (by decide) _ ha _ hb (ymp g.2.2.2.1)
   .exact yEY _ ha _ hb (ymp g.2.2.2.1)
  show ywa ((_::(A++(_++(B++(_++B))))).map skR)=true;rw [map_cons,map_append,map_append,map_append,map_append,g.2.1.sk,g.2.2.1.sk];exact this
 | tk x=>kernel_rfl!
 | one r=>rcases g with rfl|rfl|rfl<;>rfl'
def plT (A:List Rw):Str:=Str.join " ; " (A.map fun r=>Str.join " " (wR r))
theorem yiz:∀ {A:List Rw},PL A->(wl (qs (A.map pl))).length<=5*A.length
 | [],_=>Nat.le_refl _
 | r::A,g=>by
  have:∀ A:List Rw,(∀ r∈A,gP r)->(wr (qs (A.map pl))).length<=5*A.length:=fun A=>by
   induction A with
   | nil=>exact fun _=>Nat.le_refl _
   | cons r A ih =>
    intro g;have:=ih fun q h=>g q (mem_cons_of_mem _ h)
    have:=(yfa (g r mem_cons_self)).2.2.2.2.2;show (wR r++wr (qs _)).length+1<=5*(A.length+1);grind
  have:=this A fun q h=>g.1 q (mem_cons_of_mem _ h)
  have:=(yfa (g.1 r mem_cons_self)).2.2.2.2.2;show (wR r++wr (qs _)).length<=5*(A.length+1);grind
theorem yhi {l:List Q}:(sd l).length=(wl l).length+2:=by unfold sd;rw [length_cons,length_append];rfl
theorem yDi:∀ {a b:List Q},a≠[]->wl (a++b)=wl a++wr b
 | q::a,b,_=>by
  have:∀ a,wr (a++b)=wr a++wr b:=fun a=>by
   induction a with
   | nil=>rfl
   | cons q a ih=>show _::(q.2++wr (a++b))=_::(q.2++wr a)++_;rw [ih];simp
  show q.2++wr _=q.2++wr a++wr b;simp_all
theorem yDj {a b:List Pc}:qs (a++b)=qs a++qs b:=map_append
theorem ywd {A:List Rw}(h:A≠[]):qs (A.map pl)≠[]:=fun e=>h (by cases A with|nil=>rfl|cons r A=>cases e)
theorem yqa {A:List Rw}(g:PL A) (h:A≠[]):wl (qs (A.map pl))≠[]:=by
 cases A with
 | nil=>exact absurd rfl h
 | cons r A =>
  intro e;have:=(List.append_eq_nil_iff.mp e).1;cases r<;>cases this
theorem yiA {A:List Rw}(g:PL A) (h:A≠[]):Str.join " " (wl (qs (A.map pl)))=plT A:=by
 cases A with
 | nil=>exact absurd rfl h
 | cons r A =>
  have q:∀ q∈qs (A.map pl),frs q.2/\q.2.length<=4/\q.2≠[]:=fun q d=>by obtain ⟨p,hp,rfl⟩:=List.mem_map.mp d;obtain ⟨b,c,rfl⟩:=List.mem_map.mp hp;have G:=yfa (g.1 b (mem_cons_of_mem _ c));exact ⟨(yEU (n:=0) (ar:=0) G.1 (by decide)).2,G.2.2.2.2.2,by show wR b≠[];cases b<;>exact fun z=>by cases z⟩
  have:=(yzA _ q).2.2 (qR r) (by show wR r≠[];cases r<;>exact fun z=>by cases z);refine this.symm.trans ?_;unfold plT qs;rw [map_cons,map_map,map_map];rfl
theorem yCD {p:Pce}(g:p.Ok):AllOk 9 0 p.pc:=by
 have W:∀ {d:Nat}{ar:Int},ar<=8->ytF (d+1) ar (pl .wait):=fun h=>ypY trivial h
 have e:∀ {s:Str}{d:Nat}{ar:Int},ar<=7->d<=20->s∈SL->ytF (d+5) ar _:=fun {s d ar} o m hs=>yzD (d:=d+1) (by omega) ⟨by decide,by decide⟩ ⟨by decide,by decide⟩ .n (.c (W (by omega)) .n) (by omega) (ykR hs)
 have L:∀ {A:List Rw},PL A->(A.map pl).length<=80/\lgs (A.map pl)<=80:=fun h=>by rw [length_map,ymo];have:=h.2;grind
 have M:∀ {l:List Pc},l.length<=80/\lgs l<=80->l.length<=90/\lgs l<=90:=fun h=>⟨by omega,by omega⟩
 have N:∀ {l:List Pc}{p:Pc},l.length<=80/\lgs l<=80->lgs [p]<=10->(l++[p]).length<=90/\lgs (l++[p])<=90:=fun {l p} h k=>by rw [length_append,yvX];exact ⟨by show _+1<=90;omega,by omega⟩
 cases p with
 | two A B =>
  show AllOk 9 0 ((A++B).map pl);rw [map_append];exact .a (g.1.pc (by decide)) (g.2.1.pc (by decide))
 | iff A B=>exact .c (yzD (d:=5) (by decide) (M (L g.1)) (M (L g.2.1)) (g.1.pc (by decide)) (g.2.1.pc (by decide)) (by decide) yDh) .n
 | eit A B=>exact .c (yEV (d:=5) (by decide) (N (L g.1) (by decide)) (M (L g.2.1)) (.a (g.1.pc (by decide)) (.c (e (d:=0) (by decide) (by decide) (by simp [SL])) .n)) (g.2.1.pc (by decide)) (by decide)) .n
 | try_ nm A B =>
  obtain ⟨j,i,f,_⟩:=g;have T:ytF 5 1 _:=yzD (d:=1) (by decide) ⟨Nat.le_of_ble_eq_true rfl,by show ((1:Nat):Int)<=90;decide⟩ (M (L f)) (.c (ypY (r:=.throw nm "c") (d:=0) ⟨ywb j,slC⟩ (by decide)) .n) (f.pc (by decide)) (by decide) yDh;refine .c (yEW (d:=5) (by decide) (N (L i) ?_) (M (L f)) (.a (i.pc (by decide)) (.c T .n)) (f.pc (by decide)) (by decide) (ywb (.inl rfl)) slD) .n;rw [yzG];have:=f.2;simp only [ifP,yjI,ymo,ypZ];simp [pl];omega
 | tk x=>exact .c (ypY ⟨slA,g⟩ (by decide)) (.c (ypY ⟨yDh,slA⟩ (by decide)) (.c (e (d:=4) (by decide) (by decide) (by simp [SL])) .n))
 | one r=>exact .c (ypY (yCy g).1 (by decide)) .n
theorem yzH {p:Pce}(g:p.Ok):(∀ q∈p.pc,q.1.2.length<=99)/\p.pc.length<=8/\p.pc≠[]/\lgs p.pc<=18:=by
 have e:=yfO (f:=((0:Nat):Int)) (yCD g);rw [yCA g,length_map] at e;rw [<- e];clear e;cases p with
 | two A B =>
  obtain ⟨g1,g2,g3⟩:=g;have l1:=g1.2;have l2:=g2.2;refine ⟨fun q hq=>?_,?_,?_,?_⟩
  .obtain ⟨r,hr,rfl⟩:=List.mem_map.mp hq;have:=(yfa ((List.mem_append.mp hr).elim (g1.1 r) (g2.1 r))).2.2.2.2.2;show (wR r).length<=99;omega
  .show ((A++B).map pl).length<=8;rw [length_map,length_append];omega
  .cases A with
   | nil=>exact absurd rfl g3
   | cons r A=>exact fun z=>by cases z
  .show ((A++B).length:Int)<=18;rw [length_append];omega
 | iff A B =>
  obtain ⟨g1,g2,_⟩:=g;have l1:=g1.2;have l2:=g2.2;refine ⟨fun q hq=>?_,Nat.le_of_ble_eq_true rfl,(fun z=>by cases z),?_⟩
  .rw [List.mem_singleton.mp hq];have:=yiz g1;have:=yiz g2;show (sd _++_::sd _).length+1+1<=99;rw [length_append,length_cons,yhi,yhi];omega
  .simp [Pce.sg];omega
 | eit A B =>
  obtain ⟨g1,g2,g3,_⟩:=g;have l1:=g1.2;have l2:=g2.2;refine ⟨fun q hq=>?_,Nat.le_of_ble_eq_true rfl,(fun z=>by cases z),?_⟩
  .rw [List.mem_singleton.mp hq];have:=yiz g1;have:=yiz g2;show (sd (qs (A.map pl++_))++_::sd _).length+1<=99;rw [length_append,length_cons,yhi,yhi,yDj,yDi (ywd g3),length_append];show _+9+2+(_+2+1)+1<=99;omega
  .simp [Pce.sg];omega
 | try_ nm A B =>
  obtain ⟨gn,g1,g2,g3,_⟩:=g;have l1:=g1.2;have l2:=g2.2;refine ⟨fun q hq=>?_,Nat.le_of_ble_eq_true rfl,(fun z=>by cases z),?_⟩
  .rw [List.mem_singleton.mp hq];have:=yiz g1;have:=yiz g2;show (sd (qs (A.map pl++[ifP "b" [pl (.throw nm "c")] (B.map pl)]))++_::_::_::sd _).length+1<=99;rw [length_append,length_cons,length_cons,length_cons,yhi,yhi,yDj,yDi (ywd g3),length_append];have:(wr (qs [ifP "b" [pl (.throw nm "c")] (B.map pl)])).length<=11+(wl (qs (B.map pl))).length:=by show ((("if":Str)::"b"::(sd [qR (.throw nm "c")]++("else":Str)::sd (qs (B.map pl))))++[]).length+1<=_;rw [append_nil,length_cons,length_cons,length_append,length_cons,yhi,yhi];show 3+2+_+1+1+1<=_;omega
   omega
  .simp [Pce.sg];omega
 | tk x =>
  refine ⟨fun q hq=>?_,Nat.le_of_ble_eq_true rfl,(fun z=>by cases z),by show ((5:Nat):Int)<=18;decide⟩;simp only [Pce.pc,mem_cons,not_mem_nil,or_false] at hq;rcases hq with rfl|rfl|rfl<;>exact Nat.le_of_ble_eq_true rfl
 | one r =>
  refine ⟨fun q hq=>?_,Nat.le_of_ble_eq_true rfl,(fun z=>by cases z),by show ((1:Nat):Int)<=18;decide⟩;rw [List.mem_singleton.mp hq];rcases g with rfl|rfl|rfl<;>exact Nat.le_of_ble_eq_true rfl
theorem yiB {a b:Str}(e:a.cps.toList=b.cps.toList):a=b:=by cases a;simp_all
theorem yjb (a b:Str):(a++b).cps.toList=a.cps.toList++b.cps.toList:=Array.toList_append
theorem yhj (s a b:Str) (r:List Str):Str.join s (a::b::r)=a++s++Str.join s (b::r):=rfl
theorem join_1 (s a:Str):Str.join s [a]=a:=rfl
noncomputable def Pce.tx:Pce->Str
 | .two A B=>plT (A++B)
 | .iff A B=>"if b ( "++plT A++" ) else ( "++plT B++" )"
 | .eit A B=>"either ( "++plT A++" ; if c ( ) else ( wait ) ) or ( "++plT B++" )"
 | .try_ nm A B=>"try ( "++plT A++" ; "++("if b ( throw "++nm++" c ) else ( "++plT B++" )")++" ) on low d ( "++plT B++" )"
 | .tk x=>"let a "++tI x++" ; take b a ; if b ( ) else ( wait )"
 | .one r=>Str.join " " (wR r)
theorem yeb {a b:List Str}(e:a≠[]) (d:b≠[]):Str.join " " (a++b)=Str.join " " a++" "++Str.join " " b:=yfn e d
theorem yCE {p:Pce}(g:p.Ok):p.tx=Str.join " ; " (p.pc.map fun p=>Str.join " " p.1.2):=by
 cases p with
 | two A B =>
  show plT (A++B)=Str.join " ; " (((A++B).map pl).map fun p=>Str.join " " p.1.2);rw [map_map];rfl
 | iff A B =>
  obtain ⟨f,d,c,e⟩:=g;have j:=yiA f c;have l:=yiA d e;have k:=yqa f c;have i:=yqa d e;show _=Str.join " " (("if":Str)::"b"::(("(":Str)::(wl (qs (A.map pl))++[(")":Str)])++("else":Str)::("(":Str)::(wl (qs (B.map pl))++[(")":Str)])));generalize wl (qs (A.map pl))=h at *;generalize wl (qs (B.map pl))=b at *;rw [show ("if":Str)::"b"::(("(":Str)::(h++[(")":Str)])++("else":Str)::("(":Str)::(b++[(")":Str)]))=(["if","b","("]:List Str)++(h++((([")","else","("]:List Str))++(b++[(")":Str)]))) by simp];rw [yeb (by simp) (by simp),yeb k (by simp),yeb (by simp) (by simp),yeb i (by simp),j,l];unfold Pce.tx;refine yiB ?_;simp only [yjb,append_assoc];kernel_rfl!
 | eit A B =>
  obtain ⟨f,d,c,e⟩:=g;have j:=yiA f c;have l:=yiA d e;have k:=yqa f c;have i:=yqa d e;show _=Str.join " " (("either":Str)::(("(":Str)::(wl (qs (A.map pl++[ifP "c" [] [pl .wait]]))++[(")":Str)])++("or":Str)::("(":Str)::(wl (qs (B.map pl))++[(")":Str)])));rw [yDj,yDi (ywd c)];generalize wl (qs (A.map pl))=h at *;generalize wl (qs (B.map pl))=b at *;rw [show ("either":Str)::(("(":Str)::(h++wr (qs [ifP "c" [] [pl .wait]])++[(")":Str)])++("or":Str)::("(":Str)::(b++[(")":Str)]))=(["either","("]:List Str)++(h++(([";","if","c","(",")","else","(","wait",")",")","or","("]:List Str)++(b++[(")":Str)]))) by simp [qs,wr,ifP,iQ,sd,wl,pl,wR]];rw [yeb (by simp) (by simp),yeb k (by simp),yeb (by simp) (by simp),yeb i (by simp),j,l];unfold Pce.tx;refine yiB ?_;simp only [yjb,append_assoc];kernel_rfl!
 | try_ nm A B =>
  obtain ⟨m,f,d,c,e⟩:=g;have j:=yiA f c;have l:=yiA d e;have k:=yqa f c;have i:=yqa d e;show _=Str.join " " (("try":Str)::(("(":Str)::(wl (qs (A.map pl++[ifP "b" [pl (.throw nm "c")] (B.map pl)]))++[(")":Str)])++("on":Str)::"low"::"d"::("(":Str)::(wl (qs (B.map pl))++[(")":Str)])));rw [yDj,yDi (ywd c)];rw [show wr (qs [ifP "b" [pl (.throw nm "c")] (B.map pl)])=([";","if","b","(","throw",nm,"c",")","else","("]:List Str)++(wl (qs (B.map pl))++[(")":Str)]) by simp [qs,wr,ifP,iQ,sd,wl,pl,wR]];generalize wl (qs (A.map pl))=h at *;generalize wl (qs (B.map pl))=b at *;rw [show ("try":Str)::(("(":Str)::(h++(([";","if","b","(","throw",nm,"c",")","else","("]:List Str)++(b++[(")":Str)]))++[(")":Str)])++("on":Str)::"low"::"d"::("(":Str)::(b++[(")":Str)]))=(["try","("]:List Str)++(h++(([";","if","b","(","throw",nm,"c",")","else","("]:List Str)++(b++(([")",")","on","low","d","("]:List Str)++(b++[(")":Str)]))))) by simp];rw [yeb (by simp) (by simp),yeb k (by simp),yeb (by simp) (by simp),yeb i (by simp),yeb (by simp) (by simp),yeb i (by simp),j,l];unfold Pce.tx;refine yiB ?_;simp only [yjb,append_assoc,yhj,join_1];kernel_rfl!
 | tk x =>
  refine yiB ?_;simp only [Pce.tx,Pce.pc,pl,ifP,qs,wR,iQ,sd,map_cons,map_nil,wl,wr,List.cons_append,List.nil_append,append_nil,yhj,join_1,yjb,append_assoc];kernel_rfl!
 | one r=>rfl
def dTx (ps:List Pce):Str:=Str.join " ; " (ps.map Pce.tx)
def dRw (ps:List Pce):List Rw:=DR (ps.map Pce.sg) 0
structure yzI (ps:List Pce):Prop where
 ok:∀ p∈ps,p.Ok
 ne:ps≠[]
 le:ps.length<=3
theorem yCF:∀ {ps:List Pce}{f:Nat},(∀ p∈ps,p.Ok)->cat (ps.flatMap Pce.pc) f++[Rw.lay]=DR (ps.map Pce.sg) f
 | [],_,_=>rfl
 | p::ps,f,H=>by have P:=H p mem_cons_self;rw [List.flatMap_cons,ykS,yCA P,append_assoc,length_map];show _++(cat _ (f+p.sg.length:Nat)++_)=p.sg.map _++DR _ _;rw [yCF fun p h=>H p (mem_cons_of_mem _ h)]
theorem ytb {s:Str}:∀ (ls:List _) a,a≠[]->(∀ l∈ls,l≠[])->Str.join s (Str.join s a::ls.map (Str.join s))=Str.join s (a++ls.flatten)
 | [],a,_,_=>by rw [List.flatten_nil,append_nil];rfl
 | l::ls,a,c,H=>by have hl:=H l mem_cons_self;show Str.join s a++s++Str.join s (Str.join s l::ls.map _)=_;rw [ytb ls l hl fun l h=>H l (mem_cons_of_mem _ h),List.flatten_cons,yfn c fun z=>hl (List.append_eq_nil_iff.mp z).1]
theorem yCG {ps:List Pce}(H:∀ p∈ps,p.Ok):AllOk 9 0 (ps.flatMap Pce.pc)/\(∀ q∈ps.flatMap Pce.pc,q.1.2.length<=99)/\(ps.flatMap Pce.pc).length<=8*ps.length/\lgs (ps.flatMap Pce.pc)<=18*ps.length:=by
 induction ps with
 | nil=>exact ⟨.n,(fun _ h=>by cases h),Nat.le_refl _,Int.le_refl _⟩
 | cons p ps ih =>
  obtain ⟨e,d,f,g⟩:=ih fun p h=>H p (mem_cons_of_mem _ h)
  have P:=H p mem_cons_self;obtain ⟨s1,s2,_,s4⟩:=yzH P;refine ⟨.a (yCD P) e,fun q c=>?_,?_,?_⟩
  .exact (List.mem_append.mp c).elim (s1 q) (d q)
  .grind
  .rw [List.flatMap_cons,yvX,length_cons];omega
theorem yxk {ps:List Pce}(D:yzI ps):Rdb (dTx ps,dRw ps)/\(dTx ps).length<=69000:=by
 obtain ⟨H,c,hl⟩:=D;obtain ⟨i,h,k,j⟩:=yCG H;have e:dRw ps=cat _ 0++[Rw.lay]:=(yCF H).symm;have f:dTx ps=Str.join " ; " ((ps.flatMap Pce.pc).map fun p=>Str.join " " p.1.2):=by
  unfold dTx;rw [show ps.map Pce.tx=(ps.map _).map _ by rw [map_map];exact List.map_congr_left fun p hp=>yCE (H p hp)]
  cases ps with
  | nil=>exact absurd rfl c
  | cons p ps =>
   have d:∀ q∈p::ps,(q.pc.map fun p=>Str.join " " p.1.2)≠[]:=fun q b z=>(yzH (H q b)).2.2.1 (List.map_eq_nil_iff.mp z)
   refine (ytb _ _ (d p mem_cons_self) fun l hl=>?_).trans ?_
   .obtain ⟨q,b,rfl⟩:=List.mem_map.mp hl;exact d q (mem_cons_of_mem _ b)
   .rw [List.flatMap_cons,map_append,List.map_flatMap,List.flatMap_def]
 rw [e];generalize g:ps.flatMap Pce.pc=l at *;cases l with
 | nil =>
  cases ps with
  | nil=>exact absurd rfl c
  | cons p ps=>exact absurd (List.append_eq_nil_iff.mp g).1 (yzH (H p mem_cons_self)).2.2.1
 | cons p l=>exact yCu i (by decide) f h (by grind) (by omega)
theorem yzJ {ps:List Pce}(D:yzI ps):yxg (dRw ps) (Pos (ps.map Pce.sg) 0):=yzE (fun S b=>by
 obtain ⟨p,hp,rfl⟩:=List.mem_map.mp b;exact yCC (D.ok p hp)) fun S b r c=>by
 obtain ⟨p,hp,rfl⟩:=List.mem_map.mp b;exact (yCB (D.ok p hp) r c).2
noncomputable def nb (c:Int):Int:=if c%3=1 then c/3%5 else if c%3=2 then 18446744073709551615-c/3%5 else c/3%18446744073709551616
theorem ynT c:0<=nb c/\nb c<B64:=by unfold nb B64;grind
section
variable {h:AH}
theorem yCH {c:Int}:ybv [.int c] h=some (.int (nb c),h):=by
 delta ybv;show ob (yl _ _ [.val (.int c),.no] h) fnK=_;symm;unfold nb;split
 .rfl
 .split<;>rfl
theorem yEZ {n:Int}(a:0<=n/\n<B64):n.natAbs.log2<1920:=by
 by_cases hz:n.natAbs=0
 .rw [hz];decide
 .rw [Nat.log2_lt hz];grind
theorem yzK {n:Int}(b:0<=n/\n<B64):yhV [.int n] h=some (.str (tI n),h):=by rw [ywJ,if_pos (yEZ b)]
theorem yzL {n:Int}(b:0<=n/\n<B64):(tI n).length<=20:=str_len b.1 (by decide) (Int.lt_trans b.2 ysk)
theorem yFa {a b:Str}(l:a.length+b.length<=100000):ybh (.str a) (.str b) h=some (.str (a++b),h):=by rw [ywI,if_pos l]
noncomputable def slN (i:Int):Str:=SL.getD i.toNat "a"
theorem ywe {i:Int}(h0:0<=i/\i<4):slN i∈SL/\(slN i).length=1/\∀ h,ytD (.str "abcd") (.int i) h=some (.str (slN i),h):=by
 obtain ⟨n,rfl⟩:∃ n:Nat,i=n:=⟨i.toNat,by omega⟩
 have:n=0\/n=1\/n=2\/n=3:=by omega
 rcases this with rfl|rfl|rfl|rfl<;>exact ⟨by rfl',by rfl',fun _=>by kernel_rfl!⟩
theorem yCI {i:Int}(h0:0<=i/\i<8):slN i∈SL/\(slN i).length=1/\∀ h,ytD (.str "abcdefgh") (.int i) h=some (.str (slN i),h):=by
 obtain ⟨n,rfl⟩:∃ n:Nat,i=n:=⟨i.toNat,by omega⟩
 have:n=0\/n=1\/n=2\/n=3\/n=4\/n=5\/n=6\/n=7:=by omega
 rcases this with rfl|rfl|rfl|rfl|rfl|rfl|rfl|rfl<;>exact ⟨by rfl',by rfl',fun _=>by kernel_rfl!⟩
noncomputable def wdN (i:Int):Str:=W5.getD i.toNat "plus"
theorem yCJ {i:Int}(h0:0<=i/\i<5):wdN i∈W5/\(wdN i).length<=5/\∀ h,ybR (.lst [.str "plus",.str "minus",.str "times",.str "less",.str "same"]) (.int i) h=some (.str (wdN i),h):=by
 obtain ⟨n,rfl⟩:∃ n:Nat,i=n:=⟨i.toNat,by omega⟩
 have:n=0\/n=1\/n=2\/n=3\/n=4:=by omega
 rcases this with rfl|rfl|rfl|rfl|rfl<;>exact ⟨by rfl',by rfl',fun _=>by kernel_rfl!⟩
noncomputable def plR (m N:Int):List Rw :=
 if m%8=0 then [.let_ (slN (m/8%4)) N]
 else if m%8=1 then [.reckon (wdN (m/1024%5)) (slN (m/8%4)) (slN (m/32%4)) (slN (m/128%8))]
 else if m%8=2 then [.take (slN (m/8%4)) (slN (m/128%8))]
 else if m%8=3 then [.put (slN (m/128%8)) (slN (m/8%4))]
 else if m%8<6 then [.let_ "a" (m/1024%3),.take "b" "a",.reckon "plus" "b" "b" "c",.put "a" "b"]
 else if m%8=6 then [.let_ "d" (m/1024%3),.take "c" "d"]
 else [.let_ "e" 1,.reckon "plus" "c" "c" "e"]
theorem ywf {m N:Int}(hN:0<=N/\N<B64):PL (plR m N)/\plR m N≠[]:=by
 have a:=(ywe (i:=m/8%4) (by omega)).1;have b:=(ywe (i:=m/32%4) (by omega)).1;have c:=(yCI (i:=m/128%8) (by omega)).1;have w:=(yCJ (i:=m/1024%5) (by omega)).1;have x:0<=m/1024%3/\m/1024%3<B64:=by unfold B64;omega
 have A:("a":Str)∈SL:=by simp [SL]
 have B:("b":Str)∈SL:=by simp [SL]
 have C:("c":Str)∈SL:=by simp [SL]
 have D:("d":Str)∈SL:=by simp [SL]
 have E:("e":Str)∈SL:=by simp [SL]
 have P:("plus":Str)∈W5:=by simp [W5]
 unfold plR
 repeat' split
 all_goals refine ⟨⟨?_,Nat.le_of_ble_eq_true rfl⟩,fun z=>by cases z⟩
 all_goals simp only [List.forall_mem_cons,not_mem_nil,false_implies,implies_true,and_true,gP]
 .exact ⟨a,hN⟩
 .exact ⟨w,a,b,c⟩
 .exact ⟨a,c⟩
 .exact ⟨c,a⟩
 .exact ⟨⟨A,x⟩,⟨B,A⟩,⟨P,B,B,C⟩,A,B⟩
 .exact ⟨⟨D,x⟩,C,D⟩
 .exact ⟨⟨E,by decide,by decide⟩,P,C,C,E⟩
theorem ynU {i:Nat}{j l:Int}{A B:XS}{ρ:PSt}(e:ρ[i]?=some (.val (.int j))) (n:¬ j=l):yl (ybr (yn (xOp oEq (ye i) (xC (.int l)))) A yM) B ρ h=B ρ h:=by
 have e1:ye i ρ h=some (.int j,h):=by unfold ye;rw [e]
 have n1:=eq_false n
 simpa [e1,n1,↓reduceIte]
theorem ywg {i:Nat}{j l:Int}{A B:XS}{ρ:PSt}(e:ρ[i]?=some (.val (.int j))) (n:¬ j<l):yl (ybr (yn (xOp oLt (ye i) (xC (.int l)))) A yM) B ρ h=B ρ h:=by
 have e1:ye i ρ h=some (.int j,h):=by unfold ye;rw [e]
 have n1:=eq_false n
 simpa [e1,n1,↓reduceIte]
theorem yiC {T:XT}{A B:XS}{ρ:PSt}{v:PV}(e:T ρ h=some (true,h)) (r:A ρ h=some (.rt v,h)):ob (yl (ybr T A yM) B ρ h) fnK=some (v,h):=by simpa [e,r]
theorem yzM {i:Nat}{j l:Int}{ρ:PSt}(e:ρ[i]?=some (.val (.int j))) (n:j=l):yn (xOp oEq (ye i) (xC (.int l))) ρ h=some (true,h):=by
 have e1:ye i ρ h=some (.int j,h):=by unfold ye;rw [e]
 subst n
 simpa [e1]
theorem yDk {i:Nat}{j l:Int}{ρ:PSt}(e:ρ[i]?=some (.val (.int j))) (n:j<l):yn (xOp oLt (ye i) (xC (.int l))) ρ h=some (true,h):=by
 have e1:ye i ρ h=some (.int j,h):=by unfold ye;rw [e]
 have n1:=eq_true n
 simpa [e1,n1]
theorem ad {e f:XE}{ρ:PSt}{a b:Str}(ea:e ρ h=some (.str a,h)) (eb:f ρ h=some (.str b,h)) (l:a.length+b.length<=9000):xOp ybh e f ρ h=some (.str (a++b),h):=by rw [yDa,ea,ycA,eb,ycA,yFa (by omega)]
theorem yiD {e:XE}{ρ:PSt}{s s':Str}(ea:e ρ h=some (.str s,h)) (q:s.cps.toList=s'.cps.toList):yN e ρ h=some (.rt (.str s'),h):=by rw [ypJ,ea,<- yiB q];rfl
theorem ypm {m N:Int}(hN:0<=N/\N<B64):ybZ [.int m,.int N] h=some (.str (plT (plR m N)),h):=by
 obtain ⟨_,la,ia⟩:=ywe (i:=m/8%4) (by omega);obtain ⟨_,lb,ib⟩:=ywe (i:=m/32%4) (by omega);obtain ⟨_,lc,ic⟩:=yCI (i:=m/128%8) (by omega);obtain ⟨_,lw,iw⟩:=yCJ (i:=m/1024%5) (by omega);have x:0<=m/1024%3/\m/1024%3<B64:=by unfold B64;omega
 have l1:(tI N).length<=20:=yzL hN;have l2:(tI (m/1024%3)).length<=20:=yzL x;unfold plR;generalize slN (m/8%4)=a at *;generalize slN (m/32%4)=b at *;generalize slN (m/128%8)=c at *;generalize wdN (m/1024%5)=w at *;have st:ybZ [.int m,.int N] h=ob (plC [.val (.int m),.val (.int N),.val (.lst [.str a,.str b,.str c]),.val (.int (m%8)),.no] h) fnK:=by
  delta ybZ;show ob (yl _ (yl _ plC) [.val (.int m),.val (.int N),.no,.no,.no] h) fnK=_
  simpa [ia,ib,ic,-yBr]
 have s1:xCB (yhV) (yc (ye 1) (yi)) [.val (.int m),.val (.int N),.val (.lst [.str a,.str b,.str c]),.val (.int (m%8)),.no] h=some (.str (tI N),h):=yzK hN;have s2:xCB (yhV) (yc (xOp oMod (xOp oDiv (ye 0) (xC (.int 1024))) (xC (.int 3))) (yi)) [.val (.int m),.val (.int N),.val (.lst [.str a,.str b,.str c]),.val (.int (m%8)),.no] h=some (.str (tI (m/1024%3)),h):=yzK x;have iw:=iw h;have kl:("let ":Str).length<=60/\(" ":Str).length<=60/\("take ":Str).length<=60/\("put ":Str).length<=60/\("let a ":Str).length<=60/\("let d ":Str).length<=60/\(" ; take b a ; plus b b c ; put a b":Str).length<=60/\(" ; take c d":Str).length<=60:=by rfl'
 rw [st];clear st ia ib ic;unfold plC
 by_cases e0:m%8=0
 .rw [if_pos e0];exact yiC (yzM rfl e0) (yiD (ad (ad (ad rfl rfl (by omega)) rfl (by rw [yA];omega)) s1 (by rw [yA,yA];omega)) (by simp only [plT,wR,map_cons,map_nil,yhj,join_1,yjb,append_assoc]<;>kernel_rfl!))
 rw [if_neg e0,ynU rfl e0]
 by_cases e1:m%8=1
 .rw [if_pos e1];refine yiC (yzM rfl e1) ?_;have a4:ybL (xOp (ybR) (xFz (yeg (yc (xC (.str "plus")) (yc (xC (.str "minus")) (yc (xC (.str "times")) (yc (xC (.str "less")) (yc (xC (.str "same")) (yi)))))))) (xOp oMod (xOp oDiv (ye 0) (xC (.int 1024))) (xC (.int 5)))) (yr 4) [.val (.int m),.val (.int N),.val (.lst [.str a,.str b,.str c]),.val (.int (m%8)),.no] h=some (.nx [.val (.int m),.val (.int N),.val (.lst [.str a,.str b,.str c]),.val (.int (m%8)),.val (.str w)],h):=by
   clear s1 s2
   simpa [iw,-ygH]
  rw [ykb,a4,ycA];exact yiD (ad (ad (ad (ad (ad (ad rfl rfl (by omega)) rfl (by rw [yA];omega)) rfl (by rw [yA,yA];omega)) rfl (by rw [yA,yA,yA];omega)) rfl (by rw [yA,yA,yA,yA];omega)) rfl (by rw [yA,yA,yA,yA,yA];omega)) (by simp only [plT,wR,map_cons,map_nil,yhj,join_1,yjb,append_assoc]<;>kernel_rfl!)
 rw [if_neg e1,ynU rfl e1]
 by_cases e2:m%8=2
 .rw [if_pos e2];exact yiC (yzM rfl e2) (yiD (ad (ad (ad rfl rfl (by omega)) rfl (by rw [yA];omega)) rfl (by rw [yA,yA];omega)) (by simp only [plT,wR,map_cons,map_nil,yhj,join_1,yjb,append_assoc]<;>kernel_rfl!))
 rw [if_neg e2,ynU rfl e2]
 by_cases e3:m%8=3
 .rw [if_pos e3];exact yiC (yzM rfl e3) (yiD (ad (ad (ad rfl rfl (by omega)) rfl (by rw [yA];omega)) rfl (by rw [yA,yA];omega)) (by simp only [plT,wR,map_cons,map_nil,yhj,join_1,yjb,append_assoc]<;>kernel_rfl!))
 rw [if_neg e3,ynU rfl e3]
 by_cases e4:m%8<6
 .rw [if_pos e4];exact yiC (yDk rfl e4) (yiD (ad (ad rfl s2 (by omega)) rfl (by rw [yA];omega)) (by simp only [plT,wR,map_cons,map_nil,yhj,join_1,yjb,append_assoc]<;>kernel_rfl!))
 rw [if_neg e4,ywg rfl e4]
 by_cases e5:m%8=6
 .rw [if_pos e5];exact yiC (yzM rfl e5) (yiD (ad (ad rfl s2 (by omega)) rfl (by rw [yA];omega)) (by simp only [plT,wR,map_cons,map_nil,yhj,join_1,yjb,append_assoc]<;>kernel_rfl!))
 rw [if_neg e5,ynU rfl e5];kernel_rfl!
end
theorem ytc {A:List Rw}(g:PL A) (n:A≠[]):(plT A).length<=500:=by
 have f:=fun w c=>((g.pc (d:=0) (ar:=0) (by decide)).lf (by rw [length_map];have:=g.2;omega) 0).f w (mem_cons_of_mem _ (mem_append_left _ c))
 have:=yhI " " (by rfl') _ f;rw [yiA g n] at this;have:=yiz g;have:=g.2;omega
noncomputable def fA (c:Int):Int:=c*48271%2147483647
noncomputable def fB (c:Int):Int:=(c/2+7)*69621%2147483629
def pA (c:Int):List Rw:=plR (fA c) (nb (c/12))
def pB (c:Int):List Rw:=plR (fB c) (nb (c/12))
noncomputable def pce (c:Int):Pce :=
 if c%12<5 then .two (pA c) (pB c)
 else if c%12=5 then .iff (pA c) (pB c)
 else if c%12<8 then .eit (pA c) (pB c)
 else if c%12=8 then .try_ "low" (pA c) (pB c)
 else if c%12=9 then .try_ "high" (pA c) (pB c)
 else if c%12=10 then .tk (fA c%3)
 else if fA c%4=0 then .one .wait
 else if fA c%4=1 then .one (.throw "low" "c")
 else if fA c%4=2 then .one (.throw "high" "b")
 else .two (pA c) []
theorem yCK (c:Int):(pce c).Ok:=by
 obtain ⟨a,e⟩:=ywf (m:=fA c) (ynT (c/12));obtain ⟨b,f⟩:=ywf (m:=fB c) (ynT (c/12));unfold pce
 repeat' split
 .exact ⟨a,b,e⟩
 .exact ⟨a,b,e,f⟩
 .exact ⟨a,b,e,f⟩
 .exact ⟨.inl rfl,a,b,e,f⟩
 .exact ⟨.inr rfl,a,b,e,f⟩
 .show 0<=fA c%3/\fA c%3<B64;unfold B64;omega
 .exact .inl rfl
 .exact .inr (.inl rfl)
 .exact .inr (.inr rfl)
 .exact ⟨a,⟨(fun _ h=>by cases h),by decide⟩,e⟩
section
variable {h:AH}
theorem yCL {j:Int}(hj:0<=j/\j<4) {A:List Rw}(h:AH):ybR (.lst [.str "wait",.str "throw low c",.str "throw high b",.str (plT A)]) (.int j) h=some (.str (if j=0 then Pce.one .wait else if j=1 then .one (.throw "low" "c") else if j=2 then .one (.throw "high" "b") else .two A []).tx,h):=by
 have:j=0\/j=1\/j=2\/j=3:=by omega
 rcases this with rfl|rfl|rfl|rfl
 .kernel_rfl!
 .kernel_rfl!
 .kernel_rfl!
 .show _=some (PV.str (plT (A++[])),h);rw [append_nil];kernel_rfl!
theorem ywh {c:Int}:ycL [.int c] h=some (.str (pce c).tx,h):=by
 obtain ⟨a,a'⟩:=ywf (m:=fA c) (ynT (c/12));obtain ⟨b,b'⟩:=ywf (m:=fB c) (ynT (c/12));have la:(plT (pA c)).length<=500:=ytc a a';have lb:(plT (pB c)).length<=500:=ytc b b';have ab:plT (pA c++pB c)=plT (pA c)++" ; "++plT (pB c):=by unfold plT;rw [map_append];exact yfn (fun z=>a' (List.map_eq_nil_iff.mp z)) (fun z=>b' (List.map_eq_nil_iff.mp z))
 have x:0<=fA c%3/\fA c%3<B64:=by unfold B64;omega
 have l2:(tI (fA c%3)).length<=20:=yzL x;have st:ycL [.int c] h=ob (pcC [.val (.int c),.val (.int (fA c)),.val (.int (fB c)),.val (.int (nb (c/12))),.val (.str (plT (pA c))),.val (.str (plT (pB c))),.val (.int (c%12)),.no,.no] h) fnK:=by
  have m1:PX.MulOk c 48271=True:=yru (by decide) (by decide);have m2:PX.MulOk (c/2+7) 69621=True:=yru (by decide) (by decide);have k1:c*48271%2147483647=fA c:=rfl;have k2:(c/2+7)*69621%2147483629=fB c:=rfl;have n1:∀ h,ybv [.int (c/12)] h=some (.int (nb (c/12)),h):=fun _=>yCH
  have q1:∀ h,ybZ [.int (fA c),.int (nb (c/12))] h=some (.str (plT (pA c)),h):=fun _=>ypm (ynT _)
  have q2:∀ h,ybZ [.int (fB c),.int (nb (c/12))] h=some (.str (plT (pB c)),h):=fun _=>ypm (ynT _)
  delta ycL;show ob (yl _ (yl _ (yl _ (yl _ (yl _ (yl _ pcC))))) [.val (.int c),.no,.no,.no,.no,.no,.no,.no,.no] h) fnK=_;clear a a' b b' ab x l2 la lb
  simpa [m1,m2,k1,k2,n1,q1,q2]
 have s2:xCB (yhV) (yc (xOp oMod (ye 1) (xC (.int 3))) (yi)) [.val (.int c),.val (.int (fA c)),.val (.int (fB c)),.val (.int (nb (c/12))),.val (.str (plT (pA c))),.val (.str (plT (pB c))),.val (.int (c%12)),.no,.no] h=some (.str (tI (fA c%3)),h):=yzK x;have kl:(" ; ":Str).length<=60/\("if b ( ":Str).length<=60/\(" ) else ( ":Str).length<=60/\(" )":Str).length<=60/\("either ( ":Str).length<=60/\(" ; if c ( ) else ( wait ) ) or ( ":Str).length<=60/\("if b ( throw ":Str).length<=60/\(" c ) else ( ":Str).length<=60/\("try ( ":Str).length<=60/\(" ) on low d ( ":Str).length<=60/\("low":Str).length<=60/\("high":Str).length<=60/\("let a ":Str).length<=60/\(" ; take b a ; if b ( ) else ( wait )":Str).length<=60:=by rfl'
 rw [st];clear st;unfold pce pcC
 by_cases e0:c%12<5
 .rw [if_pos e0];exact yiC (yDk rfl e0) (yiD (ad (ad rfl rfl (by omega)) rfl (by rw [yA];omega)) (congrArg (fun s:Str=>s.cps.toList) ab.symm))
 rw [if_neg e0,ywg rfl e0]
 by_cases e1:c%12=5
 .rw [if_pos e1];exact yiC (yzM rfl e1) (yiD (ad (ad (ad (ad rfl rfl (by omega)) rfl (by rw [yA];omega)) rfl (by rw [yA,yA];omega)) rfl (by rw [yA,yA,yA];omega)) rfl)
 rw [if_neg e1,ynU rfl e1]
 by_cases e2:c%12<8
 .rw [if_pos e2];exact yiC (yDk rfl e2) (yiD (ad (ad (ad (ad rfl rfl (by omega)) rfl (by rw [yA];omega)) rfl (by rw [yA,yA];omega)) rfl (by rw [yA,yA,yA];omega)) rfl)
 rw [if_neg e2,ywg rfl e2];have tr:∀ nm:Str,nm.length<=60->ybR (.lst [.str "low",.str "high"]) (.int (c%12%2)) h=some (.str nm,h)->c%12<10->∀ B:XS,ob (yl (ybr (yn (xOp (oLt) (ye 6) (xC (.int 10)))) (yl (ybL (xOp (ybR) (xFz (yeg (yc (xC (.str "low")) (yc (xC (.str "high")) (yi))))) (xOp oMod (ye 6) (xC (.int 2)))) (yr 7)) (yl (ybL (xOp ybh (xOp ybh (xOp ybh (xOp ybh (xC (.str "if b ( throw ")) (ye 7)) (xC (.str " c ) else ( "))) (ye 5)) (xC (.str " )"))) (yr 8)) (yN (xOp ybh (xOp ybh (xOp ybh (xOp ybh (xOp ybh (xOp ybh (xC (.str "try ( ")) (ye 4)) (xC (.str " ; "))) (ye 8)) (xC (.str " ) on low d ( "))) (ye 5)) (xC (.str " )")))))) (yM)) B [.val (.int c),.val (.int (fA c)),.val (.int (fB c)),.val (.int (nb (c/12))),.val (.str (plT (pA c))),.val (.str (plT (pB c))),.val (.int (c%12)),.no,.no] h) fnK=some (.str (Pce.try_ nm (pA c) (pB c)).tx,h):=fun nm ln ix e B=>by
  refine yiC (yDk rfl e) ?_;have a1:ybL (xOp (ybR) (xFz (yeg (yc (xC (.str "low")) (yc (xC (.str "high")) (yi))))) (xOp oMod (ye 6) (xC (.int 2)))) (yr 7) [.val (.int c),.val (.int (fA c)),.val (.int (fB c)),.val (.int (nb (c/12))),.val (.str (plT (pA c))),.val (.str (plT (pB c))),.val (.int (c%12)),.no,.no] h=some (.nx [.val (.int c),.val (.int (fA c)),.val (.int (fB c)),.val (.int (nb (c/12))),.val (.str (plT (pA c))),.val (.str (plT (pB c))),.val (.int (c%12)),.val (.str nm),.no],h):=by
   clear s2 ab
   simpa [ix,-ygH]
  have a2:=ad (e:=xOp ybh (xOp ybh (xOp ybh (xC (.str "if b ( throw ")) (ye 7)) (xC (.str " c ) else ( "))) (ye 5)) (f:=xC (.str " )")) (ρ:=[.val (.int c),.val (.int (fA c)),.val (.int (fB c)),.val (.int (nb (c/12))),.val (.str (plT (pA c))),.val (.str (plT (pB c))),.val (.int (c%12)),.val (.str nm),.no]) (h:=h) (ad (ad (ad rfl rfl (by omega)) rfl (by rw [yA];omega)) rfl (by rw [yA,yA];omega)) rfl (by rw [yA,yA,yA];omega);rw [ykb,a1,ycA,yBk,ykb,yrt,a2,ycA];exact yiD (ad (ad (ad (ad (ad (ad rfl rfl (by omega)) rfl (by rw [yA];omega)) rfl (by simp only [yA];omega)) rfl (by simp only [yA];omega)) rfl (by simp only [yA];omega)) rfl (by simp only [yA];omega)) rfl
 by_cases e3:c%12=8
 .rw [if_pos e3];exact tr "low" (by omega) (by rw [e3];rfl) (by omega) _
 rw [if_neg e3]
 by_cases e4:c%12=9
 .rw [if_pos e4];exact tr "high" (by omega) (by rw [e4];rfl) (by omega) _
 rw [if_neg e4,ywg rfl (by omega)]
 by_cases e5:c%12=10
 .rw [if_pos e5];exact yiC (yzM rfl e5) (yiD (ad (ad rfl s2 (by omega)) rfl (by rw [yA];omega)) rfl)
 rw [if_neg e5,ynU rfl e5];have ix:=yCL (ypd (fA c) (show (0:Int)<4 by decide)) (A:=pA c) h;clear tr s2 ab kl
 simpa [ix,-ygH]
end
section
variable {h:AH}
def dsV (ds:List (List Pce)):List PV:=ds.map fun ps=>.str (dTx ps)
noncomputable def psV (ps:List Pce):List PV:=ps.map fun p=>.str p.tx
structure LdI (ds:List (List Pce)) (ps:List Pce):Prop where
 d:∀ x∈ds,yzI x
 l:ds.length<=6
 p:∀ x∈ps,x.Ok
 q:ds.length<6->ps.length<=2
theorem ypn:∀ l,(l.map (·.length)).sum<=(Str.join " ; " l).length
 | []=>zero_le _
 | [x]=>by simp [Str.join]
 | x::y::r=>by have:=ypn (y::r);show _<=(x++" ; "++Str.join " ; " _).length;rw [yA,yA,map_cons,List.sum_cons];omega
theorem yzN {X:PV}{ds:List (List Pce)}{ps:List Pce}{c:Int}(I:LdI ds ps) (hp:ps.length<=1000):∃ ds' ps',ldQ [.val X,.own (.lst (dsV ds)),.own (.lst (psV ps)),.val (.int c)] h=some (.nx [.val X,.own (.lst (dsV ds')),.own (.lst (psV ps')),.val (.int c)],h)/\LdI ds' ps'/\ps'.length<=ps.length+1:=by
 have pe:=ywh (h:=h) (c:=c);have a1:yhm 2 (yT ycL (yc (ye 3) (yi))) [.val X,.own (.lst (dsV ds)),.own (.lst (psV ps)),.val (.int c)] h=some (.nx [.val X,.own (.lst (dsV ds)),.own (.lst (psV (ps++[pce c]))),.val (.int c)],h):=by
  rw [yoF (xs:=psV ps) rfl]
  simpa [pe]
  rw [if_pos (by unfold psV;rw [length_map];omega)];unfold psV;rw [map_append];rfl
 have l2:yhp 2 ([.val X,.own (.lst (dsV ds)),.own (.lst (psV (ps++[pce c]))),.val (.int c)]:PSt) h=some (.int ((ps.length+1:Nat):Int),h):=by have:yhp 2 ([.val X,.own (.lst (dsV ds)),.own (.lst (psV (ps++[pce c]))),.val (.int c)]:PSt) h=some (.int (psV (ps++[pce c])).length,h):=rfl;rw [this];unfold psV;rw [length_map,length_append];rfl
 have l1:yhp 1 ([.val X,.own (.lst (dsV ds)),.own (.lst (psV (ps++[pce c]))),.val (.int c)]:PSt) h=some (.int (ds.length:Nat),h):=by have:yhp 1 ([.val X,.own (.lst (dsV ds)),.own (.lst (psV (ps++[pce c]))),.val (.int c)]:PSt) h=some (.int (dsV ds).length,h):=rfl;rw [this];unfold dsV;rw [length_map]
 have np:∀ x∈ps++[pce c],x.Ok:=fun x hx=>(List.mem_append.mp hx).elim (I.p x) fun e=>by rw [List.mem_singleton.mp e];exact yCK c
 by_cases b:((ps.length+1:Nat):Int)>c/12%3/\((ds.length:Nat):Int)<6
 .have D:yzI (ps++[pce c]):=⟨np,by simp,by have:=I.q (by omega);rw [length_append];show _+1<=3;omega⟩
  refine ⟨ds++[ps++[pce c]],[],?_,⟨fun x hx=>(List.mem_append.mp hx).elim (I.d x) fun e=>by rw [List.mem_singleton.mp e];exact D,by rw [length_append];show _+1<=6;omega,(fun _ h=>by cases h),fun _=>zero_le _⟩,zero_le _⟩;have b1:(((ps.length+1:Nat):Int)>c/12%3)=True:=eq_true b.1;have b2:(((ds.length:Nat):Int)<6)=True:=eq_true b.2;have jn:∀ h,ynu (.str " ; ") [.lst (psV (ps++[pce c]))] h=some (.str (dTx (ps++[pce c])),h):=fun h=>yBV (ts:=(ps++[pce c]).map Pce.tx) (by unfold psV;rw [show ((ps++[pce c]).map fun p=>PV.str p.tx)=((ps++[pce c]).map Pce.tx).map PV.str by rw [map_map];rfl];exact yjq _) (by rfl') (Nat.le_trans (Nat.add_le_add (Nat.le_trans (ypn _) (yxk D).2) (by rw [length_map];exact D.le)) (by decide))
  have a2:yhm 1 (xBM isStr (ynu) (xC (.str " ; ")) (yc (ye 2) (yi))) [.val X,.own (.lst (dsV ds)),.val (.lst (psV (ps++[pce c]))),.val (.int c)] h=some (.nx [.val X,.own (.lst (dsV (ds++[ps++[pce c]]))),.val (.lst (psV (ps++[pce c]))),.val (.int c)],h):=by
   rw [yoF (xs:=dsV ds) rfl]
   simpa [jn]
   rw [if_pos (by unfold dsV;rw [length_map];omega)];unfold dsV;rw [map_append];rfl
  unfold ldQ;clear pe jn np D I
  simpa [a1,l1,l2,b1,b2,a2]
  rfl
 .refine ⟨ds,ps++[pce c],?_,⟨I.d,I.l,np,fun hd=>?_⟩,by rw [length_append];exact Nat.le_refl _⟩
  .unfold ldQ;clear pe np I
   by_cases b1:((ps.length+1:Nat):Int)>c/12%3
   .have b2:(((ds.length:Nat):Int)<6)=False:=eq_false fun z=>b ⟨b1,z⟩
    have b1:=eq_true b1;clear b
    simpa [a1,l1,l2,b1,b2]
   .have b1:=eq_false b1;clear b
    simpa [a1,l1,l2,b1]
  .rw [length_append];show ps.length+1<=2;omega
theorem ytd {X:PV}:∀ (cs:List Int) ds ps v,LdI ds ps->ps.length+cs.length<=900->∃ b d g,yeR (yr 3) ldQ (cs.map .int) [.val X,.own (.lst (dsV ds)),.own (.lst (psV ps)),v] h=some (.nx [.val X,.own (.lst (dsV b)),.own (.lst (psV d)),g],h)/\LdI b d
 | [],ds,ps,v,I,_=>⟨ds,ps,v,rfl,I⟩
 | c::cs,ds,ps,v,I,hl=>by rw [length_cons] at hl;obtain ⟨i,j,k,n,o⟩:=yzN I (by omega);obtain ⟨e,f,g,l,m⟩:=ytd cs i j _ n (by omega);refine ⟨e,f,g,?_,m⟩;show yeR _ _ (PV.int c::cs.map _) _ h=_;rw [yht rfl k,l]
theorem yte {cs:List Int}(hl:cs.length<=900):∃ ds,ycM [.lst (cs.map .int)] h=some (.lst (dsV ds),h)/\ds.length<=6/\∀ x∈ds,yzI x:=by
 obtain ⟨ds,ps,v,e,I⟩:=ytd cs [] [] .no ⟨(fun _ h=>by cases h),by decide,(fun _ h=>by cases h),fun _=>by decide⟩ (by grind);refine ⟨ds,?_,I.l,I.d⟩;have b:xIL (ye 0) [.val _,.own (.lst []),.own (.lst []),.no] h=some (cs.map .int,h):=ykz rfl;have e:yeR _ ldQ _ [.val (.lst (cs.map .int)),.own (.lst []),.own (.lst []),.no] h=_:=e;delta ycM;show ob (yl _ _ [.val _,.no,.no,.no] h) fnK=_
 simpa [b,e]
end
def inB (v:Int):Prop:=0<=v/\v<B64
def GV (l:List Int):Prop:=l.length=8/\∀ v∈l,inB v
def DOk (W:Nat) (d:List Key×List PV):Prop:=∃ m:List (Nat×Int×Int),d=(sK m,sA m)/\(m.map (·.1)).Nodup/\∀ p∈m,p.1<W/\inB p.2.1
theorem yFb {w:Str}{x y:Int}:inB (rk w x y):=by
 unfold rk inB;have:=ypd (x+y) (show 0<B64 by decide);have:=ypd (x-y) (show 0<B64 by decide);have:=ypd (x*y) (show 0<B64 by decide)
 repeat' split
 all_goals first|assumption|exact ⟨by decide,by decide⟩
theorem in0:inB 0:=⟨by decide,by decide⟩
theorem GV.at_ {l:List Int}(g:GV l) (k:Nat):inB (l.getD k 0):=by
 by_cases e:k<l.length
 .rw [getD_eq_getElem?_getD,List.getElem?_eq_getElem e];exact g.2 _ (getElem_mem e)
 .rw [getD_eq_getElem?_getD,getElem?_eq_none (by omega)];exact in0
theorem GV.set {l:List Int}(g:GV l) {k:Nat}{v:Int}(hv:inB v):GV (l.set k v):=⟨by rw [length_set];exact g.1,fun u hu=>(List.mem_or_eq_of_mem_set hu).elim (g.2 u) fun e=>e ▸ hv⟩
section
variable {W:Nat}{d e:List Key×List PV}{dd:List (List Key×List PV)}
theorem DOk.nil:DOk W ([],[]):=⟨[],rfl,List.nodup_nil,fun _ h=>by cases h⟩
theorem DOk.put (D:DOk W d) {k:Nat}{v:Int}(hk:k<W) (hv:inB v):DOk W (ycR d.1 d.2 (.inl (k:Int)) (.int v)):=by
 obtain ⟨m,rfl,nd,hb⟩:=D;refine ⟨yeL m k v 0,yzx (f:=fun p=>.int p.2.1) rfl,?_,fun p hp=>?_⟩
 .rw [ypj];split
  .exact nd
  .rename_i e;rw [List.nodup_append];exact ⟨nd,by simp,fun x hx y hy z=>by rw [List.mem_singleton.mp hy] at z;exact e (z ▸ hx)⟩
 .rcases ynQ hp with rfl|hp
  .exact ⟨hk,hv⟩
  .exact hb p hp
theorem DOk.mrg (D:DOk W d) (E:DOk W e):DOk W (yiR d.1 d.2 e.1 e.2):=by
 obtain ⟨m,rfl,_,a⟩:=D;have:∀ m e,(∀ p∈m,p.1<W/\inB p.2.1)->DOk W e->DOk W (yiR (sK m) (sA m) e.1 e.2):=by
  intro m
  induction m with
  | nil=>exact fun e _ E=>E
  | cons p m ih=>exact fun e a E=>ih _ (fun p h=>a p (mem_cons_of_mem _ h)) (E.put (a p mem_cons_self).1 (a p mem_cons_self).2)
 exact this m e a E
theorem DOk.len (D:DOk W d):d.1.length<=W:=by
 obtain ⟨m,rfl,c,a⟩:=D;have:=yjG W _ c fun k b=>by obtain ⟨p,hp,rfl⟩:=List.mem_map.mp b;exact (a p hp).1
 show (m.map _).length<=W;simp_all
theorem DOk.get (D:DOk W d) {j:Key}{x:PV}(e:ykf d.1 d.2 j=some x):∃ v,x=.int v/\inB v:=by
 obtain ⟨m,rfl,_,hb⟩:=D;have:∀ m:List (Nat×Int×Int),(∀ p∈m,p.1<W/\inB p.2.1)->ykf (sK m) (sA m) j=some x->∃ v,x=.int v/\inB v:=by
  intro m
  induction m with
  | nil=>exact fun _ e=>by cases e
  | cons p m ih =>
   intro hb e;have e:(if (Sum.inl (p.1:Int):Key)=j then some (PV.int p.2.1) else ykf (sK m) (sA m) j)=some x:=e;split at e
   .cases e;exact ⟨_,rfl,(hb p mem_cons_self).2⟩
   .exact ih (fun p h=>hb p (mem_cons_of_mem _ h)) e
 exact this m hb e
theorem yxl (H:∀ d∈dd,DOk W d) {j:Key}:∀ k,yxb dd j k=.non\/∃ v,yxb dd j k=.int v/\inB v
 | 0=>.inl rfl
 | k+1=>by
  unfold yxb;split
  .rename_i d b;split
   .rename_i x a;exact .inr ((H d (mem_of_getElem? b)).get a)
   .exact yxl H k
  .exact .inl rfl
theorem ytf:∀ m,yrG (sK m)=some (m.map fun p=>(p.1:Int))
 | []=>rfl
 | p::m=>by show (yrG (sK m)).map _=_;rw [ytf m];rfl
theorem ykT:∀ {l:List (Int×PV)}{p:Int×PV},p∈ykl l->p∈l
 | q::l,p,hp=>by
  have ins:∀ (l:List (Int×PV)),p∈ynD q l->p=q\/p∈l:=by
   intro l
   induction l with
   | nil=>exact fun h=>.inl (List.mem_singleton.mp h)
   | cons r l ih =>
    intro h;unfold ynD at h;split at h
    .exact mem_cons.mp h
    .rcases mem_cons.mp h with e|h
     .exact .inr (e ▸ mem_cons_self)
     .exact (ih h).imp id (mem_cons_of_mem _)
  rcases ins _ hp with rfl|h
  .exact mem_cons_self
  .exact mem_cons_of_mem _ (ykT h)
theorem ypo:∀ l,(ykl l).length=l.length
 | []=>rfl
 | q::l=>by
  have a:∀ l,(ynD q l).length=l.length+1:=by
   intro l
   induction l with
   | nil=>rfl
   | cons r l ih =>
    unfold ynD;split
    .rfl
    simp_all
  show (ynD q _).length=_;rw [a,ypo l];rfl
theorem ypp:∀ l:List (Int×PV),(l.map (·.1)).Nodup->(ykl l).Pairwise fun a b=>a.1<b.1
 | [],_=>.nil
 | q::l,nd=>by
  have ih:=ypp l (List.nodup_cons.mp nd).2;have ne:∀ p∈ykl l,p.1≠q.1:=fun p hp e=>(List.nodup_cons.mp nd).1 (by show q.1∈l.map _;rw [<- e];exact List.mem_map_of_mem (ykT hp))
  have ins:∀ (l:List (Int×PV)),l.Pairwise (fun a b=>a.1<b.1)->(∀ p∈l,p.1≠q.1)->(ynD q l).Pairwise fun a b=>a.1<b.1:=by
   intro l
   induction l with
   | nil=>exact fun _ _=>List.pairwise_singleton ..
   | cons r l ih =>
    intro h n;have h2:=List.pairwise_cons.mp h;have n0:=n r mem_cons_self;unfold ynD;split
    .rename_i c;refine List.pairwise_cons.mpr ⟨fun p hp=>?_,h⟩;rcases mem_cons.mp hp with rfl|hp
     .omega
     .have:=h2.1 p hp
      omega
    .rename_i c;refine List.pairwise_cons.mpr ⟨fun p hp=>?_,ih h2.2 fun p hp=>n p (mem_cons_of_mem _ hp)⟩;have im:∀ (l:List (Int×PV)),p∈ynD q l->p=q\/p∈l:=by
      intro l
      induction l with
      | nil=>exact fun h=>.inl (List.mem_singleton.mp h)
      | cons r l ih =>
       intro h;unfold ynD at h;split at h
       .exact mem_cons.mp h
       .rcases mem_cons.mp h with e|h
        .exact .inr (e ▸ mem_cons_self)
        .exact (ih h).imp id (mem_cons_of_mem _)
     rcases im l hp with rfl|hp
     .omega
     .exact h2.1 p hp
  exact ins _ ih ne
noncomputable def Ris (ls:List (Nat×Int)):Prop:=ls.Pairwise fun a b=>a.1<b.1
theorem ytg {m:List _}(g:m.length<64) (i:(m.map (·.1)).Nodup):∃ ls:List _,sortI (sK m) (sA m)=some (ls.map ybl)/\(∀ p∈ls,∃ q∈m,p=(q.1,q.2.1))/\ls.length=m.length/\Ris ls:=by
 have z:∀ m:List _,(m.map fun p=>(p.1:Int)).zip (sA m)=m.map fun p=>((p.1:Int),PV.int p.2.1):=by
  intro m
  induction m with
  | nil=>rfl
  | cons p m ih=>show _::(m.map _).zip (sA m)=_;rw [ih];rfl
 have f:∀ l,(∀ p∈l,∃ q∈m,p=((q.1:Int),PV.int q.2.1))->∃ ls:List _,l=ls.map (fun p=>((p.1:Int),PV.int p.2))/\∀ p∈ls,∃ q∈m,p=(q.1,q.2.1):=by
  intro l
  induction l with
  | nil=>exact fun _=>⟨[],rfl,fun _ h=>by cases h⟩
  | cons p l ih =>
   intro H;obtain ⟨ls,e,k⟩:=ih fun p h=>H p (mem_cons_of_mem _ h)
   obtain ⟨q,a,rfl⟩:=H p mem_cons_self;refine ⟨(q.1,q.2.1)::ls,by simp_all,fun p hp=>?_⟩;rcases mem_cons.mp hp with rfl|hp
   .exact ⟨q,a,rfl⟩
   .exact k p hp
 obtain ⟨ls,e,k⟩:=f _ fun p hp=>by obtain ⟨q,a,e⟩:=List.mem_map.mp (ykT hp);exact ⟨q,a,e.symm⟩
 have c:=ypp (m.map fun p=>(p.1,PV.int p.2.1)) (by
  have:(m.map ((fun x=>x.1) ∘ fun p=>((p.1:Int),PV.int p.2.1)))=(m.map (·.1)).map (fun n:Nat=>(n:Int)):=by rw [map_map];rfl
  grind)
 have b:=ypo (m.map fun p=>(p.1,PV.int p.2.1));rw [e] at c b;rw [length_map,length_map] at b;refine ⟨ls,?_,k,b,(List.pairwise_map.mp c).imp fun h=>by simp_all⟩;unfold sortI;rw [ytf];dsimp only;rw [if_pos (by rw [length_map];omega),z,e,map_map];rfl
end
def ZS (z:Option Rw) (sd:List (Rw×List Int)):Prop:=match z with|none=>sd=[]|some b=>∃ q,sd=[(b,q)]/\GV q
structure RW (W:Nat) (rws:List Rw) (P:Nat->Option Rw->Prop) (s:RS):Prop where
 ps:∃ z,P s.t z/\ZS z s.sd
 hs:GV s.hs
 dd:∀ d∈s.dd,DOk W d
 ln:s.dd.length=s.sd.length+1
section
variable {W:Nat}{rws:List Rw}{P:Nat->Option Rw->Prop}{s:RS}
theorem RW.ok (G:yxg rws P) (R:RW W rws P s) (k:W<=16):okS s=true:=by
 obtain ⟨z,hp,hz⟩:=R.ps;unfold okS;simp only [and_eq_true,beq_iff_eq,decide_eq_true_eq,List.all_eq_true];have c:∀ d∈s.dd,d.1.length<400:=fun d h=>by have:=(R.dd d h).len;omega
 cases z with
 | none =>
  have e:=hz;rw [e];exact ⟨⟨⟨⟨R.hs.1,by rw [R.ln,e]⟩,by decide⟩,fun _ h=>by cases h⟩,c⟩
 | some b =>
  obtain ⟨q,e,i⟩:=hz;obtain ⟨j,f,_⟩:=G.zz _ _ hp;rw [e];exact ⟨⟨⟨⟨R.hs.1,by rw [R.ln,e]⟩,by show 1<90;decide⟩,fun x g=>by rw [List.mem_singleton.mp g];exact ⟨⟨j,f⟩,i.1⟩⟩,c⟩
theorem RW.start (G:yxg rws P) {bf:List Int}(g:GV bf):RW W rws P (S0 bf):=⟨⟨none,G.st,rfl⟩,g,fun d h=>by rw [List.mem_singleton.mp h];exact .nil,rfl⟩
end
section
variable {W:Nat}{rws:List Rw}{P:Nat->Option Rw->Prop}{s:RS}{r:Rw}{z:Option Rw}
theorem ywi (hW:1<=W) (x:Int):∃ n:Nat,x%(W:Nat)=(n:Nat)/\n<W:=⟨(x%(W:Nat)).toNat,by have:=Int.emod_nonneg x (show ((W:Nat):Int)≠0 by omega);omega,by have:=Int.emod_lt_of_pos x (show (0:Int)<(W:Nat) by omega);omega⟩
theorem RW.go (G:yxg rws P) (R:RW W rws P s) (h1:1<=W) (hW:W<=16) (hp:P s.t z) (hz:ZS z s.sd) (er:rws[s.t]?=some r) (okr:okR r=true) (c:cnd P s.t z r) (lk:yhs W s r=false):∃ s',ypT W r s=some s'/\RW W rws P s'/\s'.sn=s.sn:=by
 have okk:(okR r && okS s)=true:=by rw [okr,R.ok G hW];rfl
 have lv:∀ {g:Rw->List Int->List Int},(∀ b q,GV q->GV (g b q))->¬tkL s.sd r s.sd.length=0->∃ s',yjF s r g=some s'/\RW W rws P s'/\s'.sn=s.sn:=fun {g} hg hk=>by
  obtain ⟨L,hL⟩:∃ L,tkL s.sd r s.sd.length=L+1:=⟨tkL s.sd r s.sd.length-1,by omega⟩
  obtain ⟨x,hx,_⟩:=ykI hL;cases z with
  | none=>rw [show s.sd=[] from hz] at hx;cases hx
  | some b =>
   obtain ⟨q,e,gq⟩:=hz;have l0:L=0:=by have:=(List.getElem?_eq_some_iff.mp hx).1;rw [e] at this;have:L<1:=this;omega
   subst l0;have ex:x=(b,q):=by rw [e] at hx;cases hx;rfl
   subst ex;have ln:=R.ln;rw [e] at ln;have ln:s.dd.length=2:=ln;refine ⟨⟨(toB b).toNat,g b q,s.sd.take 0,s.dd.take 1,s.sn⟩,?_,⟨⟨none,(G.zz _ _ hp).2.2,rfl⟩,hg b q gq,fun d hd=>R.dd d (List.mem_of_mem_take hd),?_⟩,rfl⟩
   .unfold yjF;rw [hL];dsimp only;rw [hx]
   .show (s.dd.take 1).length=0+1;rw [length_take];omega
 unfold ypT;rw [if_pos okk];cases r with
 | let_ a n=>exact ⟨_,rfl,⟨⟨z,c,hz⟩,R.hs.set (G.lt _ (mem_of_getElem? er)),R.dd,R.ln⟩,rfl⟩
 | take a q =>
  dsimp only;rcases yxl R.dd (j:=.inl (s.hs.getD (sx q) 0%(W:Nat))) s.dd.length with e|⟨v,e,hv⟩
  .have:isN (ysA s W q)=false:=lk;unfold ysA at this;rw [e] at this;cases this
  .have e:ysA s W q=.int v:=e;rw [e];exact ⟨_,rfl,⟨⟨z,c,hz⟩,R.hs.set hv,R.dd,R.ln⟩,rfl⟩
 | put p q =>
  obtain ⟨n,en,hn⟩:=ywi h1 (s.hs.getD (sx p) 0);have ne:s.dd≠[]:=fun e=>by have:=R.ln;rw [e] at this;simp at this
  refine ⟨_,rfl,⟨⟨z,c,hz⟩,R.hs,?_,?_⟩,rfl⟩
  .show ∀ d∈yhe s.dd _ _,DOk W d;unfold yhe;rw [List.getLast?_eq_some_getLast ne,en];intro d hd;rcases List.mem_append.mp hd with hd|hd
   .exact R.dd d (List.dropLast_subset _ hd)
   .rw [List.mem_singleton.mp hd];exact (R.dd _ (List.getLast_mem ne)).put hn (R.hs.at_ _)
  .show (yhe s.dd _ _).length=_;unfold yhe;rw [List.getLast?_eq_some_getLast ne];have:=R.ln;simp only [length_append,List.length_dropLast,List.length_singleton];show _=s.sd.length+1;omega
 | unl a k =>
  refine ⟨_,rfl,⟨⟨z,?_,hz⟩,R.hs,R.dd,R.ln⟩,rfl⟩;show P (if _ then _ else _) z;split
  .exact c.2
  .exact c.1
 | jump k=>exact ⟨_,rfl,⟨⟨z,c,hz⟩,R.hs,R.dd,R.ln⟩,rfl⟩
 | either k =>
  obtain ⟨rfl,c1,_⟩:=c;have e:s.sd=[]:=hz;refine ⟨_,rfl,⟨⟨some (.either k),c1,s.hs,?_,R.hs⟩,R.hs,?_,?_⟩,rfl⟩
  .show s.sd++_=_;rw [e];rfl
  .intro d hd;rcases List.mem_append.mp hd with hd|hd
   .exact R.dd d hd
   .rw [List.mem_singleton.mp hd];exact .nil
  .show (s.dd++_).length=(s.sd++_).length+1;rw [length_append,length_append,R.ln];rfl
 | guard a b k =>
  obtain ⟨rfl,c1,_⟩:=c;have e:s.sd=[]:=hz;refine ⟨_,rfl,⟨⟨some (.guard a b k),c1,s.hs,?_,R.hs⟩,R.hs,?_,?_⟩,rfl⟩
  .show s.sd++_=_;rw [e];rfl
  .intro d hd;rcases List.mem_append.mp hd with hd|hd
   .exact R.dd d hd
   .rw [List.mem_singleton.mp hd];exact .nil
  .show (s.dd++_).length=(s.sd++_).length+1;rw [length_append,length_append,R.ln];rfl
 | settle =>
  obtain ⟨c0,c1⟩:=c;cases z with
  | none=>exact absurd rfl c0
  | some b =>
   obtain ⟨q,e,gq⟩:=hz;have ln:=R.ln;rw [e] at ln;obtain ⟨e',d',ed⟩:∃ e' d',s.dd=[e',d']:=by
    match h:s.dd,ln with
    | [x,y],_=>exact ⟨x,y,rfl⟩
   have D:=R.dd;rw [ed] at D;dsimp only;rw [if_neg (by rw [e];exact fun z=>by cases z)];refine ⟨_,rfl,⟨⟨none,c1,?_⟩,R.hs,?_,?_⟩,rfl⟩
   .show s.sd.dropLast=[]
    rw [e];rfl
   .show ∀ d∈yjE s.dd,DOk W d;rw [ed];intro d hd;rw [List.mem_singleton.mp (show d∈[yiR d'.1 d'.2 e'.1 e'.2] from hd)];exact (D d' (by simp)).mrg (D e' (by simp))
   .show (yjE s.dd).length=s.sd.dropLast.length+1;rw [ed,e];rfl
 | reckon v a p q =>
  dsimp only;rw [if_pos (show 0<=s.hs.getD (sx p) 0/\s.hs.getD (sx p) 0<B64 from R.hs.at_ _)];exact ⟨_,rfl,⟨⟨z,c,hz⟩,R.hs.set yFb,R.dd,R.ln⟩,rfl⟩
 | wait=>exact lv (fun _ _ g=>g) (by have:=of_decide_eq_false lk;omega)
 | throw a b=>exact lv (fun _ _ g=>g.set (R.hs.at_ _)) (by have:=of_decide_eq_false lk;omega)
 | lay=>cases lk
end
section
variable {h:AH}
noncomputable def nV (l:List Nat):List PV:=l.map fun i:Nat=>.int (i:Nat)
noncomputable def tuS (X:PV) (m:Nat) (is:List Nat) (v3 v4 v5:PVar):PSt:=[.val X,.val (.int (m:Nat)),.own (.lst (nV is)),v3,v4,v5]
theorem yCM {X:PV}{m:Nat}(h1:1<=m) (p:m<=4) {v3:PVar}{M:Int}:∀ l c v5,(∀ k∈l,k<4)->c.length+l.length<=1000->(∀ i∈c,i<m)->∃ b d,yeR (yr 5) tuB (nV l) (tuS X m c v3 (.val (.int M)) v5) h=some (.nx (tuS X m b v3 (.val (.int M)) d),h)/\b.length=c.length+l.length/\∀ i∈b,i<m
 | [],c,v5,_,_,H=>⟨c,v5,rfl,rfl,H⟩
 | x::l,c,v5,f,hl,H=>by
  rw [length_cons] at hl;have t:=f x mem_cons_self;obtain ⟨k,ek,k1⟩:=ywi h1 _;obtain ⟨b,d,r,j,g⟩:=yCM h1 p l (c++[k]) _ (fun k h=>f k (mem_cons_of_mem _ h)) (by rw [length_append];grind) fun i e=>by
   rcases List.mem_append.mp e with e|e
   .exact H i e
   simp_all
  refine ⟨b,d,?_,by rw [j,length_append,length_cons,length_nil,length_cons];omega,g⟩;have q:tuB (tuS X m c v3 (.val (.int M)) (.val (.int x))) h=some (.nx (tuS X m (c++[k]) v3 (.val (.int M)) (.val (.int x))),h):=by
   have o:((0:Int)<m)=True:=eq_true (by omega);have s:((0:Int)<3+2*x/\3+2*(x:Int)<1073741824)=True:=eq_true (by omega);have n:PX.MulOk 2 x=True:=eq_true (by left;decide);unfold tuB;rw [yoF rfl];unfold tuS
   simpa [o,s,n]
   rw [ek,if_pos (by unfold nV;grind)];unfold nV;simp_all
  show yeR _ _ (PV.int _::nV l) _ h=_;rw [yht rfl (q),r]
noncomputable def tuO:XS:=yl (ybL (xOp oMod (ye 3) (xOp yyo (xC (.int 10)) (xC (.int 9)))) (yr 4)) (ybr (yn (xOp (oEq) (xOp oMod (ye 4) (xC (.int 3))) (xC (.int 0)))) (ytA 2 (yhT (ynm yot (ye 2) (xFz (ynm yqk (xFz (yeg (yc (xOp oMod (xOp oDiv (ye 4) (xC (.int 3))) (ye 1)) (yi)))) (xOp yeu (xC (.int 2)) (xOp oMod (xOp oDiv (ye 4) (xC (.int 24))) (xC (.int 6))))))) 2)) (yhF (yre (yc (xC (.int 4)) (yi))) (yr 5) tuB))
theorem yzO {X:PV}{m:Nat}(h1:1<=m) (s:m<=4) {c:Int}{b:List Nat}{v4 v5:PVar}(hl:b.length<=900) (H:∀ i∈b,i<m):∃ d g j,tuO (tuS X m b (.val (.int c)) v4 v5) h=some (.nx (tuS X m d (.val (.int c)) g j),h)/\d.length<=b.length+7/\∀ i∈d,i<m:=by
 have q:PX.PowOk 10 9=True:=eq_true (by unfold PX.PowOk;decide)
 by_cases e:c%1000000000%3=0
 .obtain ⟨k,ek,k1⟩:=ywi h1 (c%1000000000/3);obtain ⟨n,en,z⟩:∃ n:Nat,2+c%1000000000/24%6=(n:Nat)/\n<=7:=⟨(2+c%1000000000/24%6).toNat,by omega,by omega⟩
  refine ⟨b++replicate n k,.val (.int (c%1000000000)),v5,?_,by grind,fun i f=>?_⟩
  .have r:((0:Int)<(m:Nat))=True:=eq_true (by omega);have u:∀ h,yqk (.lst [.int (k:Nat)]) (.int (n:Nat)) h=some (.lst (nV (replicate n k)),h):=fun h=>by rw [yrw,if_pos (by show _/\_/\1*_<=_;omega),Int.toNat_natCast];unfold nV repL;rw [List.flatten_replicate_singleton,List.map_replicate]
   have v:∀ h,yot (.lst (nV b)) (.lst (nV (replicate n k))) h=some (.lst (nV (b++replicate n k)),h):=fun h=>by rw [yrv,if_pos (by unfold nV;grind)];unfold nV;rw [map_append]
   unfold tuO tuS
   simpa [q,e,r,ek,en,u,v,-yrv,-yrw]
  .rcases List.mem_append.mp f with f|f
   .exact H i f
   .rw [List.eq_of_mem_replicate f];exact k1
 .obtain ⟨l,y,w,p,o⟩:=yCM (h:=h) (X:=X) (v3:=.val (.int c)) (M:=c%1000000000) h1 s [0,1,2,3] b v5 (by decide) (by show _+4<=_;omega) H;have x:∀ ρ,yre (yc (xC (.int 4)) (yi)) ρ h=some (nV [0,1,2,3],h):=fun ρ=>rfl
  have t:=eq_false e;refine ⟨l,.val (.int (c%1000000000)),y,?_,by rw [p];show _+4<=_;omega,o⟩;unfold tuO;unfold tuS at *;clear p o H e
  simpa [q,t,x,w]
end
section
variable {h:AH}
theorem yxm {X:PV}{m:Nat}(h1:1<=m) (k:m<=4):∀ (l:List Int) d v3 v4 v5,d.length+7*l.length<=900->(∀ i∈d,i<m)->∃ b j e g,yeR (yr 3) tuO (l.map .int) (tuS X m d v3 v4 v5) h=some (.nx (tuS X m b j e g),h)/\b.length<=d.length+7*l.length/\∀ i∈b,i<m
 | [],d,v3,v4,v5,_,H=>⟨d,v3,v4,v5,rfl,Nat.le_refl _,H⟩
 | c::l,d,v3,v4,v5,hl,H=>by rw [length_cons] at hl;obtain ⟨f,s,n,o,t,q⟩:=yzO h1 k (by omega) H;obtain ⟨b,r,p,u5,k1,k2,k3⟩:=yxm h1 k l f _ s n (by omega) q;refine ⟨b,r,p,u5,?_,by grind,k3⟩;show yeR _ _ (PV.int c::l.map _) _ h=_;rw [yht rfl (o),k1]
theorem ywj {cs:List Int}{m:Nat}(h1:1<=m) (e:m<=4) (j:cs.length<=100):∃ b:List Nat,ydp [.lst (cs.map .int),.int m] h=some (.lst (nV b),h)/\b.length<=700/\∀ i∈b,i<m:=by
 obtain ⟨b,v3,v4,v5,c,d,f⟩:=yxm h1 e cs [] .no .no .no (by grind) fun _ h=>by cases h
 have d:b.length<=0+7*cs.length:=d;refine ⟨b,?_,by omega,f⟩;have c:yeR _ tuO _ [.val (.lst (cs.map .int)),.val _,.own (.lst []),.no,.no,.no] h=some _:=c;have g:xIL (ye 0) [.val _,.val (.int m),.own (.lst []),.no,.no,.no] h=some (cs.map .int,h):=ykz rfl;delta ydp;show ob (yl _ (yl (yhF _ _ tuO) _) [.val _,.val _,.no,.no,.no,.no] h) fnK=_
 simpa [g,c]
 unfold tuS;symm
end
structure HW (W:Nat) (x:HD):Prop where
 ds:∀ i,i<x.ds.length->∃ rws P,x.ds[i]?=some (.lst (rws.map yV))/\yxg rws P
 le:x.nth<=x.ds.length
 bf:GV x.bf
 nf:NF W x.s
 due:Due x.ds x.nth x.rows
 run:x.nth<x.ds.length->∃ rws P,x.rows=rws.map yV/\yxg rws P/\RW W rws P x.s
structure St where
 bx:List Int
 sp:List Int
 en:List PV
 xs:List HD
noncomputable def SnI (bx sp:List Int) (m:List (Nat×Int×Int)):Prop:=∀ p∈m,p.2.2<=sp.getD p.1 0/\(p.2.2=sp.getD p.1 0->bx.getD p.1 0=p.2.1)
def See (bx:List Int) (ls:List (Nat×Int)):Prop:=Ris ls/\∀ p∈ls,p.1<bx.length/\inB p.2/\bx.getD p.1 0=p.2
def yzP (W:Nat) (lw:List (Nat×Int)):Prop:=Ris lw/\∀ p∈lw,p.1<W/\inB p.2
structure SW (W n:Nat) (S:St):Prop where
 b:S.bx.length=W
 p:S.sp.length=W
 bb:∀ v∈S.bx,inB v
 x:∀ x∈S.xs,HW W x
 e:∀ x∈S.xs,SnI S.bx S.sp x.s.sn
 n:S.en.length<=n
def Turn (W:Nat) (S:St) (i:Nat) (told:PV) (S':St):Prop:=∀ h g as own,HH h g W S.bx S.sp S.en as S.xs own->∃ h' as',yB [.loc g.H,.int (i:Nat)] h=some (told,h')/\HH h' g W S'.bx S'.sp S'.en as' S'.xs own
inductive Tc (S:St) (xs1:List HD) (x:HD) (xs2:List HD):PV->St->Prop
 | idle:stX x≠"awake"->Tc S xs1 x xs2 (.tup [.str "idle"]) S
 | gone (s':RS):stX x = "awake"->s'.sn=x.s.sn->Tc S xs1 x xs2 (.tup [.str "gone",.int (x.s.t:Nat)]) ⟨S.bx,S.sp,S.en,xs1++{ x with s:=s' }::xs2⟩
 | anew:stX x = "awake"->stB x.s.sn S.sp=true->Tc S xs1 x xs2 (.tup [.str "anew",.int (x.s.t:Nat)]) ⟨S.bx,S.sp,S.en,xs1++{ x with sl:=false,s:=S0 x.bf }::xs2⟩
 | seen (k:Nat) (v:Int) (hs:List Int):stX x = "awake"->k<S.sp.length->Tc S xs1 x xs2 (.tup [.str "seen",.int (x.s.t:Nat),.int (k:Nat),.int v]) ⟨S.bx,S.sp,S.en,xs1++{ x with s:=⟨x.s.t+1,hs,x.s.sd,x.s.dd,yeL x.s.sn k v (S.sp.getD k 0)⟩ }::xs2⟩
 | slp:stX x = "awake"->stB x.s.sn S.sp=false->Tc S xs1 x xs2 (.tup [.str "asleep",.int (x.s.t:Nat)]) ⟨S.bx,S.sp,S.en,xs1++{ x with sl:=true }::xs2⟩
 | fell (p:Str) (v:Int) (ls:List (Nat×Int)) (rows':List PV):stX x = "awake"->inB v->See S.bx ls->x.bf.length=8->Tc S xs1 x xs2 (.tup [.str "fell",.int (x.s.t:Nat)]) ⟨S.bx,S.sp,S.en++[yAc xs1.length x (.tup [.str "fell",.str p,.int v]) (ls.map ybl) [] x.bf],xs1++{ x with nth:=x.nth+1,rows:=rows',s:=S0 x.bf }::xs2⟩
 | done (ls lw:List (Nat×Int)) (rows':List PV) (c:List Int):stX x = "awake"->See S.bx ls->yzP S.bx.length lw->c.length=8->Tc S xs1 x xs2 (.tup [.str "done",.int (x.s.t:Nat)]) ⟨ymn S.bx lw,ykK S.sp lw,S.en++[yAc xs1.length x (.tup [.str "done"]) (ls.map ybl) (lw.map ybl) c],(xs1++{ x with nth:=x.nth+1,bf:=c,rows:=rows',s:=S0 c }::xs2).map (yep (ykK S.sp lw))⟩
structure TO (W n:Nat) (S:St) (i:Nat) (told:PV) (S':St):Prop where
 t:Turn W S i told S'
 w:SW W (n+1) S'
 l:S'.xs.length=S.xs.length
 c:∃ xs1 x xs2,S.xs=xs1++x::xs2/\xs1.length=i/\Tc S xs1 x xs2 told S'
theorem NF0 {W:Nat}{bf:List Int}:NF W (S0 bf):=⟨List.nodup_nil,fun _ h=>(by cases h),by show 0<=900;decide⟩
section
variable {W n i:Nat}{S:St}{x:HD}
theorem HW.next (w:HW W x) (c:x.nth<x.ds.length) {bf:List Int}(g:GV bf):∃ rows',Due x.ds (x.nth+1) rows'/\HW W { x with nth:=x.nth+1,bf:=bf,rows:=rows',s:=S0 bf }:=by
 by_cases e:x.nth+1<x.ds.length
 .obtain ⟨rws,P,d,G⟩:=w.ds _ e;exact ⟨_,.inl ⟨e,d⟩,w.ds,c,g,NF0,.inl ⟨e,d⟩,fun _=>⟨rws,P,rfl,G,.start G g⟩⟩
 .have b:x.nth+1=x.ds.length:=by omega
  exact ⟨[],.inr ⟨b,rfl⟩,w.ds,c,g,NF0,.inr ⟨b,rfl⟩,fun h=>absurd h e⟩
theorem HW.anew (w:HW W x):HW W { x with sl:=false,s:=S0 x.bf }:=⟨w.ds,w.le,w.bf,NF0,w.due,fun h=>by obtain ⟨rws,P,e,G,_⟩:=w.run h;exact ⟨rws,P,e,G,.start G w.bf⟩⟩
theorem HW.wake (w:HW W x) {sp:List Int}:HW W (yep sp x):=by
 unfold yep;split
 .exact w.anew
 .exact w
theorem yhJ {Z:Type}{l:List Z}{i:Nat}(h:i<l.length):∃ a x b,l=a++x::b/\a.length=i:=⟨l.take i,l[i],l.drop (i+1),by simp_all,by grind⟩
theorem yxn:∀ {l:List _}{bx:List Int},(∀ v∈bx,inB v)->(∀ p∈l,inB p.2)->∀ v∈ymn bx l,inB v
 | [],_,h,_=>h
 | p::l,bx,h,k=>yxn (l:=l) (fun v hv=>(List.mem_or_eq_of_mem_set hv).elim (h v) fun e=>e ▸ k p mem_cons_self) fun p hp=>k p (mem_cons_of_mem _ hp)
theorem yCN {bx sp:List Int}{m:List (Nat×Int×Int)}(h:SnI bx sp m) (hl:bx.length=sp.length):∀ {lw:List (Nat×Int)},(∀ p∈lw,p.1<bx.length)->SnI (ymn bx lw) (ykK sp lw) m:=fun {lw}=>by
 induction lw generalizing bx sp with
 | nil=>exact fun _=>h
 | cons q lw ih =>
  intro hq;refine ih (bx:=bx.set q.1 q.2) (sp:=sp.set q.1 (sp.getD q.1 0+1)) (fun p hp=>?_) (by rw [length_set,length_set,hl]) fun p hp=>by rw [length_set];exact hq p (mem_cons_of_mem _ hp)
  have h0:=hq q mem_cons_self;have hs:q.1<sp.length:=by omega
  obtain ⟨a,b⟩:=h p hp;simp only [getD_eq_getElem?_getD,List.getElem?_set] at a b ⊢
  by_cases e:q.1=p.1
  .rw [if_pos e,if_pos hs,if_pos e,if_pos h0];rw [e];show p.2.2<=sp[p.1]?.getD 0+1/\(p.2.2=sp[p.1]?.getD 0+1->_)
   exact ⟨by omega,fun z=>by omega⟩
  .rw [if_neg e,if_neg e];exact ⟨a,b⟩
theorem yCO {bx sp:List Int}{m:List _}(h:SnI bx sp m) {k:Nat}:SnI bx sp (yeL m k (bx.getD k 0) (sp.getD k 0)):=fun p hp=>by
 rcases ynQ hp with rfl|hp
 .exact ⟨Int.le_refl _,fun _=>rfl⟩
 .exact h p hp
theorem yCP {bx sp:List Int}{m:List _}{ls:List _}(h:SnI bx sp m) (f:stB m sp=false) (d:∀ p∈m,p.1<bx.length) (g:∀ v∈bx,inB v) (r:Ris ls) (k:∀ p∈ls,∃ q∈m,p=(q.1,q.2.1)):See bx ls:=⟨r,fun p hp=>by
 obtain ⟨q,b,rfl⟩:=k p hp;have e:=by unfold stB at f;rw [List.any_eq_false] at f;have:=f _ (List.mem_map_of_mem b);simpa using this
 have c:=(h q b).2 e.symm;have l:=d q b;refine ⟨l,?_,c⟩;dsimp only;rw [<- c,getD_eq_getElem?_getD,List.getElem?_eq_getElem l];exact g _ (getElem_mem l)⟩
theorem yzQ (w:SW W n S) (h1:1<=W) (h3:W<=16) (hn:n<900) (hi:i<S.xs.length):∃ u S',TO W n S i u S':=by
 obtain ⟨bx,sp,en,xs⟩:=S;obtain ⟨rfl,I,wb,wx,we,wn⟩:=w;dsimp only at *;obtain ⟨xs1,x,xs2,rfl,rfl⟩:=yhJ hi;have j:=wx x (by simp);have upd:∀ {x':HD},HW bx.length x'->∀ y∈xs1++x'::xs2,HW bx.length y:=fun {x'} hx y L=>by
  rcases List.mem_append.mp L with z|z
  .exact wx y (mem_append_left _ z)
  .rcases mem_cons.mp z with rfl|z
   .exact hx
   .exact wx y (mem_append_right _ (mem_cons_of_mem _ z))
 have E:∀ {x':HD},SnI bx sp x'.s.sn->∀ y∈xs1++x'::xs2,SnI bx sp y.s.sn:=fun {x'} hx y L=>by
  rcases List.mem_append.mp L with z|z
  .exact we y (mem_append_left _ z)
  .rcases mem_cons.mp z with rfl|z
   .exact hx
   .exact we y (mem_append_right _ (mem_cons_of_mem _ z))
 have sX:=we x (by simp);have s0:∀ {bf:List Int},SnI bx sp (S0 bf).sn:=fun p hp=>by cases hp
 have v:∀ {h g H o} {u:PV}{S':St},HH h g bx.length bx sp en H (xs1++x::xs2) o->(∀ as1 a as2,as1.length=xs1.length->HH h g bx.length bx sp en (as1++a::as2) (xs1++x::xs2) o->∃ h' K,yB [.loc g.H,.int (as1.length:Nat)] h=some (u,h')/\HH h' g bx.length S'.bx S'.sp S'.en K S'.xs o)->∃ h' K,yB [.loc g.H,.int (xs1.length:Nat)] h=some (u,h')/\HH h' g bx.length S'.bx S'.sp S'.en K S'.xs o:=fun {h g H o u S'} X k=>by obtain ⟨as1,a,as2,rfl,l⟩:=yhJ (l:=H) (i:=xs1.length) (by rw [X.ly.len,length_append,length_cons];omega);have:=k as1 a as2 l X;rwa [l] at this
 have sn4:x.s.sn.length<64:=by
  have:=yjG bx.length _ j.nf.nd fun k O=>by obtain ⟨p,hp,rfl⟩:=List.mem_map.mp O;exact j.nf.hb p hp
  rw [length_map] at this;omega
 by_cases st:stX x = "awake"
 .have t:x.nth<x.ds.length:=by
   have:=j.le
   by_cases e:x.nth=x.ds.length
   .unfold stX at st;rw [if_pos e] at st;exact absurd st (by rfl')
   .omega
  have C:x.sl=false:=by
   cases e:x.sl with
   | false=>rfl
   | true =>
    unfold stX at st;rw [if_neg (by omega),if_pos e] at st;exact absurd st (by rfl')
  obtain ⟨rws,P,J,G,R⟩:=j.run t;obtain ⟨z,hp,hz⟩:=R.ps;obtain ⟨r,T,D,c⟩:=G.nx _ _ hp;have Z:=R.ok G (by omega);have A:∀ {x':HD},HW bx.length x'->SnI bx sp x'.s.sn->SW bx.length (n+1) ⟨bx,sp,en,xs1++x'::xs2⟩:=fun hx hs=>⟨rfl,I,wb,upd hx,E hs,by show en.length<=n+1;omega⟩
  cases Y:yhs bx.length x.s r with
  | false =>
   obtain ⟨s',e2,R',es⟩:=R.go G h1 (by omega) hp hz T D c Y;refine ⟨.tup [.str "gone",.int x.s.t],⟨bx,sp,en,xs1++{ x with s:=s' }::xs2⟩,fun h g H o X=>v X fun as1 a as2 l X=>?_,A ⟨j.ds,j.le,j.bf,?_,j.due,fun _=>⟨rws,P,J,G,R'⟩⟩ (by dsimp only;rw [es];exact sX),by simp,⟨xs1,x,xs2,rfl,rfl,.gone s' st es⟩⟩
   .obtain ⟨h',c',F,B⟩:=yEN X l h1 J t C T Z D Y e2;exact ⟨h',_,F,B⟩
   .obtain ⟨a,b,c⟩:=j.nf;exact ⟨by rw [es];exact a,by rw [es];exact b,by rw [es];exact c⟩
  | true =>
   cases fr:stB x.s.sn sp with
   | true =>
    refine ⟨.tup [.str "anew",.int x.s.t],⟨bx,sp,en,xs1++{ x with sl:=false,s:=S0 x.bf }::xs2⟩,fun h g H o X=>v X fun as1 a as2 l X=>?_,A j.anew s0,by simp,⟨xs1,x,xs2,rfl,rfl,.anew st fr⟩⟩;obtain ⟨h',c',F,B⟩:=yEP X l I h1 J t C j.nf fr T Z D Y j.due;exact ⟨h',_,F,B⟩
   | false =>
    obtain ⟨ls,eL,kL,_,rL⟩:=ytg (m:=x.s.sn) sn4 j.nf.nd;have SE:=yCP sX fr j.nf.hb wb rL kL;cases r with
    | take p q =>
     obtain ⟨k,ek,O⟩:=ywi h1 (x.s.hs.getD (sx q) 0);have hv:inB (bx.getD k 0):=by rw [getD_eq_getElem?_getD,List.getElem?_eq_getElem O];exact wb _ (getElem_mem O)
     refine ⟨.tup [.str "seen",.int x.s.t,.int (k:Nat),.int (bx.getD k 0)],⟨bx,sp,en,xs1++{ x with s:=⟨x.s.t+1,x.s.hs.set (sx p) (bx.getD k 0),x.s.sd,x.s.dd,yeL x.s.sn k (bx.getD k 0) (sp.getD k 0)⟩ }::xs2⟩,fun h g H o X=>v X fun as1 a as2 l X=>?_,A ⟨j.ds,j.le,j.bf,j.nf.put O (by omega),j.due,fun _=>⟨rws,P,J,G,⟨z,c,hz⟩,R.hs.set hv,R.dd,R.ln⟩⟩ (yCO sX),by simp,⟨xs1,x,xs2,rfl,rfl,.seen k _ _ st (by show k<sp.length;omega)⟩⟩;obtain ⟨h',F,B⟩:=yEO X l I h1 J t C j.nf fr T Z D Y ek O;exact ⟨h',_,F,B⟩
    | wait =>
     refine ⟨.tup [.str "asleep",.int x.s.t],⟨bx,sp,en,xs1++{ x with sl:=true }::xs2⟩,fun h g H o X=>v X fun as1 a as2 l X=>?_,A ⟨j.ds,j.le,j.bf,j.nf,j.due,fun _=>⟨rws,P,J,G,R⟩⟩ sX,by simp,⟨xs1,x,xs2,rfl,rfl,.slp st fr⟩⟩;obtain ⟨h',F,B⟩:=yCp X l I h1 J t C j.nf fr T Z Y;exact ⟨h',_,F,B⟩
    | throw p q =>
     obtain ⟨rows',du,wN⟩:=j.next t j.bf;refine ⟨.tup [.str "fell",.int x.s.t],⟨bx,sp,en++[yAc xs1.length x (.tup [.str "fell",.str p,.int (x.s.hs.getD (sx q) 0)]) (ls.map ybl) [] x.bf],xs1++{ x with nth:=x.nth+1,rows:=rows',s:=S0 x.bf }::xs2⟩,fun h g H o X=>v X fun as1 a as2 l X=>?_,⟨rfl,I,wb,upd wN,E s0,by show (en++_).length<=n+1;rw [length_append];show en.length+1<=_;omega⟩,by simp,⟨xs1,x,xs2,rfl,rfl,.fell _ _ ls _ st (R.hs.at_ _) SE j.bf.1⟩⟩
     .obtain ⟨h',c',F,B⟩:=yEQ X l I h1 J t C j.nf fr T Z D Y eL du (by omega);rw [l] at B;exact ⟨h',_,F,B⟩
    | lay =>
     subst c;have e0:x.s.sd=[]:=hz;obtain ⟨d,ed⟩:∃ d,x.s.dd=[d]:=by
      have:=R.ln;rw [e0] at this
      match h:x.s.dd,this with
      | [d],_=>exact ⟨d,rfl⟩
     obtain ⟨m,rfl,nd,hb⟩:=R.dd d (by rw [ed];simp);have ml:m.length<64:=by
      have:=yjG bx.length _ nd fun k O=>by obtain ⟨p,hp,rfl⟩:=List.mem_map.mp O;exact (hb p hp).1
      rw [length_map] at this;omega
     obtain ⟨lw,eW,kW,lW,rW⟩:=ytg ml nd;have M:∀ p∈lw,p.1<bx.length/\inB p.2:=fun p hp=>by obtain ⟨q,hq,rfl⟩:=kW p hp;exact hb q hq
     obtain ⟨rows',du,wN⟩:=j.next t R.hs;refine ⟨.tup [.str "done",.int x.s.t],⟨ymn bx lw,ykK sp lw,en++[yAc xs1.length x (.tup [.str "done"]) (ls.map ybl) (lw.map ybl) x.s.hs],(xs1++{ x with nth:=x.nth+1,bf:=x.s.hs,rows:=rows',s:=S0 x.s.hs }::xs2).map (yep (ykK sp lw))⟩,fun h g H o X=>v X fun as1 a as2 l X=>?_,⟨yph _ _,by rw [ykL];exact I,yxn wb fun p hp=>(M p hp).2,fun y L=>?_,fun y L=>?_,by show (en++_).length<=n+1;rw [length_append];show en.length+1<=_;omega⟩,by simp,⟨xs1,x,xs2,rfl,rfl,.done ls lw _ _ st SE ⟨rW,M⟩ R.hs.1⟩⟩
     .obtain ⟨h',K,F,B,_⟩:=yER X l I h1 J t C j.nf fr T Z ed eW (fun p hp=>(M p hp).1) eL du (by omega) fun y L=>by
       have:y∈xs1++x::xs2:=by
        rcases List.mem_append.mp L with z|z
        .exact mem_append_left _ z
        .exact mem_append_right _ (mem_cons_of_mem _ z)
       exact ⟨(wx y this).due,(wx y this).nf⟩
      rw [l] at B;exact ⟨h',_,F,B⟩
     .obtain ⟨y',U,e'⟩:=List.mem_map.mp L;rw [<- e'];exact (upd wN y' U).wake
     .obtain ⟨y',U,e'⟩:=List.mem_map.mp L;rw [<- e'];unfold yep;split
      .intro p hp;cases hp
      .exact yCN (E s0 y' U) I.symm fun p hp=>(M p hp).1
    | _=>cases Y
 .refine ⟨.tup [.str "idle"],⟨bx,sp,en,xs1++x::xs2⟩,fun h g H o X=>v X fun as1 a as2 l X=>?_,⟨rfl,I,wb,wx,we,by show en.length<=n+1;omega⟩,rfl,⟨xs1,x,xs2,rfl,rfl,.idle st⟩⟩;exact ⟨h,_,yEM X l (eq_false st),X⟩
end
section
variable {h:AH}{g:HC}{w:Int}{bx sp:List Int}{en:List PV}{as as1 as2:List (Nat×Lc)}{xs xs1 xs2:List HD}{own:List (Nat×Nd)}{x:HD}{a:Nat×Lc}
theorem yxo (X:HH h g w bx sp en as xs own):ydo [.loc g.H] h=some (.lst (bx.map .int),h):=by
 obtain ⟨b,d,c,e⟩:=yds (X.at_.get 0 rfl);delta ydo;show ob (yN _ [.val _] h) fnK=_
 simpa [b,yhG (X.at_.get 1 rfl)]
theorem yzR (X:HH h g w bx sp en as xs own):ydC [.loc g.H] h=some (.lst (sp.map .int),h):=by
 obtain ⟨e,b,c,d⟩:=yds (X.at_.get 0 rfl);delta ydC;show ob (yN _ [.val _] h) fnK=_
 simpa [b,yhG (X.at_.get 2 rfl)]
theorem yCQ (X:HH h g w bx sp en (as1++a::as2) (xs1++x::xs2) own) (l:as1.length=xs1.length):ydn [.loc g.H,.int as1.length] h=some (.int x.nth,h):=by
 obtain ⟨d,e,c⟩:=yET X l;have f:=(ydH e).2.2.1;delta ydn;show ob (yN _ [.val _,.val _] h) fnK=_
 simpa [ycF,yJ (m:="hand_at") c (by rfl'),d,f]
end
section
variable {h:AH}{nbx nsp:Nat}{bx sp:List Int}{ls lw:List (Nat×Int)}
theorem yth {n:Int}:ydq [.int n] h=some (.bl true,h):=by kernel_rfl!
theorem yzS {X v:PV}{l:Int}{p:Nat×Int}(d:h[nbx]?=some (.lst (bx.map .int))) (e:v=ybl p) (h1:l<p.1) (h2:p.1<bx.length) (a:inB p.2):paB [.val X,.val (.loc nbx),.val (.int l),.val v] h=some (.nx [.val X,.val (.loc nbx),.val (.int p.1),.val v],h):=by
 have f:∀ h,yfi ycD [v,.ty "tuple"] h=some (.bl true,h):=fun _=>by subst e;kernel_rfl!
 have c:∀ h,yca [v] h=some (.int 2,h):=fun _=>by subst e;rfl
 have m:∀ h,ybc v (.int 0) h=some (.int p.1,h):=fun _=>by subst e;rfl
 have i:∀ h,ybc v (.int 1) h=some (.int p.2,h):=fun _=>by subst e;rfl
 have b:=by have:=yia d;rwa [length_map] at this
 have j:=eq_true h1;have k:((p.1:Int)<bx.length)=True:=eq_true (by omega);have o:=eq_true a.1;have n:=eq_true a.2;have g:PX.PowOk 2 64=True:=eq_true (by decide);unfold paB
 simpa [f,c,m,i,b,yth,j,k,o,n,g,-ygX]
theorem yti {X:PV}(g:h[nbx]?=some (.lst (bx.map .int))):∀ ls (l:Int) v,Ris ls->(∀ p∈ls,p.1<bx.length/\inB p.2/\l<p.1)->∃ l' f,yeR (yr 3) paB (ls.map ybl) [.val X,.val (.loc nbx),.val (.int l),v] h=some (.nx [.val X,.val (.loc nbx),.val (.int l'),f],h)
 | [],l,v,_,_=>⟨l,v,rfl⟩
 | p::ls,l,v,R,H=>by
  obtain ⟨a,b,c⟩:=H p mem_cons_self;have R:=List.pairwise_cons.mp R;obtain ⟨l',f,e⟩:=yti g ls p.1 _ R.2 fun q d=>⟨(H q (mem_cons_of_mem _ d)).1,(H q (mem_cons_of_mem _ d)).2.1,by have:=R.1 q d;omega⟩
  refine ⟨l',f,?_⟩;show yeR _ _ (ybl p::ls.map ybl) _ h=_;rw [yht rfl (yzS g rfl c a b),e]
theorem ypq (b:h[nbx]?=some (.lst (bx.map .int))) (R:Ris ls) (H:∀ p∈ls,p.1<bx.length/\inB p.2):ydr [.lst (ls.map ybl),.loc nbx] h=some (.bl true,h):=by
 obtain ⟨l',d,e⟩:=yti (X:=.lst (ls.map ybl)) b ls (-1) .no R fun p hp=>⟨(H p hp).1,(H p hp).2,by omega⟩
 have c:xIL (ye 0) [.val _,.val (.loc nbx),.val (.int (-1)),.no] h=some (ls.map ybl,h):=ykz rfl;have a:∀ h,yfi ycD [.lst (ls.map ybl),.ty "list"] h=some (.bl true,h):=fun _=>by kernel_rfl!
 delta ydr;show ob (yl _ _ [.val _,.val _,.no,.no] h) fnK=_
 simpa [a,c,e]
theorem yFc:ycc [.tup [.str "done"],.str "done"] h=some (.bl true,h):=by kernel_rfl!
theorem yFd {p:Str}{v:Int}(hv:inB v):ycc [.tup [.str "fell",.str p,.int v],.str "fell"] h=some (.bl true,h):=by
 have d:∀ h,yfi ycD [.tup [.str "fell",.str p,.int v],.ty "tuple"] h=some (.bl true,h):=fun _=>by kernel_rfl!
 have c:∀ h,yca [.tup [.str "fell",.str p,.int v]] h=some (.int 3,h):=fun _=>rfl
 have j:∀ h,yrF (.tup [.str "fell",.str p,.int v]) (.int 0) h=some _:=fun _=>rfl
 have f:∀ h,yrF (.tup [.str "fell",.str p,.int v]) (.int 1) h=some _:=fun _=>rfl
 have b:∀ h,yrF (.tup [.str "fell",.str p,.int v]) (.int 2) h=some _:=fun _=>rfl
 have g:∀ h,yfi ycD [.str p,.ty "str"] h=some (.bl true,h):=fun _=>by kernel_rfl!
 have l:=eq_true hv.1;have k:=eq_true hv.2;have e:PX.PowOk 2 64=True:=eq_true (by decide);have i:(("fell":Str) = "done")=False:=eq_false (by rfl');delta ycc;show ob (yl _ _ [.val _,.val _] h) fnK=_
 simpa [d,c,j,f,b,g,yth,l,k,e,i,-yyF,-ygX]
end
noncomputable def hC (g:HC) (W:Nat) (S:St) (as:List (Nat×Lc)):List (Nat×Nd):=H5 g S.bx S.sp S.en (as.map (·.1))++CR W as S.xs []
section
variable {h h':AH}{W:Nat}{g:HC}{S:St}{as:List (Nat×Lc)}{own rest:List (Nat×Nd)}
theorem HH.c (X:HH h g W S.bx S.sp S.en as S.xs own):At h (hC g W S as++own):=by have:=X.at_;rw [yiy] at this;exact this
theorem HH.of (A:At h (hC g W S as++own)) (l:LyOk as S.xs):HH h g W S.bx S.sp S.en as S.xs own:=⟨by rw [yiy];exact A,l⟩
theorem At.mem {l:List _}{a:Nat}{d:Nd}(A:At h l) (b:(a,d)∈l):h[a]?=some d:=A.2 _ b
theorem HH.set {m1 m2:List (Nat×Nd)}{n:Nat}{d d':Nd}(X:HH h g W S.bx S.sp S.en as S.xs (m1++(n,d)::m2)):HH (h.set n d') g W S.bx S.sp S.en as S.xs (m1++(n,d')::m2):=by refine .of ?_ X.ly;have A:=X.c;rw [<- append_assoc] at A ⊢;exact At.upd _ A
noncomputable def lwC (nB nS nE:Nat) (bx sp:List Int) (ed:List Nat):List (Nat×Nd):=[(nB,.lst (bx.map .int)),(nS,.lst (sp.map .int)),(nE,.lst ((ed.map fun n:Nat=>(n:Int)).map .int))]
abbrev LX (h:AH) (g:HC) (W:Nat) (S:St) (as:List (Nat×Lc)) (nB nS nE:Nat) (bx sp:List Int) (ed:List Nat):Prop:=HH h g W S.bx S.sp S.en as S.xs (lwC nB nS nE bx sp ed)
end
section
variable {h:AH}{W nB nS nE:Nat}{g:HC}{S:St}{as:List (Nat×Lc)}{bx sp:List Int}{ed:List Nat}{ls lw:List (Nat×Int)}
theorem LX.b (X:LX h g W S as nB nS nE bx sp ed):h[nB]?=some (.lst (bx.map .int)):=X.c.mem (mem_append_right _ mem_cons_self)
theorem LX.s (X:LX h g W S as nB nS nE bx sp ed):h[nS]?=some (.lst (sp.map .int)):=X.c.mem (mem_append_right _ (by simp [lwC]))
theorem LX.e (X:LX h g W S as nB nS nE bx sp ed):h[nE]?=some (.lst ((ed.map fun n:Nat=>(n:Int)).map .int)):=X.c.mem (mem_append_right _ (by simp [lwC]))
theorem LX.setB (X:LX h g W S as nB nS nE bx sp ed) a:LX (h.set nB (.lst (a.map .int))) g W S as nB nS nE a sp ed:=HH.set (m1:=[]) X
theorem LX.setS (X:LX h g W S as nB nS nE bx sp ed) a:LX (h.set nS (.lst (a.map .int))) g W S as nB nS nE bx a ed:=HH.set (m1:=[_]) X
theorem LX.setE (X:LX h g W S as nB nS nE bx sp ed) a:LX (h.set nE (.lst ((a.map fun n:Nat=>(n:Int)).map .int))) g W S as nB nS nE bx sp a:=HH.set (m1:=[_,_]) X
noncomputable def leS (v0 v1 v2 v3:PVar) (nB nS:Nat) (v6 v7:PVar):PSt:=[v0,v1,v2,v3,.val (.loc nB),.val (.loc nS),v6,v7]
def pr2:XG:=yuq 2 (yfX (yr 6) (yfX (yr 7) (ywE)))
theorem yxp {v0 v1 v2 v3 v6 v7:PVar}{p:Nat×Int}:pr2 (ybl p) (leS v0 v1 v2 v3 nB nS v6 v7)=some (leS v0 v1 v2 v3 nB nS (.val (.int p.1)) (.val (.int p.2))):=by kernel_rfl!
theorem ytj {v0 v1 v2 v3:PVar}(f:h[nB]?=some (.lst (bx.map .int))):∀ (ls:List _) v6 v7,(∀ p∈ls,p.1<bx.length/\bx.getD p.1 0=p.2)->∃ d c,yeR pr2 laB (ls.map ybl) (leS v0 v1 v2 v3 nB nS v6 v7) h=some (.nx (leS v0 v1 v2 v3 nB nS d c),h)
 | [],v6,v7,_=>⟨v6,v7,rfl⟩
 | p::ls,v6,v7,H=>by
  obtain ⟨a,b⟩:=H p mem_cons_self;obtain ⟨d,c,e⟩:=ytj f ls _ _ fun q i=>H q (mem_cons_of_mem _ i)
  refine ⟨d,c,?_⟩;have ix:=yde f a;rw [b] at ix;have j:laB (leS v0 v1 v2 v3 nB nS (.val (.int p.1)) (.val (.int p.2))) h=some (.nx (leS v0 v1 v2 v3 nB nS (.val (.int p.1)) (.val (.int p.2))),h):=by
   unfold laB leS
   simpa [ix,-ygH]
  show yeR _ _ (ybl p::ls.map ybl) _ h=_;rw [yht yxp j,e]
theorem ytk {v0 v1 v2 v3:PVar}:∀ (lw:List (Nat×Int)) (h:AH) (bx sp:List Int) (v6 v7:PVar),LX h g W S as nB nS nE bx sp ed->bx.length=sp.length->(∀ p∈lw,p.1<bx.length)->∃ h' v6' v7',yeR pr2 leB (lw.map ybl) (leS v0 v1 v2 v3 nB nS v6 v7) h=some (.nx (leS v0 v1 v2 v3 nB nS v6' v7'),h')/\LX h' g W S as nB nS nE (ymn bx lw) (ykK sp lw) ed
 | [],h,bx,sp,v6,v7,X,_,_=>⟨h,v6,v7,rfl,X⟩
 | p::lw,h,bx,sp,v6,v7,X,hs,H=>by
  have a:=H p mem_cons_self;have X1:=X.setB (bx.set p.1 p.2);have X2:=X1.setS (sp.set p.1 (sp.getD p.1 0+1));have s1:=ygP (h:=h) (xs:=bx) (k:=p.1) (v:=p.2) (eo:=ye 4) (ei:=ye 6) (ev:=ye 7) (ρ:=leS v0 v1 v2 v3 nB nS (.val (.int (p.1:Nat))) (.val (.int p.2))) rfl rfl rfl X.b a;have ix:=yde X1.s (show p.1<sp.length by omega);have s2:=ygP (h:=h.set nB (.lst ((bx.set p.1 p.2).map .int))) (xs:=sp) (k:=p.1) (v:=sp.getD p.1 0+1) (eo:=ye 5) (ei:=ye 6) (ev:=xOp yeu (xOp (ybR) (ye 5) (ye 6)) (xC (.int 1))) (ρ:=leS v0 v1 v2 v3 nB nS (.val (.int (p.1:Nat))) (.val (.int p.2))) (by
   unfold leS
   simpa [ix,-ygH]) rfl rfl X1.s (by omega)
  have bd:leB (leS v0 v1 v2 v3 nB nS (.val (.int (p.1:Nat))) (.val (.int p.2))) h=some (.nx (leS v0 v1 v2 v3 nB nS (.val (.int (p.1:Nat))) (.val (.int p.2))),(h.set nB (.lst ((bx.set p.1 p.2).map .int))).set nS (.lst ((sp.set p.1 (sp.getD p.1 0+1)).map .int))):=by unfold leB;rw [ykb,s1,ycA];exact s2
  obtain ⟨h',v6',v7',e,X'⟩:=ytk (v0:=v0) (v1:=v1) (v2:=v2) (v3:=v3) lw _ _ _ (.val (.int (p.1:Nat))) (.val (.int p.2)) X2 (by rw [length_set,length_set,hs]) fun q hq=>by rw [length_set];exact H q (mem_cons_of_mem _ hq)
  refine ⟨h',v6',v7',?_,X'⟩;show yeR _ _ (ybl p::lw.map ybl) _ h=_;rw [yht yxp bd,e]
end
section
variable {h:AH}{W nB nS nE:Nat}{g:HC}{S:St}{as:List (Nat×Lc)}{bx sp:List Int}{ed:List Nat}{ls lw:List (Nat×Int)}
noncomputable def enT (i j:Nat) (k:PV) (ls lw:List (Nat×Int)) (c:List Int):PV:=.tup [.int (i:Nat),.int (j:Nat),k,.lst (ls.map ybl),.lst (lw.map ybl),.lst (c.map .int)]
theorem entry_eq {i j:Nat}{k:PV}{b:Str}{c:List Int}(X:LX h g W S as nB nS nE bx sp ed) (A:∀ h,ycc [k,.str b] h=some (.bl true,h)) (G:b = "done"\/b = "fell"/\lw=[]) (d:See bx ls) (f:yzP bx.length lw) (c8:c.length=8) (hs:bx.length=sp.length) :
  ∃ h',ydY [enT i j k ls lw c,.int (i:Nat),.int (j:Nat),.str b,.loc nB,.loc nS] h=some (.bl true,h')/\LX h' g W S as nB nS nE (ymn bx lw) (ykK sp lw) ed:=by
 have x:=ypq X.b d.1 fun p hp=>⟨(d.2 p hp).1,(d.2 p hp).2.1⟩
 have r:=ypq X.b f.1 f.2;obtain ⟨E,a⟩:∃ E,E=enT i j k ls lw c:=⟨_,rfl⟩
 obtain ⟨u6,u7,w⟩:=ytj (nS:=nS) (v0:=.val E) (v1:=.val (.int (i:Nat))) (v2:=.val (.int (j:Nat))) (v3:=.val (.str b)) X.b ls .no .no fun p hp=>⟨(d.2 p hp).1,(d.2 p hp).2.2⟩
 obtain ⟨h',H,I,B,u⟩:=ytk (v0:=.val E) (v1:=.val (.int (i:Nat))) (v2:=.val (.int (j:Nat))) (v3:=.val (.str b)) lw h bx sp u6 u7 X hs fun p hp=>(f.2 p hp).1
 refine ⟨h',?_,u⟩;have y:∀ h,yfi ycD [E,.ty "tuple"] h=some (.bl true,h):=fun _=>by subst a;kernel_rfl!
 have n:∀ h,yca [E] h=some (.int 6,h):=fun _=>by subst a;rfl
 have v:∀ h,ybc E (.int 0) h=some (.int (i:Nat),h):=fun _=>by subst a;rfl
 have F:∀ h,ybc E (.int 1) h=some (.int (j:Nat),h):=fun _=>by subst a;rfl
 have D:∀ h,ybc E (.int 2) h=some (k,h):=fun _=>by subst a;rfl
 have l:∀ h,ybc E (.int 3) h=some (.lst (ls.map ybl),h):=fun _=>by subst a;rfl
 have m:∀ h,ybc E (.int 4) h=some (.lst (lw.map ybl),h):=fun _=>by subst a;rfl
 have C:∀ h,ybc E (.int 5) h=some (.lst (c.map .int),h):=fun _=>by subst a;rfl
 have z:∀ h,yfi ycD [.lst (c.map .int),.ty "list"] h=some (.bl true,h):=fun _=>by kernel_rfl!
 have o:yca [.lst (c.map .int)] h=some (.int 8,h):=by symm;rw [length_map,c8];rfl
 have s:xIL (xOp (ybc) (ye 0) (xC (.int 3))) (leS (.val E) (.val (.int (i:Nat))) (.val (.int (j:Nat))) (.val (.str b)) nB nS .no .no) h=some (ls.map ybl,h):=by unfold leS;exact yyx (by simpa [l])
 have t:xIL (xOp (ybc) (ye 0) (xC (.int 4))) (leS (.val E) (.val (.int (i:Nat))) (.val (.int (j:Nat))) (.val (.str b)) nB nS u6 u7) h=some (lw.map ybl,h):=by unfold leS;exact yyx (by simpa [m])
 unfold ydY;rw [yp,<- a];show ob (yl _ (yl _ (yl _ (yl (yhF (xIL (xOp (ybc) (ye 0) (xC (.int 3)))) pr2 laB) (yl (yhF (xIL (xOp (ybc) (ye 0) (xC (.int 4)))) pr2 leB) _)))) (leS (.val E) (.val (.int (i:Nat))) (.val (.int (j:Nat))) (.val (.str b)) nB nS .no .no) h) fnK=_;clear X u d f hs a c8;unfold leS at *;rcases G with rfl|⟨rfl,rfl⟩
 .have q:(("done":Str) = "fell")=False:=eq_false (by rfl')
  simpa [y,n,v,F,D,l,m,C,A,x,r,z,o,q,s,w,t,B,-ygX]
 .have q:∀ h,yDd (.lst (([]:List (Nat×Int)).map ybl)) (.lst []) h=some (.bl false,h):=fun _=>by kernel_rfl!
  simpa [y,n,v,F,D,l,m,C,A,x,r,z,o,q,s,w,t,B,-ygX]
end
section
variable {h:AH}{W nB nS nE n i:Nat}{g:HC}{S S':St}{as:List (Nat×Lc)}{bx sp:List Int}{ed:List Nat}{told:PV}
structure En where
 i:Nat
 j:Nat
 k:PV
 ls:List (Nat×Int)
 lw:List (Nat×Int)
 c:List Int
def En.v (e:En):PV:=enT e.i e.j e.k e.ls e.lw e.c
theorem En.shp {e:En}:Shp e.v:=⟨_,_,_,_,_,_,rfl⟩
noncomputable def RP:List Int->List En->List Int->Prop
 | b,[],b'=>b=b'
 | b,e::es,b'=>(∀ p∈e.ls,p.1<b.length/\b.getD p.1 0=p.2)/\(∀ p∈e.lw,p.1<b.length)/\RP (ymn b e.lw) es b'
theorem RP.snoc {e:En}:∀ {es:List En}{b b':List Int},RP b es b'->(∀ p∈e.ls,p.1<b'.length/\b'.getD p.1 0=p.2)->(∀ p∈e.lw,p.1<b'.length)->RP b (es++[e]) (ymn b' e.lw)
 | [],b,b',r,h1,h2=>by have r:b=b':=r;subst r;exact ⟨h1,h2,rfl⟩
 | f::es,b,b',r,h1,h2=>⟨r.1,r.2.1,RP.snoc r.2.2 h1 h2⟩
structure LV (b0:List Int) (S:St) (es:List En) (ed:List Nat):Prop where
 en:S.en=es.map En.v
 rp:RP b0 es S.bx
 xd:ed=S.xs.map (·.nth)
 sm:ed.sum=es.length
theorem ynV {m:Nat}{xs:List Nat}(e:h[m]?=some (.lst ((xs.map fun n:Nat=>(n:Int)).map .int))):yuG [.loc m] h=some (.int xs.sum,h):=by
 unfold yuG ybE;simp only [e,ygF];have:∀ xs:List Nat,(xs.map fun n:Nat=>(n:Int)).sum=(xs.sum:Int):=fun xs=>by
  induction xs with
  | nil=>rfl
  | cons x xs ih=>simp_all
 rw [<- this]
theorem ywk {x:HD}{d:List _}(X:HH h g W S.bx S.sp S.en as S.xs d) (b:S.xs[i]?=some x):ydn [.loc g.H,.int i] h=some (.int x.nth,h):=by obtain ⟨bx,sp,en,xs⟩:=S;have c:=(List.getElem?_eq_some_iff.mp b).1;obtain ⟨xs1,y,xs2,e,rfl⟩:=yhJ c;dsimp only at e b X c;subst e;obtain ⟨as1,a,as2,rfl,l⟩:=yhJ (by rw [X.ly.len];exact c);rw [getElem?_append_right (Nat.le_refl _),sub_self] at b;cases b;have:=yCQ X l;rwa [l] at this
noncomputable def tnS (g:HC) (i nE nB nS:Nat) (told:PV) (en:List PV):PSt:=[.val (.loc g.H),.val (.int (i:Nat)),.val (.loc nE),.val (.loc nB),.val (.loc nS),.val told,.val (.lst en)]
theorem ymq {h1 h2:AH}{as1 as2:List (Nat×Lc)}{k:Str}{tl:List PV}{b:Bool}{x:HD}{j:List Nat}{o:List En}(X:LX h g W S as nB nS nE S.bx S.sp ed) (D:told=.tup (.str k::tl)) (B:yB [.loc g.H,.int (i:Nat)] h=some (told,h1)) (w:LX h1 g W S' as1 nB nS nE S.bx S.sp ed) (en:S'.en=o.map En.v) (hl:S'.en.length<1000)
  (s:yyE false (.str k) (.lst [.str "done",.str "fell"]) h1=some (.bl b,h1)) (c:(if b then tnA else tnB) (tnS g i nE nB nS told S'.en) h1=some (.nx (tnS g i nE nB nS told S'.en),h2)) (d:LX h2 g W S' as2 nB nS nE S'.bx S'.sp j) (E:S'.xs[i]?=some x) (r:j[i]?=some x.nth) :
  ycd [.loc g.H,.int (i:Nat),.loc nE,.loc nB,.loc nS] h=some (.bl true,h2):=by
 have C:=ykP w (fun e z=>by rw [en] at z;obtain ⟨f,_,rfl⟩:=List.mem_map.mp z;exact En.shp) hl
 have q:∀ h,yfi ycD [told,.ty "tuple"] h=some (.bl true,h):=fun _=>by subst D;kernel_rfl!
 have p:∀ h,yfi ycD [.lst S'.en,.ty "list"] h=some (.bl true,h):=fun _=>by kernel_rfl!
 have A:∀ h,ybc told (.int 0) h=some (.str k,h):=fun _=>by subst D;symm
 have wh:=ywk d E;have ix:ybR (.loc nE) (.int (i:Nat)) h2=some (.int (x.nth:Nat),h2):=by have l:=(List.getElem?_eq_some_iff.mp r).1;have:=yde d.e (i:=i) (by simp_all);rw [this,getD_eq_getElem?_getD,getElem?_map,r];rfl
 have v:=yxo d;have ss:=yzR d;have y:=ypk d.b;have u:=ypk d.s;have t:=X.at_.get 0 rfl;have o1:=w.at_.get 0 rfl;have o2:=d.at_.get 0 rfl;delta ycd;show ob (yl _ _ [.val (.loc g.H),.val _,.val (.loc nE),.val (.loc nB),.val (.loc nS),.no,.no] h) fnK=_;unfold tnS at c;cases b
 .have c:tnB _ h1=_:=c
  simpa [ycF,yJ (m:="turn") t (by rfl'),B,yJ (m:="journal") o1 (by rfl'),C,q,p,A,s,c,yJ (m:="which") o2 (by rfl'),wh,ix,yJ (m:="boxes") o2 (by rfl'),v,y,yJ (m:="stamps") o2 (by rfl'),ss,u,-ygH]
 .have c:tnA _ h1=_:=c
  simpa [ycF,yJ (m:="turn") t (by rfl'),B,yJ (m:="journal") o1 (by rfl'),C,q,p,A,s,c,yJ (m:="which") o2 (by rfl'),wh,ix,yJ (m:="boxes") o2 (by rfl'),v,y,yJ (m:="stamps") o2 (by rfl'),ss,u,-ygH]
end
section
variable {h:AH}{W nB nS nE n i:Nat}{g:HC}{S S':St}{as:List (Nat×Lc)}{ed:List Nat}{told:PV}{b0:List Int}{es:List En}
theorem yzT {en0:List PV}{p:PV}:ybR (.lst (en0++[p])) (.int (-1)) h=some (p,h):=by
 have e:atI (en0++[p]) (-1)=some p:=by unfold atI ixN;simp;rw [if_pos (by omega),show (-1+((en0.length:Int)+1)).toNat=en0.length by omega];simp
 rw [ygH,e];rfl
theorem sum_set:∀ {l:List Nat}{i v:Nat},l[i]?=some v->(l.set i (v+1)).sum=l.sum+1
 | x::l,0,v,e=>by cases e;grind
 | x::l,i+1,v,e=>by have:=sum_set (i:=i) e;show x+(l.set i _).sum=x+l.sum+1;omega
theorem ytl {en:List PV}(hl:en.length<1000):yca [.lst en] h=some (.int en.length,h):=by symm
theorem ydI {h1:AH}{as1:List _}{f:Str}{tl:List PV}{x:HD}(X:LX h g W S as nB nS nE S.bx S.sp ed) (V:LV b0 S es ed) (p:told=.tup (.str f::tl)) (q:yB [.loc g.H,.int i] h=some (told,h1)) (e:LX h1 g W S' as1 nB nS nE S.bx S.sp ed) (hl:S.en.length<1000)
  (r:yyE false (.str f) (.lst [.str "done",.str "fell"]) h1=some (.bl false,h1)) (j:S'.bx=S.bx) (o:S'.sp=S.sp) (a:S'.en=S.en) (l:S'.xs[i]?=some x) (k:S'.xs.map (·.nth)=S.xs.map (·.nth)) :
  ∃ h' c d b,ycd [.loc g.H,.int i,.loc nE,.loc nB,.loc nS] h=some (.bl true,h')/\LX h' g W S' c nB nS nE S'.bx S'.sp b/\LV b0 S' d b:=by
 refine ⟨h1,as1,es,ed,?_,by simp_all,by rw [a];exact V.en,by rw [j];exact V.rp,by rw [k];exact V.xd,V.sm⟩;have s:=ytl (h:=h1) (en:=S'.en) (by rw [a];exact hl);have m:=ynV e.e;rw [V.sm,show es.length=S'.en.length by rw [a,V.en,length_map]] at m;refine ymq X p q e (by rw [a];exact V.en) (by rw [a];exact hl) r ?_ (by rw [j,o];exact e) l (by rw [V.xd,<- k,getElem?_map,l];rfl);show tnB _ h1=_;unfold tnB tnS
 simpa [s,m,-ygX]
theorem yjJ {h1:AH}{as1:List (Nat×Lc)}{b:Str}{tl:List PV}{x x':HD}{k:PV}{ls lw:List (Nat×Int)}{c:List Int}(X:LX h g W S as nB nS nE S.bx S.sp ed) (V:LV b0 S es ed) (y:told=.tup (.str b::tl)) (J:yB [.loc g.H,.int (i:Nat)] h=some (told,h1)) (e:LX h1 g W S' as1 nB nS nE S.bx S.sp ed) (hl:S'.en.length<1000)
  (L:yyE false (.str b) (.lst [.str "done",.str "fell"]) h1=some (.bl true,h1)) (M:∀ h,ycc [k,.str b] h=some (.bl true,h)) (C:b = "done"\/b = "fell"/\lw=[]) (r:See S.bx ls) (A:yzP S.bx.length lw) (c8:c.length=8) (hs:S.bx.length=S.sp.length) (I:S.xs[i]?=some x)
  (q:S'.bx=ymn S.bx lw) (u:S'.sp=ykK S.sp lw) (z:S'.en=S.en++[enT i x.nth k ls lw c]) (F:S'.xs[i]?=some x') (f:x'.nth=x.nth+1) (G:S'.xs.map (·.nth)=(S.xs.map (·.nth)).set i (x.nth+1)) :
  ∃ h' m o d,ycd [.loc g.H,.int (i:Nat),.loc nE,.loc nB,.loc nS] h=some (.bl true,h')/\LX h' g W S' m nB nS nE S'.bx S'.sp d/\LV b0 S' o d:=by
 have ei:ed[i]?=some x.nth:=by rw [V.xd,getElem?_map,I];rfl
 have H:=(List.getElem?_eq_some_iff.mp ei).1;obtain ⟨h2,E,s⟩:=entry_eq (i:=i) (j:=x.nth) (k:=k) (c:=c) e M C r A c8 hs;have t:=s.setE (ed.set i (x.nth+1));have a:S'.en=(es++[En.mk i x.nth k ls lw c]).map En.v:=by rw [z,V.en,map_append];rfl
 refine ⟨_,as1,_,_,?_,by rw [q,u];exact t,a,?_,by rw [G,V.xd],by rw [sum_set ei,V.sm,length_append];rfl⟩
 .have w:=ytl (h:=h1) hl;have B:=ynV e.e;rw [V.sm] at B;have le:S'.en.length=es.length+1:=by rw [a,length_map,length_append];rfl
  rw [le] at w;have D:((((es.length+1:Nat):Nat):Int)=((es.length:Nat):Int)+1)=True:=eq_true rfl;have lt:ybR (.lst S'.en) (.int (-1)) h1=some (enT i x.nth k ls lw c,h1):=by rw [z];exact yzT
  have ix:ybR (.loc nE) (.int (i:Nat)) h1=some (.int (x.nth:Nat),h1):=by have:=yde e.e (i:=i) (by simp_all);rw [this,getD_eq_getElem?_getD,getElem?_map,ei];rfl
  have l:ybR (.loc nE) (.int (i:Nat)) h2=some (.int (x.nth:Nat),h2):=by have:=yde s.e (i:=i) (by simp_all);rw [this,getD_eq_getElem?_getD,getElem?_map,ei];rfl
  have K:∀ h,ybc told (.int 0) h=some (.str b,h):=fun _=>by subst y;symm
  have st:=ygP (h:=h2) (k:=i) (v:=((x.nth+1:Nat):Int)) (eo:=ye 2) (ei:=ye 1) (ev:=xOp yeu (xOp (ybR) (ye 2) (ye 1)) (xC (.int 1))) (ρ:=tnS g i nE nB nS told S'.en) (by
   unfold tnS
   simpa [l,-ygH]
   rfl) rfl rfl s.e (by simp_all)
  rw [show (ed.map _).set i _=(ed.set i (x.nth+1)).map _ by rw [map_set]] at st;refine ymq X y J e a hl L ?_ (by rw [q,u];exact t) F (by rw [f,getElem?_set_self H]);show tnA _ h1=_;unfold tnA;unfold tnS at *
  simpa [w,B,D,lt,ix,K,E,st,-ygH,-ygX]
 .rw [q];exact RP.snoc V.rp (fun p hp=>⟨(r.2 p hp).1,(r.2 p hp).2.2⟩) fun p hp=>(A.2 p hp).1
end
section
variable {h:AH}{W nB nS nE n i:Nat}{g:HC}{S S':St}{as:List (Nat×Lc)}{ed:List Nat}{told:PV}{b0:List Int}{es:List En}
theorem ypr {sp:List Int}{y:HD}:(yep sp y).nth=y.nth:=by unfold yep;split<;>rfl
theorem mid {Z:Type}{a b:List Z}{x:Z}:(a++x::b)[a.length]?=some x:=by rw [getElem?_append_right (Nat.le_refl _),sub_self];rfl
theorem ytm {xs1 xs2:List HD}{x:HD}{v:Nat}:((xs1++x::xs2).map (·.nth)).set xs1.length v=xs1.map (·.nth)++v::xs2.map (·.nth):=by simp_all
theorem ytn (X:LX h g W S as nB nS nE S.bx S.sp ed) (w:SW W n S) (q:n<900) (T:TO W n S i told S') (V:LV b0 S es ed):∃ h' o j d,ycd [.loc g.H,.int (i:Nat),.loc nE,.loc nB,.loc nS] h=some (.bl true,h')/\LX h' g W S' o nB nS nE S'.bx S'.sp d/\LV b0 S' j d:=by
 obtain ⟨h1,as1,b,a⟩:=T.t h g as _ X;have hl:S.en.length<1000:=by have:=w.n;omega
 have f:S'.en.length<1000:=by have:=T.w.n;omega
 have hs:S.bx.length=S.sp.length:=by rw [w.b,w.p]
 obtain ⟨xs1,x,xs2,m,rfl,c⟩:=T.c;have l:S.xs[xs1.length]?=some x:=by rw [m];exact mid
 have st:∀ {x':HD},x'.nth=x.nth->(xs1++x'::xs2).map (·.nth)=S.xs.map (·.nth):=fun e=>by simp_all
 cases c with
 | idle _=>exact ydI X V rfl b a hl (by kernel_rfl!) rfl rfl rfl l rfl
 | gone s' _ _=>exact ydI X V rfl b a hl (by kernel_rfl!) rfl rfl rfl mid (st rfl)
 | anew _ _=>exact ydI X V rfl b a hl (by kernel_rfl!) rfl rfl rfl mid (st rfl)
 | seen k v hs _ _=>exact ydI X V rfl b a hl (by kernel_rfl!) rfl rfl rfl mid (st rfl)
 | slp _ _=>exact ydI X V rfl b a hl (by kernel_rfl!) rfl rfl rfl mid (st rfl)
 | fell p v ls rows' _ hv SE b8=>exact yjJ X V rfl b a f (by kernel_rfl!) (fun _=>yFd hv) (.inr ⟨rfl,rfl⟩) SE ⟨.nil,fun _ h=>by cases h⟩ b8 hs l rfl rfl rfl mid rfl (by rw [m,ytm,map_append,map_cons])
 | done ls lw rows' c _ SE LO c8 =>
  refine yjJ X V rfl b a f (by kernel_rfl!) (fun _=>yFc) (.inl rfl) SE LO c8 hs l rfl rfl rfl (by rw [getElem?_map,mid];rfl) ypr ?_;rw [m,ytm,map_map,map_append,map_cons];have:((fun x:HD=>x.nth) ∘ yep (ykK S.sp lw))=(·.nth):=funext fun _=>ypr
  rw [this]
noncomputable def lwS (v0 v1 v2 v3 v4 v5:PVar) (g:HC) (nB nS nE:Nat) (v10 v11 v12 v13 v14:PVar):PSt:=[v0,v1,v2,v3,v4,v5,.val (.loc g.H),.val (.loc nB),.val (.loc nS),.val (.loc nE),v10,v11,v12,v13,v14]
theorem yto {v0 v1 v2 v3 v4 v5 v11 v12 v13 v14:PVar}(h1:1<=W) (h16:W<=16):∀ (is:List Nat) (n:Nat) (h:AH) (S:St) (as:List (Nat×Lc)) (es:List En) (ed:List Nat) (v10:PVar),SW W n S->n+is.length<=800->(∀ i∈is,i<S.xs.length)->LX h g W S as nB nS nE S.bx S.sp ed->LV b0 S es ed ->
  ∃ h' n' S' as' es' ed' v10',yeR (yr 10) lwB (nV is) (lwS v0 v1 v2 v3 v4 v5 g nB nS nE v10 v11 v12 v13 v14) h=some (.nx (lwS v0 v1 v2 v3 v4 v5 g nB nS nE v10' v11 v12 v13 v14),h')/\SW W n' S'/\n'<900/\LX h' g W S' as' nB nS nE S'.bx S'.sp ed'/\LV b0 S' es' ed'
 | [],n,h,S,as,es,ed,v10,w,hn,_,X,V=>⟨h,n,S,as,es,ed,v10,rfl,w,by simp at hn;omega,X,V⟩
 | i::is,n,h,S,as,es,ed,v10,w,hn,hi,X,V=>by
  rw [length_cons] at hn;obtain ⟨told,S1,T⟩:=yzQ w h1 h16 (by omega) (hi i mem_cons_self);obtain ⟨h2,as2,es2,ed2,q,X2,V2⟩:=ytn X w (by omega) T V;obtain ⟨h',n',S',as',es',ed',v10',e,r⟩:=yto (v0:=v0) (v1:=v1) (v2:=v2) (v3:=v3) (v4:=v4) (v5:=v5) (v11:=v11) (v12:=v12) (v13:=v13) (v14:=v14) h1 h16 is (n+1) h2 S1 as2 es2 ed2 (.val (.int (i:Nat))) T.w (by omega) (fun j hj=>by rw [T.l];exact hi j (mem_cons_of_mem _ hj)) X2 V2;refine ⟨h',n',S',as',es',ed',v10',?_,r⟩;have bd:lwB (lwS v0 v1 v2 v3 v4 v5 g nB nS nE (.val (.int (i:Nat))) v11 v12 v13 v14) h=some (.nx (lwS v0 v1 v2 v3 v4 v5 g nB nS nE (.val (.int (i:Nat))) v11 v12 v13 v14),h2):=by
   unfold lwB lwS;clear X X2 V V2 T w e r
   simpa [q]
  show yeR _ _ (PV.int (i:Nat)::nV is) _ h=_;rw [yht rfl bd,e]
end
theorem yps cs c b:yqj (cs.map PV.int) c b=(yqj cs c b).map .int:=by unfold yqj;rw [length_map,List.map_take,List.map_drop]
theorem yCR {Z:Type}(xs:List Z) (k:Nat):yqj xs none (some k)=xs.take k:=by unfold yqj;simp only [HT.sIx_nat,HT.sIx_none,List.drop_zero,Nat.sub_zero];grind
theorem ytp cs k n:ygM (cs.map PV.int) k n=(ygM cs k n).map .int:=by unfold ygM;rw [length_map,List.map_filterMap];simp_all
section
variable {h:AH}{ns:List Int}
theorem ygQ k:yZ [.scr ns,.int (k:Nat)] h=some (.int (ns.getD k 0),h):=by
 delta yZ;show ob (yl _ _ [.val _,.val _] h) fnK=_
 by_cases e:k<ns.length
 .have b:((k:Int)<ns.length)=True:=eq_true (by omega);have c:atI ns k=some (ns.getD k 0):=yee (by simp_all);have d:ybR (.scr ns) (.int k) h=some (.int (ns.getD k 0),h):=by unfold ybR;simp only [c]
  simpa [b,d,c]
 .have b:((k:Int)<ns.length)=False:=eq_false (by omega);rw [show ns.getD k 0=0 by simp_all]
  simpa [b]
noncomputable def bW (c:Int):Nat:=if c/4%4/3=0 then (1+c%4).toNat else 16
noncomputable def bxV (c:Int) (W:Nat):List Int:=(List.range W).map fun k:Nat=>nb (c+31*(k:Int)*(k:Int))
theorem yFe {c:Int}:1<=bW c/\bW c<=16:=by unfold bW;split<;>omega
theorem yCS {c:Int}{W:Nat}:(bxV c W).length=W/\∀ v∈bxV c W,0<=v/\v<B64:=by refine ⟨by unfold bxV;simp,fun v hv=>?_⟩;obtain ⟨k,_,rfl⟩:=List.mem_map.mp hv;exact ynT _
theorem yzU {c:Int}:ybR (.lst [.int (1+c%4),.int 16]) (.int (c/4%4/3)) h=some (.int (bW c:Nat),h):=by
 unfold bW;have:c/4%4/3=0\/c/4%4/3=1:=by omega
 rcases this with e|e
 .rw [e,if_pos rfl,show (((1+c%4).toNat:Nat):Int)=1+c%4 by omega];rfl
 .rw [e];rfl
theorem ytq {W:Nat}(j:W<=16) {v2:PVar}{ρ:PSt}(b:∀ x,ygW [0] ρ x=[.val x,.val (.scr ns)]):yjp (yT ybv (yc (xOp yeu (yT yZ (yc (ye 1) (yc (xC (.int 1)) yi))) (xOp yuB (xOp yuB (xC (.int 31)) (ye 0)) (ye 0))) yi)) (ygW [0] ρ) (ypH 0 W) h=some ((bxV (ns.getD 1 0) W).map .int,h):=by
 unfold ypH bxV;rw [map_map];refine (yfJ _ _ fun k d=>?_);have d:=List.mem_range.mp d;rw [b,Int.zero_add];have e:yZ [.scr ns,.int 1] h=some _:=ygQ 1;have i:=yCH (h:=h) (c:=ns.getD 1 0+31*k*k);have f:PX.MulOk 31 k=True:=eq_true (by left;decide);have g:PX.MulOk (31*k) k=True:=eq_true (by constructor<;>omega)
 simpa [e,f,g,i]
 rfl
theorem ymr {cs:List Int}{m:Nat}(h1:1<=m) (d:cs.length<=60) {ρ:PSt}(b:∀ x,ygW [4,3] ρ x=[.val x,.val (.lst (cs.map .int)),.val (.int m)]):∀ l:List Nat,∃ hs:List _,yjp (yT ycM (yc (xFz (ytz yze (ye 1) (ygC (ye 0)) (ygC (ye 2)))) yi)) (ygW [4,3] ρ) (l.map fun k:Nat=>.int k) h=some (hs.map fun ds=>.lst (dsV ds),h)/\hs.length=l.length/\∀ ds∈hs,ds.length<=6/\∀ x∈ds,yzI x
 | []=>⟨[],rfl,rfl,fun _ h=>by cases h⟩
 | k::l=>by
  obtain ⟨hs,e,j,g⟩:=ymr h1 d b l;obtain ⟨ds,q,f,i⟩:=yte (h:=h) (cs:=ygM cs k m) (by have:=ymd cs k m;omega);refine ⟨_,?_,by simp_all,List.forall_mem_cons.2 ⟨⟨f,i⟩,g⟩⟩;have sl:∀ h,yze (.lst (cs.map _)) (some _) (some _) h=some _:=fun h=>by show (if 0<=(k:Int)/\1<=(m:Int) then _ else _)=_;rw [if_pos ⟨by omega,by omega⟩,Int.toNat_natCast,Int.toNat_natCast,ytp]
  have c:yT ycM (yc (xFz (ytz yze (ye 1) (ygC (ye 0)) (ygC (ye 2)))) yi) [.val (.int k),.val (.lst (cs.map .int)),.val (.int m)] h=some (.lst (dsV ds),h):=by simpa [sl,q]
  show ob _ _=_;rw [b,c,ycA];rw [e];rfl
end
noncomputable def rwP (ds:List (List Pce)):List (Str×List Rw):=ds.map fun ps=>(dTx ps,dRw ps)
noncomputable def S00 (c:Int) (W:Nat) (hs:List (List (List Pce))):St:=⟨bxV c W,replicate W 0,[],(hs.map rwP).map hd0⟩
theorem sw0 {c:Int}{W:Nat}{hs:List _}(H:∀ ds∈hs,ds.length<=6/\∀ x∈ds,yzI x):SW W 0 (S00 c W hs):=by
 obtain ⟨n,m⟩:=yCS;refine ⟨n,by simp [S00],m,fun x h=>?_,fun x h p hp=>?_,Nat.le_refl _⟩
 .obtain ⟨d,f,rfl⟩:=List.mem_map.mp h;obtain ⟨g,b,rfl⟩:=List.mem_map.mp f;have j:GV Z8:=⟨rfl,fun v hv=>by rw [show v=0 by simpa [Z8] using hv];exact in0⟩
  have k:∀ d∈rwP g,∃ P,yxg d.2 P:=fun d f=>by obtain ⟨ps,hp,rfl⟩:=List.mem_map.mp f;exact ⟨_,yzJ ((H g b).2 ps hp)⟩
  generalize rwP g=ds at *;refine ⟨fun i e=>?_,zero_le _,j,NF0,yFN ds,fun l=>?_⟩
  .have e:=by simpa [hd0] using e
   obtain ⟨P,G⟩:=k _ (getElem_mem e);refine ⟨_,P,?_,G⟩;show (ds.map ysT)[i]?=_;rw [getElem?_map,List.getElem?_eq_getElem e];rfl
  .cases ds with
   | nil=>exact absurd l (by decide)
   | cons d r =>
    obtain ⟨P,G⟩:=k d mem_cons_self;exact ⟨_,P,rfl,G,.start G j⟩
 .obtain ⟨d,f,rfl⟩:=List.mem_map.mp h;cases hp
section
variable {h:AH}{W nT:Nat}{g:HC}{S:St}{as:List (Nat×Lc)}{m1:List (Nat×Nd)}
noncomputable def rpS (v0 v1 v2 v3 v4 v5 v6 v7 v8 v9 v10:PVar) (nT:Nat) (v12 v13 v14:PVar):PSt:=[v0,v1,v2,v3,v4,v5,v6,v7,v8,v9,v10,.val (.loc nT),v12,v13,v14]
def pr3:XG:=yuq 2 (yfX (yr 13) (yfX (yr 14) (ywE)))
noncomputable def rpB:XS:=yl (yhF (xIL (xOp (ybc) (ye 12) (xC (.int 3)))) pr3 raB) (yhF (xIL (xOp (ybc) (ye 12) (xC (.int 4)))) pr3 rbB)
variable {v0 v1 v2 v3 v4 v5 v6 v7 v8 v9 v10:PVar}
theorem yxq {v12 v13 v14:PVar}{p:Nat×Int}:pr3 (ybl p) (rpS v0 v1 v2 v3 v4 v5 v6 v7 v8 v9 v10 nT v12 v13 v14)=some (rpS v0 v1 v2 v3 v4 v5 v6 v7 v8 v9 v10 nT v12 (.val (.int p.1)) (.val (.int p.2))):=by kernel_rfl!
theorem ytr {v12:PVar}{b:List Int}(j:h[nT]?=some (.lst (b.map .int))):∀ (ls:List _) v13 v14,(∀ p∈ls,p.1<b.length/\b.getD p.1 0=p.2)->∃ d c,yeR pr3 raB (ls.map ybl) (rpS v0 v1 v2 v3 v4 v5 v6 v7 v8 v9 v10 nT v12 v13 v14) h=some (.nx (rpS v0 v1 v2 v3 v4 v5 v6 v7 v8 v9 v10 nT v12 d c),h)
 | [],v13,v14,_=>⟨v13,v14,rfl⟩
 | p::ls,v13,v14,H=>by
  obtain ⟨a,l⟩:=H p mem_cons_self;obtain ⟨f,i,e⟩:=ytr j ls _ _ fun q m=>H q (mem_cons_of_mem _ m)
  refine ⟨f,i,?_⟩;have ix:=yde j a;rw [l] at ix;have k:raB (rpS v0 v1 v2 v3 v4 v5 v6 v7 v8 v9 v10 nT v12 (.val (.int p.1)) (.val (.int p.2))) h=some (.nx (rpS v0 v1 v2 v3 v4 v5 v6 v7 v8 v9 v10 nT v12 (.val (.int p.1)) (.val (.int p.2))),h):=by
   unfold raB rpS
   simpa [ix,-ygH]
  show yeR _ _ (ybl p::ls.map ybl) _ h=_;rw [yht yxq k,e]
theorem yts {v12:PVar}:∀ lw (h:AH) b (v13 v14:PVar),HH h g W S.bx S.sp S.en as S.xs (m1++[(nT,.lst (b.map .int))])->(∀ p∈lw,p.1<b.length)->∃ h' c f,yeR pr3 rbB (lw.map ybl) (rpS v0 v1 v2 v3 v4 v5 v6 v7 v8 v9 v10 nT v12 v13 v14) h=some (.nx (rpS v0 v1 v2 v3 v4 v5 v6 v7 v8 v9 v10 nT v12 c f),h')/\HH h' g W S.bx S.sp S.en as S.xs (m1++[(nT,.lst ((ymn b lw).map .int))])
 | [],h,b,v13,v14,X,_=>⟨h,v13,v14,rfl,X⟩
 | p::lw,h,b,v13,v14,X,H=>by
  have a:=H p mem_cons_self;have n:=X.c.mem (a:=nT) (d:=.lst (b.map .int)) (by simp);have s1:=ygP (h:=h) (xs:=b) (k:=p.1) (v:=p.2) (eo:=ye 11) (ei:=ye 13) (ev:=ye 14) (ρ:=rpS v0 v1 v2 v3 v4 v5 v6 v7 v8 v9 v10 nT v12 (.val _) (.val (.int p.2))) rfl rfl rfl n a;obtain ⟨h',j,i,e,l⟩:=yts lw _ (b.set p.1 p.2) _ _ (X.set) fun q m=>by rw [length_set];exact H q (mem_cons_of_mem _ m)
  refine ⟨h',j,i,?_,l⟩;show yeR _ _ (ybl p::lw.map ybl) _ h=_;rw [yht yxq (show rbB _ h=_ from s1),e]
theorem ytt {p:List Int}:∀ (es:List En) (h:AH) (b:List Int) (v12 v13 v14:PVar),HH h g W S.bx S.sp S.en as S.xs (m1++[(nT,.lst (b.map .int))])->RP b es p->∃ h' m k j,yeR (yr 12) rpB (es.map En.v) (rpS v0 v1 v2 v3 v4 v5 v6 v7 v8 v9 v10 nT v12 v13 v14) h=some (.nx (rpS v0 v1 v2 v3 v4 v5 v6 v7 v8 v9 v10 nT m k j),h')/\HH h' g W S.bx S.sp S.en as S.xs (m1++[(nT,.lst (p.map .int))])
 | [],h,b,v12,v13,v14,X,r=>by have r:b=p:=r;subst r;exact ⟨h,v12,v13,v14,rfl,X⟩
 | f::es,h,b,v12,v13,v14,X,r=>by
  obtain ⟨B,r2,y⟩:=r;have s:=X.c.mem (a:=nT) (d:=.lst (b.map .int)) (by simp);obtain ⟨l,i,D⟩:=ytr (v0:=v0) (v1:=v1) (v2:=v2) (v3:=v3) (v4:=v4) (v5:=v5) (v6:=v6) (v7:=v7) (v8:=v8) (v9:=v9) (v10:=v10) (v12:=.val f.v) s f.ls v13 v14 B;obtain ⟨h1,n,c,v,t⟩:=yts (v0:=v0) (v1:=v1) (v2:=v2) (v3:=v3) (v4:=v4) (v5:=v5) (v6:=v6) (v7:=v7) (v8:=v8) (v9:=v9) (v10:=v10) (v12:=.val f.v) f.lw h b l i X r2;obtain ⟨h',c12,q,o,e,u⟩:=ytt es h1 _ (.val f.v) n c t y;refine ⟨h',c12,q,o,?_,u⟩;have C:∀ h,ybc f.v (.int 3) h=some (.lst (f.ls.map ybl),h):=fun _=>rfl
  have A:∀ h,ybc f.v (.int 4) h=some (.lst (f.lw.map ybl),h):=fun _=>rfl
  have w:xIL (xOp (ybc) (ye 12) (xC (.int 3))) (rpS v0 v1 v2 v3 v4 v5 v6 v7 v8 v9 v10 nT (.val f.v) v13 v14) h=some (f.ls.map ybl,h):=by unfold rpS;exact yyx (by simpa [C])
  have z:xIL (xOp (ybc) (ye 12) (xC (.int 4))) (rpS v0 v1 v2 v3 v4 v5 v6 v7 v8 v9 v10 nT (.val f.v) l i) h=some (f.lw.map ybl,h):=by unfold rpS;exact yyx (by simpa [A])
  have x:rpB (rpS v0 v1 v2 v3 v4 v5 v6 v7 v8 v9 v10 nT (.val f.v) v13 v14) h=some (.nx (rpS v0 v1 v2 v3 v4 v5 v6 v7 v8 v9 v10 nT (.val f.v) n c),h1):=by
   unfold rpB;clear e X t u s;unfold rpS at *
   simpa [w,D,z,v]
  show yeR _ _ (f.v::es.map En.v) _ h=_;rw [yht rfl x,e]
end
section
variable {h:AH}
theorem ytu {m:Nat}{xs:List Int}(e:h[m]?=some (.lst (xs.map .int))):yvd (.loc m) (.lst (xs.map .int)) h=some (.bl true,h):=by
 have:pairE (eqP 40 h) h (.loc m) (.lst (xs.map .int))=some true:=by unfold pairE ybE;simp only [e,ykO,if_true]
 unfold yvd;rw [this]
theorem yCT (ns:List Int) (hl:ns.length<=63):∃ h',yvv [.scr ns] h=some (.bl true,h'):=by
 have c0:∀ h,yZ [.scr ns,.int 0] h=some (.int (ns.getD 0 0),h):=fun _=>ygQ 0
 have c1:∀ h,yZ [.scr ns,.int 1] h=some (.int (ns.getD 1 0),h):=fun _=>ygQ 1
 have mi:=yzU (h:=h) (c:=ns.getD 0 0);obtain ⟨w1,C⟩:=yFe (c:=ns.getD 0 0);generalize ns.getD 0 0=a0 at *;generalize hW:bW a0=W at *;obtain ⟨m,em,m2,m4⟩:∃ m:Nat,2+ns.getD 1 0/3%3=(m:Nat)/\2<=m/\m<=4:=⟨(2+ns.getD 1 0/3%3).toNat,by omega,by omega,by omega⟩
 obtain ⟨b1,b2⟩:=yCS (c:=ns.getD 1 0) (W:=W);have bc:=fun ρ K=>ytq (h:=h) (ns:=ns) (W:=W) C (v2:=.no) (ρ:=ρ) K
 obtain ⟨cs,w⟩:∃ cs,yqj ns (some 2) (some 32)=cs:=⟨_,rfl⟩
 have hc:cs.length<=60:=by rw [<- w];unfold yqj;rw [show (2:Int)=((2:Nat):Int) from rfl,show (32:Int)=((32:Nat):Int) from rfl,HT.sIx_nat,HT.sIx_nat,length_take];omega
 have sl:ywF (.scr ns) (some 2) (some 32)=fun h=>some (.lst (cs.map .int),h):=by funext h;show some (Nd.lst (yqj (ns.map PV.int) _ _),h)=_;rw [yps,w]
 obtain ⟨hs,O,E,o⟩:=ymr (h:=h) (cs:=cs) (m:=m) (by omega) hc (ρ:=[.val (.scr ns),.val (.int (W:Nat)),.val (.lst ((bxV (ns.getD 1 0) W).map .int)),.val (.int (m:Nat)),.val (.lst (cs.map .int)),.no,.no,.no,.no,.no,.no,.no,.no,.no,.no]) (fun _=>rfl) (List.range m);rw [List.length_range] at E;have t:=sw0 (c:=ns.getD 1 0) (W:=W) o;obtain ⟨h2,g,H,G,qg,X0⟩:=ysY (h:=h) (bx:=bxV (ns.getD 1 0) W) (hs:=hs.map rwP) (by omega) (by omega) b2 (fun p hp=>by obtain ⟨ds,hd,rfl⟩:=List.mem_map.mp hp;refine ⟨by unfold rwP;rw [length_map];exact (o ds hd).1,fun d S=>?_⟩;obtain ⟨ps,P,rfl⟩:=List.mem_map.mp S;exact (yxk ((o ds hd).2 ps P)).1) (by rw [length_map];omega) (by rw [length_map];omega)
 have hv:hsV (hs.map rwP)=hs.map fun ds=>.lst (dsV ds):=by
  unfold hsV;rw [map_map];refine List.map_congr_left fun ds _=>?_
  show PV.lst ((rwP ds).map txV)=_;unfold rwP;rw [map_map];rfl
 rw [hv] at G;have X:=X0 [] ⟨List.nodup_nil,fun _ h=>by cases h⟩;rw [b1] at X;have A0:At h2 (hC g W (S00 (ns.getD 1 0) W hs) H):=by have:HH h2 g W (S00 (ns.getD 1 0) W hs).bx (S00 (ns.getD 1 0) W hs).sp (S00 (ns.getD 1 0) W hs).en H (S00 (ns.getD 1 0) W hs).xs []:=X;have:=this.c;rwa [append_nil] at this
 obtain ⟨k1,B⟩:∃ k1,h2++[Nd.lst ((bxV (ns.getD 1 0) W).map .int)]=k1:=⟨_,rfl⟩
 obtain ⟨k2,y⟩:∃ k2,k1++[Nd.lst ((replicate W (0:Int)).map .int)]=k2:=⟨_,rfl⟩
 obtain ⟨k3,z⟩:∃ k3,k2++[Nd.lst (((replicate m 0).map fun n:Nat=>(n:Int)).map .int)]=k3:=⟨_,rfl⟩
 have T:=At.new (b:=[]) (Nd.lst ((bxV (ns.getD 1 0) W).map .int)) (by rw [append_nil];exact A0);rw [B] at T;have Z:=At.new (b:=[]) (Nd.lst ((replicate W (0:Int)).map .int)) (by rw [append_nil];exact T);rw [y] at Z;have I:=At.new (b:=[]) (Nd.lst (((replicate m 0).map fun n:Nat=>(n:Int)).map .int)) (by rw [append_nil];exact Z);rw [z] at I;have X3:LX k3 g W (S00 (ns.getD 1 0) W hs) H h2.length k1.length k2.length (S00 (ns.getD 1 0) W hs).bx (S00 (ns.getD 1 0) W hs).sp (replicate m 0):=HH.of (by rw [append_assoc,append_assoc] at I;exact I) X.ly
 have xl:(S00 (ns.getD 1 0) W hs).xs.length=m:=by show ((hs.map rwP).map hd0).length=m;rw [length_map,length_map,E]
 have V0:LV (bxV (ns.getD 1 0) W) (S00 (ns.getD 1 0) W hs) [] (replicate m 0):=⟨rfl,rfl,by refine (List.eq_replicate_iff.mpr ⟨by rw [length_map,xl],fun n hn=>?_⟩).symm;obtain ⟨x,hx,rfl⟩:=List.mem_map.mp hn;obtain ⟨d,_,rfl⟩:=List.mem_map.mp hx;rfl,by simp⟩
 obtain ⟨is,qt,it,L⟩:=ywj (h:=k3) (cs:=ns.take 66) (m:=m) (by omega) m4 (by rw [length_take];omega);obtain ⟨F,n',S',R,es,ed,v10,q4,u,n4,Y,r⟩:=yto (v0:=.val (.scr ns)) (v1:=.val (.int (W:Nat))) (v2:=.val (.lst ((bxV (ns.getD 1 0) W).map .int))) (v3:=.val (.int (m:Nat))) (v4:=.val (.lst (cs.map .int))) (v5:=.val (.lst (hs.map fun ds=>.lst (dsV ds)))) (v11:=.no) (v12:=.no) (v13:=.no) (v14:=.no) w1 C is 0 k3 _ H [] (replicate m 0) .no t (by omega) (fun i hi=>by rw [xl];exact L i hi) X3 V0;obtain ⟨k5,s⟩:∃ k5,F++[Nd.lst ((bxV (ns.getD 1 0) W).map .int)]=k5:=⟨_,rfl⟩
 have J:HH k5 g W S'.bx S'.sp S'.en R S'.xs (lwC h2.length k1.length k2.length S'.bx S'.sp ed++[(F.length,.lst ((bxV (ns.getD 1 0) W).map .int))]):=HH.of (by have A:=At.new (b:=[]) (Nd.lst ((bxV (ns.getD 1 0) W).map .int)) (by rw [append_nil];exact Y.c);rw [s,append_assoc] at A;exact A) Y.ly
 obtain ⟨D,v12,v13,v14,q6,q⟩:=ytt (v0:=.val (.scr ns)) (v1:=.val (.int (W:Nat))) (v2:=.val (.lst ((bxV (ns.getD 1 0) W).map .int))) (v3:=.val (.int (m:Nat))) (v4:=.val (.lst (cs.map .int))) (v5:=.val (.lst (hs.map fun ds=>.lst (dsV ds)))) (v6:=.val (.loc g.H)) (v7:=.val (.loc h2.length)) (v8:=.val (.loc k1.length)) (v9:=.val (.loc k2.length)) (v10:=v10) es k5 _ .no .no .no J r.rp;refine ⟨D,?_⟩;have M:∀ {e:PV},e∈S'.en->Shp e:=fun he=>by rw [r.en] at he;obtain ⟨f,_,rfl⟩:=List.mem_map.mp he;exact En.shp
 have U:S'.en.length<1000:=by have:=u.n;omega
 have j5:ybq [.loc g.H] k5=some (.lst S'.en,k5):=ykP J (fun _=>M) U;have j6:ybq [.loc g.H] D=some (.lst S'.en,D):=ykP q (fun _=>M) U;have o5:k5[g.H]?=some (ypQ g.nu g.ma g.cr g.en):=J.at_.get 0 rfl;have o6:D[g.H]?=some (ypQ g.nu g.ma g.cr g.en):=q.at_.get 0 rfl;have b6:=yxo q;have e6:=ytu (q.c.mem (a:=F.length) (d:=.lst (S'.bx.map .int)) (by simp));have s6:=ynV (q.c.mem (a:=k2.length) (d:=.lst ((ed.map fun n:Nat=>(n:Int)).map .int)) (by simp [lwC]));have n6:=ytl (h:=D) U;rw [r.sm,show es.length=S'.en.length by rw [r.en,length_map]] at s6;have G:ycw [.loc h.length,.lst ((bxV (ns.getD 1 0) W).map .int),.lst (hs.map fun ds=>.lst (dsV ds))] (h++[Nd.ins 15 [] []])=some (.non,h2):=G;have i1:yre (yc (ye 1) (yi)) [.val (.scr ns),.val (.int (W:Nat)),.no,.no,.no,.no,.no,.no,.no,.no,.no,.no,.no,.no,.no] h=some (ypH 0 W,h):=by have:=ywN (h:=h) (show yc (ye 1) (yi) [.val (.scr ns),.val (.int (W:Nat)),.no,.no,.no,.no,.no,.no,.no,.no,.no,.no,.no,.no,.no] h=some ([.int (W:Nat)],h) from rfl) (by omega) (by omega);rwa [Int.toNat_natCast] at this
 have N:=bc [.val (.scr ns),.val (.int (W:Nat)),.no,.no,.no,.no,.no,.no,.no,.no,.no,.no,.no,.no,.no] (fun _=>rfl);have l1:((ypH 0 W).length<=100000)=True:=eq_true (by simp [ypH];omega);have i2:yre (yc (ye 3) (yi)) [.val (.scr ns),.val (.int (W:Nat)),.val (.lst ((bxV (ns.getD 1 0) W).map .int)),.val (.int (m:Nat)),.val (.lst (cs.map .int)),.no,.no,.no,.no,.no,.no,.no,.no,.no,.no] h=some ((List.range m).map fun k:Nat=>.int (k:Nat),h):=by have:=ywN (h:=h) (show yc (ye 3) (yi) [.val (.scr ns),.val (.int (W:Nat)),.val (.lst ((bxV (ns.getD 1 0) W).map .int)),.val (.int (m:Nat)),.val (.lst (cs.map .int)),.no,.no,.no,.no,.no,.no,.no,.no,.no,.no] h=some ([.int (m:Nat)],h) from rfl) (by omega) (by omega);rw [Int.toNat_natCast] at this;rw [this];simp [ypH]
 have l2:(((List.range m).map fun k:Nat=>PV.int (k:Nat)).length<=100000)=True:=eq_true (by simp;omega);have i3:∀ v h,xIL (ye 5) [.val (.scr ns),.val (.int (W:Nat)),.val (.lst ((bxV (ns.getD 1 0) W).map .int)),.val (.int (m:Nat)),.val (.lst (cs.map .int)),.val (.lst (hs.map fun ds=>.lst (dsV ds))),v,.no,.no,.no,.no,.no,.no,.no,.no] h=some (hs.map fun ds=>.lst (dsV ds),h):=fun _ _=>ykz rfl
 have l3:((hs.map fun ds=>PV.lst (dsV ds)).length<=100000)=True:=eq_true (by rw [length_map];omega);have c3:∀ ρ h,yjp (xFz (ygA (yX) (yc (ye 0) (yi)))) (ygW [] ρ) (hs.map fun ds=>.lst (dsV ds)) h=some (hs.map fun ds=>.lst (dsV ds),h):=fun ρ h=>yfJ _ _ fun ds _=>by show xFz (ygA (yX) (yc (ye 0) (yi))) [.val (.lst (dsV ds))] h=_;symm
 have rp:∀ (n:Nat) h,n<=100->yqk (.lst [.int 0]) (.int (n:Nat)) h=some (.lst ((replicate n (0:Int)).map .int),h):=fun n h hn=>by rw [yrw,if_pos (by show _/\_/\1*_<=_;omega),yFO]
 have r1:=fun h=>rp W h (by omega)
 have r2:∀ h,yqk (.lst [.int 0]) (.int (m:Nat)) h=some (.lst (((replicate m 0).map fun n:Nat=>(n:Int)).map .int),h):=fun h=>by rw [rp m h (by omega),List.map_replicate,List.map_replicate,List.map_replicate];rfl
 have tk:ywF (.scr ns) none (some 66)=fun h=>some (.lst ((ns.take 66).map .int),h):=by funext h;show some (Nd.lst (yqj (ns.map PV.int) _ _),h)=_;rw [yps,show (66:Int)=((66:Nat):Int) from rfl,yCR]
 have i4:xIL (yT ydp (yc (xFz (ytz ywF (ye 0) (yhR) (ygC (xC (.int 66))))) (yc (ye 3) (yi)))) (lwS (.val (.scr ns)) (.val (.int (W:Nat))) (.val (.lst ((bxV (ns.getD 1 0) W).map .int))) (.val (.int (m:Nat))) (.val (.lst (cs.map .int))) (.val (.lst (hs.map fun ds=>.lst (dsV ds)))) g h2.length k1.length k2.length .no .no .no .no .no) k3=some (nV is,k3):=by unfold lwS;exact yyx (by simpa [tk,qt,-yBs])
 have i5:xIL (yk 15 "journal" ybq (ye 6) (yi)) (rpS (.val (.scr ns)) (.val (.int (W:Nat))) (.val (.lst ((bxV (ns.getD 1 0) W).map .int))) (.val (.int (m:Nat))) (.val (.lst (cs.map .int))) (.val (.lst (hs.map fun ds=>.lst (dsV ds)))) (.val (.loc g.H)) (.val (.loc h2.length)) (.val (.loc k1.length)) (.val (.loc k2.length)) v10 F.length .no .no .no) k5=some (es.map En.v,k5):=by unfold rpS;rw [<- r.en];exact yyx (by simpa [ycF,yJ (m:="journal") o5 (by rfl'),j5])
 clear X X0 A0 T Z I X3 Y J q V0 r t u o M bc hv j5;unfold lwS at *;unfold rpS at *;rw [qg] at *;delta yvv;show ob (yl _ (yl _ (yl _ (yl _ (yl _ (yl _ (yl _ (yl _ (yl _ (yl (yhF _ (yr 10) lwB) (yl _ (yl (yhF _ (yr 12) rpB) _))))))))))) [.val (.scr ns),.no,.no,.no,.no,.no,.no,.no,.no,.no,.no,.no,.no,.no,.no] h) fnK=_
 simpa [c0,mi,i1,l1,N,c1,em,sl,i2,l2,O,i3,l3,c3,yrP,G,B,r1,y,r2,z,i4,q4,s,i5,q6,ycF,yJ (m:="boxes") o6 (by rfl'),b6,e6,yJ (m:="journal") o6 (by rfl'),j6,n6,s6,-ygH,-yBs,-yrw,-ygX]
end
end
noncomputable def top (i:Nat):Stmt:=PySem.Challenge.pw_retryhall_k61_whole_journal_replayed.main.body.getD i (.Pass ⟨0,0,0,0⟩)
noncomputable abbrev FR:=Str×Str×Stmt×Nat×List Str
abbrev fRw (x q:Str) (s:Stmt) (k:Nat) (n:List Str):FR:=(x,q,s,k,n)
noncomputable abbrev mRw (k:Nat) (x:Str) (n:Nat):Nat×Str×Nat:=(k,x,n)
def r0:FR:=fRw "__init__" "Log.__init__" (inClass (top 8) 0) 1 ["self"]
noncomputable def r1:FR:=fRw "write" "Log.write" (inClass (top 8) 1) 3 ["self","box","number","top"]
def r2:FR:=fRw "own" "Log.own" (inClass (top 8) 2) 2 ["self","box","layer"]
def r3:FR:=fRw "begin" "Log.begin" (inClass (top 8) 3) 1 ["self"]
noncomputable def r4:FR:=fRw "settle" "Log.settle" (inClass (top 8) 4) 1 ["self","top","beneath"]
def r5:FR:=fRw "drop" "Log.drop" (inClass (top 8) 5) 1 ["self"]
noncomputable def r6:FR:=fRw "see" "Log.see" (inClass (top 8) 7) 3 ["self","box","number"]
def r7:FR:=fRw "saw" "Log.saw" (inClass (top 8) 8) 1 ["self"]
def r8:FR:=fRw "wrote" "Log.wrote" (inClass (top 8) 9) 1 ["self","lowest"]
def r9:FR:=fRw "reckon" "reckon" (top 15) 3 ["word","one","other"]
def r10:FR:=fRw "is_whole" "is_whole" (top 16) 1 ["value"]
def r11:FR:=fRw "is_number" "is_number" (top 17) 1 ["value"]
def r12:FR:=fRw "is_made_of" "is_made_of" (top 23) 2 ["text","signs"]
def r13:FR:=fRw "number_of" "number_of" (top 18) 1 ["text","number"]
def r14:FR:=fRw "is_word" "is_word" (top 19) 1 ["text"]
def r15:FR:=fRw "is_slot" "is_slot" (top 20) 1 ["text"]
def r16:FR:=fRw "slot_index" "slot_index" (top 21) 1 ["slot"]
def r17:FR:=fRw "is_name" "is_name" (top 22) 1 ["text"]
noncomputable def r18:FR:=fRw "__init__" "Doer.__init__" (inClass (top 25) 0) 3 ["self","slots","width"]
noncomputable def r19:FR:=fRw "held_in" "Doer.held_in" (inClass (top 25) 1) 2 ["self","slot"]
noncomputable def r20:FR:=fRw "hold" "Doer.hold" (inClass (top 25) 2) 3 ["self","slot","number"]
noncomputable def r21:FR:=fRw "box_at" "Doer.box_at" (inClass (top 25) 3) 2 ["self","place"]
noncomputable def r22:FR:=fRw "do_reckon" "Doer.do_reckon" (inClass (top 25) 4) 5 ["self","word","slot","one","other"]
noncomputable def r23:FR:=fRw "do_put" "Doer.do_put" (inClass (top 25) 5) 3 ["self","place","slot"]
noncomputable def r24:FR:=fRw "sees_at" "Doer.sees_at" (inClass (top 25) 6) 2 ["self","place"]
noncomputable def r25:FR:=fRw "take_own" "Doer.take_own" (inClass (top 25) 7) 3 ["self","slot","place"]
noncomputable def r26:FR:=fRw "take_seen" "Doer.take_seen" (inClass (top 25) 8) 4 ["self","slot","place","numbers","box"]
def r27:FR:=fRw "takes" "takes" (top 27) 2 ["begun_by","row"]
noncomputable def r28:FR:=fRw "__init__" "Run.__init__" (inClass (top 28) 0) 4 ["self","rows","slots","width"]
def r29:FR:=fRw "row" "Run.row" (inClass (top 28) 1) 1 ["self"]
noncomputable def r30:FR:=fRw "is_stale" "Run.is_stale" (inClass (top 28) 2) 2 ["self","stamps"]
noncomputable def r31:FR:=fRw "taker_layer" "Run.taker_layer" (inClass (top 28) 3) 2 ["self","row","layer"]
noncomputable def r32:FR:=fRw "is_looked_over" "Run.is_looked_over" (inClass (top 28) 4) 1 ["self","row"]
noncomputable def r33:FR:=fRw "see_next" "Run.see_next" (inClass (top 28) 5) 3 ["self","numbers","stamps","row","box"]
noncomputable def r34:FR:=fRw "go_plain" "Run.go_plain" (inClass (top 28) 7) 2 ["self","row"]
def r35:FR:=fRw "lead" "Run.lead" (inClass (top 28) 8) 2 ["self","row"]
noncomputable def r36:FR:=fRw "leave" "Run.leave" (inClass (top 28) 10) 2 ["self","row","layer","side","begun_by"]
noncomputable def r37:FR:=fRw "throw" "Run.throw" (inClass (top 28) 9) 2 ["self","row","number","begun_by"]
def r38:FR:=fRw "go" "Run.go" (inClass (top 28) 6) 1 ["self","row"]
def r39:FR:=fRw "state" "Hand.state" (inClass (top 29) 1) 1 ["self"]
noncomputable def r40:FR:=fRw "new_run" "Hand.new_run" (inClass (top 29) 2) 1 ["self","rows"]
noncomputable def r41:FR:=fRw "begin_anew" "Hand.begin_anew" (inClass (top 29) 3) 1 ["self"]
noncomputable def r42:FR:=fRw "fall_asleep" "Hand.fall_asleep" (inClass (top 29) 4) 1 ["self"]
noncomputable def r43:FR:=fRw "go_on" "Hand.go_on" (inClass (top 29) 5) 2 ["self","slots"]
noncomputable def r44:FR:=fRw "__init__" "Hand.__init__" (inClass (top 29) 0) 3 ["self","deeds","width"]
noncomputable def r45:FR:=fRw "__init__" "Let.__init__" (inClass (top 33) 0) 3 ["self","slot","number"]
noncomputable def r46:FR:=fRw "__init__" "Reckon.__init__" (inClass (top 34) 0) 5 ["self","word","slot","one","other"]
noncomputable def r47:FR:=fRw "__init__" "Take.__init__" (inClass (top 35) 0) 3 ["self","slot","place"]
noncomputable def r48:FR:=fRw "__init__" "Put.__init__" (inClass (top 36) 0) 3 ["self","place","slot"]
noncomputable def r49:FR:=fRw "__init__" "If.__init__" (inClass (top 37) 0) 4 ["self","slot","parts","others"]
noncomputable def r50:FR:=fRw "__init__" "Either.__init__" (inClass (top 38) 0) 3 ["self","parts","others"]
noncomputable def r51:FR:=fRw "__init__" "Try.__init__" (inClass (top 39) 0) 5 ["self","parts","name","slot","others"]
noncomputable def r52:FR:=fRw "__init__" "Throw.__init__" (inClass (top 40) 0) 3 ["self","name","slot"]
def r53:FR:=fRw "long" "Let.long" (inClass (top 33) 2) 1 ["self"]
def r54:FR:=fRw "long" "Reckon.long" (inClass (top 34) 2) 1 ["self"]
def r55:FR:=fRw "long" "Take.long" (inClass (top 35) 2) 1 ["self"]
def r56:FR:=fRw "long" "Put.long" (inClass (top 36) 2) 1 ["self"]
def r57:FR:=fRw "long" "Throw.long" (inClass (top 40) 2) 1 ["self"]
def r58:FR:=fRw "long" "Wait.long" (inClass (top 41) 1) 1 ["self"]
def r59:FR:=fRw "list_long" "list_long" (top 31) 1 ["parts"]
def r60:FR:=fRw "long" "If.long" (inClass (top 37) 2) 1 ["self"]
def r61:FR:=fRw "long" "Either.long" (inClass (top 38) 2) 1 ["self"]
def r62:FR:=fRw "long" "Try.long" (inClass (top 39) 2) 1 ["self"]
def r63:FR:=fRw "plain_rows" "plain_rows" (top 46) 1 ["part"]
def r64:FR:=fRw "first_row" "first_row" (top 48) 2 ["part","second"]
def r65:FR:=fRw "rows_between" "rows_between" (top 49) 2 ["part","behind"]
noncomputable def r66:FR:=fRw "list_rows" "list_rows" (top 44) 2 ["parts","first","rows","part"]
def r67:FR:=fRw "part_rows" "part_rows" (top 45) 2 ["part","first"]
noncomputable def r68:FR:=fRw "sided_rows" "sided_rows" (top 47) 2 ["part","first","behind","second","inner","outer"]
def r69:FR:=fRw "rows_of" "rows_of" (top 43) 1 ["deed"]
noncomputable def r70:FR:=fRw "__init__" "Reader.__init__" (inClass (top 55) 0) 2 ["self","words"]
def r71:FR:=fRw "words_of" "words_of" (top 54) 1 ["text"]
def r72:FR:=fRw "ahead" "Reader.ahead" (inClass (top 55) 1) 1 ["self"]
noncomputable def r73:FR:=fRw "taken" "Reader.taken" (inClass (top 55) 2) 1 ["self","word"]
noncomputable def r74:FR:=fRw "pass_over" "Reader.pass_over" (inClass (top 55) 3) 2 ["self","wanted","word"]
noncomputable def r75:FR:=fRw "slot_taken" "Reader.slot_taken" (inClass (top 55) 4) 1 ["self","word"]
noncomputable def r76:FR:=fRw "name_taken" "Reader.name_taken" (inClass (top 55) 5) 1 ["self","word"]
noncomputable def r77:FR:=fRw "number_taken" "Reader.number_taken" (inClass (top 55) 6) 1 ["self","word","number"]
noncomputable def r78:FR:=fRw "reckon_taken" "Reader.reckon_taken" (inClass (top 55) 14) 2 ["self","word","slot","one","other"]
noncomputable def r79:FR:=fRw "plain_taken" "Reader.plain_taken" (inClass (top 55) 13) 2 ["self","word","slot","place","name"]
noncomputable def r80:FR:=fRw "list_taken" "Reader.list_taken" (inClass (top 55) 7) 2 ["self","around","parts"]
noncomputable def r81:FR:=fRw "side_taken" "Reader.side_taken" (inClass (top 55) 8) 2 ["self","around","parts"]
noncomputable def r82:FR:=fRw "part_taken" "Reader.part_taken" (inClass (top 55) 9) 2 ["self","around","word"]
noncomputable def r83:FR:=fRw "if_taken" "Reader.if_taken" (inClass (top 55) 10) 2 ["self","around","slot","parts","others"]
noncomputable def r84:FR:=fRw "either_taken" "Reader.either_taken" (inClass (top 55) 11) 2 ["self","around","parts","others"]
noncomputable def r85:FR:=fRw "try_taken" "Reader.try_taken" (inClass (top 55) 12) 2 ["self","around","parts","name","slot","others"]
def r86:FR:=fRw "read" "read" (top 53) 1 ["text","reader","deed"]
def r87:FR:=fRw "check_boxes" "check_boxes" (top 60) 1 ["boxes"]
def r88:FR:=fRw "rows_of_deeds" "rows_of_deeds" (top 62) 1 ["texts"]
def r89:FR:=fRw "rows_of_hands" "rows_of_hands" (top 61) 1 ["hands"]
noncomputable def r90:FR:=fRw "__init__" "Hall.__init__" (inClass (top 63) 0) 3 ["self","boxes","hands"]
noncomputable def r91:FR:=fRw "hand_at" "Hall.hand_at" (inClass (top 63) 4) 2 ["self","hand"]
def r92:FR:=fRw "state" "Hall.state" (inClass (top 63) 5) 2 ["self","hand"]
def r93:FR:=fRw "which" "Hall.which" (inClass (top 63) 6) 2 ["self","hand"]
def r94:FR:=fRw "boxes" "Hall.boxes" (inClass (top 63) 1) 1 ["self"]
def r95:FR:=fRw "stamps" "Hall.stamps" (inClass (top 63) 2) 1 ["self"]
def r96:FR:=fRw "journal" "Hall.journal" (inClass (top 63) 9) 1 ["self"]
noncomputable def r97:FR:=fRw "wake_stale" "Hall.wake_stale" (inClass (top 63) 13) 1 ["self","member"]
noncomputable def r98:FR:=fRw "end_deed" "Hall.end_deed" (inClass (top 63) 14) 5 ["self","hand","end","laid","slots","member"]
noncomputable def r99:FR:=fRw "lay_down" "Hall.lay_down" (inClass (top 63) 12) 2 ["self","hand","run","laid","pair","box"]
noncomputable def r100:FR:=fRw "looked_over_told" "Hall.looked_over_told" (inClass (top 63) 11) 3 ["self","hand","row_number","member","row","box"]
noncomputable def r101:FR:=fRw "turn" "Hall.turn" (inClass (top 63) 10) 2 ["self","hand","member","row_number"]
noncomputable def r102:FR:=fRw "_law_cell_at" "_law_cell_at" (top 65) 2 ["_law_script","_law_k"]
noncomputable def r103:FR:=fRw "_law_number_by" "_law_number_by" (top 66) 1 ["_law_cell","_law_part"]
noncomputable def r104:FR:=fRw "_law_plain" "_law_plain" (top 67) 2 ["_law_mixed","_law_number","_law_slots","_law_way","_law_word"]
noncomputable def r105:FR:=fRw "_law_piece" "_law_piece" (top 68) 1 ["_law_cell","_law_first","_law_second","_law_number","_law_one","_law_other","_law_way","_law_name","_law_thrower"]
noncomputable def r106:FR:=fRw "_law_deeds" "_law_deeds" (top 69) 1 ["_law_cells","_law_deeds_here","_law_pieces","_law_cell"]
noncomputable def r107:FR:=fRw "_law_turns" "_law_turns" (top 70) 2 ["_law_cells","_law_count","_law_turns_here","_law_cell","_law_part","_law_k"]
def r108:FR:=fRw "_law_whole" "_law_whole" (top 71) 1 ["_law_found"]
noncomputable def r109:FR:=fRw "_law_pairs" "_law_pairs" (top 72) 2 ["_law_found","_law_boxes","_law_last","_law_pair"]
noncomputable def r110:FR:=fRw "_law_is_end" "_law_is_end" (top 73) 2 ["_law_end","_law_word"]
noncomputable def r111:FR:=fRw "_law_entry" "_law_entry" (top 74) 6 ["_law_entry_here","_law_hand","_law_which","_law_word","_law_boxes","_law_stamps","_law_box","_law_number"]
noncomputable def r112:FR:=fRw "_law_turned" "_law_turned" (top 75) 5 ["_law_hall","_law_hand","_law_ended","_law_boxes","_law_stamps","_law_told","_law_found"]
noncomputable def r113:FR:=fRw "law" "law" (top 76) 1 ["_law_script","_law_many","_law_first","_law_count","_law_cells","_law_hands","_law_hall","_law_boxes","_law_stamps","_law_ended","_law_hand","_law_stand","_law_entry_here","_law_box","_law_number"]
noncomputable def fT:List FR:=[r0,r1,r2,r3,r4,r5,r6,r7,r8,r9,r10,r11,r12,r13,r14,r15,r16,r17,r18,r19,r20,r21,r22,r23,r24,r25,r26,r27,r28,r29,r30,r31,r32,r33,r34,r35,r36,r37,r38,r39,r40,r41,r42,r43,r44,r45,r46,r47,r48,r49,r50,r51,r52,r53,r54,r55,r56,r57,r58,r59,r60,r61,r62,r63,r64,r65,r66,r67,r68,r69,r70,r71,r72,r73,r74,r75,r76,r77,r78,r79,r80,r81,r82,r83,r84,r85,r86,r87,r88,r89,r90,r91,r92,r93,r94,r95,r96,r97,r98,r99,r100,r101,r102,r103,r104,r105,r106,r107,r108,r109,r110,r111,r112,r113]
def fR (n:Nat):FR:=fT.getD n r0
def FR.ps (r:FR):List Str:=r.2.2.2.2.take r.2.2.2.1
abbrev fP (n:Nat):List Str:=FR.ps (fR n)
noncomputable def AllP {Z:Type}(p:Z->Prop):List Z->Prop
 | []=>True
 | c::cs=>p c/\AllP p cs
theorem AllP.get {Z:Type}{p:Z->Prop}{d:Z}(hd:p d):∀ {cs:List Z},AllP p cs->∀ k:Nat,p (cs.getD k d)
 | [],_,_=>hd
 | _::_,a,0=>a.1
 | _::_,a,k+1=>AllP.get hd a.2 k
theorem AllP.mem {Z:Type}{p:Z->Prop}:∀ {cs:List Z},AllP p cs->∀ i∈cs,p i
 | c::cs,a,i,hi=>by
  rcases mem_cons.mp hi with rfl|hi
  .exact a.1
  .exact AllP.mem a.2 i hi
theorem yxr:AllP (fun r:FR=>yes r.2.2.2.2 r.ps (ybK r.2.2.1)) fT:=by repeat' first|exact True.intro|refine And.intro ?_ ?_|exact ⟨rfl,rfl,rfl,by rfl',rfl,by rfl',by rfl'⟩
theorem sc (n:Nat) {r:FR}(h:fR n=r:=by rfl):yes r.2.2.2.2 r.ps (ybK r.2.2.1):=h ▸ AllP.get (p:=fun r:FR=>yes r.2.2.2.2 r.ps (ybK r.2.2.1)) yxr.1 yxr n
noncomputable def mT:List (Nat×Str×Nat):=[mRw 1 "long" 53,mRw 2 "long" 54,mRw 3 "long" 55,mRw 4 "long" 56,mRw 5 "long" 60,mRw 6 "long" 61,mRw 7 "long" 62,mRw 8 "long" 57,mRw 9 "long" 58,mRw 11 "write" 1,mRw 11 "own" 2,mRw 11 "begin" 3,mRw 11 "settle" 4,mRw 11 "drop" 5,mRw 11 "see" 6,mRw 11 "saw" 7,mRw 11 "wrote" 8,mRw 12 "held_in" 19,mRw 12 "hold" 20,mRw 12 "box_at" 21,mRw 12 "do_put" 23,mRw 12 "do_reckon" 22,mRw 12 "sees_at" 24,mRw 12 "take_own" 25,mRw 12 "take_seen" 26,mRw 12 "row" 29,mRw 12 "is_stale" 30,mRw 12 "taker_layer" 31,mRw 12 "is_looked_over" 32,mRw 12 "see_next" 33,mRw 12 "go" 38,mRw 12 "go_plain" 34,mRw 12 "lead" 35,mRw 12 "throw" 37,mRw 12 "leave" 36,mRw 14 "state" 39,mRw 14 "new_run" 40,mRw 14 "begin_anew" 41,mRw 14 "fall_asleep" 42,mRw 14 "go_on" 43,mRw 15 "hand_at" 91,mRw 15 "state" 92,mRw 15 "which" 93,mRw 15 "boxes" 94,mRw 15 "stamps" 95,mRw 15 "journal" 96,mRw 15 "wake_stale" 97,mRw 15 "end_deed" 98,mRw 15 "lay_down" 99,mRw 15 "looked_over_told" 100,mRw 15 "turn" 101,mRw 10 "ahead" 72,mRw 10 "taken" 73,mRw 10 "pass_over" 74,mRw 10 "slot_taken" 75,mRw 10 "name_taken" 76,mRw 10 "number_taken" 77,mRw 10 "list_taken" 80,mRw 10 "side_taken" 81,mRw 10 "part_taken" 82,mRw 10 "if_taken" 83,mRw 10 "either_taken" 84,mRw 10 "try_taken" 85,mRw 10 "plain_taken" 79,mRw 10 "reckon_taken" 78]
noncomputable abbrev gRw (x:Str) (n:Nat):Str×Nat:=(x,n)
noncomputable def gT:List (Str×Nat):=[gRw "reckon" 9,gRw "is_whole" 10,gRw "is_number" 11,gRw "is_made_of" 12,gRw "number_of" 13,gRw "is_word" 14,gRw "is_slot" 15,gRw "slot_index" 16,gRw "is_name" 17,gRw "takes" 27,gRw "list_long" 59,gRw "plain_rows" 63,gRw "first_row" 64,gRw "rows_between" 65,gRw "list_rows" 66,gRw "part_rows" 67,gRw "sided_rows" 68,gRw "rows_of" 69,gRw "words_of" 71,gRw "read" 86,gRw "check_boxes" 87,gRw "rows_of_deeds" 88,gRw "rows_of_hands" 89,gRw "_law_cell_at" 102,gRw "_law_number_by" 103,gRw "_law_plain" 104,gRw "_law_piece" 105,gRw "_law_deeds" 106,gRw "_law_turns" 107,gRw "_law_whole" 108,gRw "_law_pairs" 109,gRw "_law_is_end" 110,gRw "_law_entry" 111,gRw "_law_turned" 112,gRw "law" 113]
noncomputable def kT:List (Nat×Nat):=[(1,45),(2,46),(3,47),(4,48),(5,49),(6,50),(7,51),(8,52),(10,70),(11,0),(12,28),(13,18),(14,44),(15,90)]
noncomputable def cT:List Str:=["Part","Let","Reckon","Take","Put","If","Either","Try","Throw","Wait","Reader","Log","Run","Doer","Hand","Hall"]
noncomputable def zT:List Str:=["all","any","bool","int","isinstance","len","list","range","reversed","sorted","str","sum","tuple"]
noncomputable def nT:List (Str×List Nat):=[("stack",[11]),("last_seen",[11]),("held",[12]),("width",[12,14]),("log",[12]),("rows",[12]),("at",[10,12]),("seen_stamps",[12]),("sides",[12]),("deeds",[14]),("nth",[14]),("sleeps",[14]),("before",[14]),("run",[14]),("numbers",[15]),("marks",[15]),("crew",[15]),("entries",[15]),("words",[10]),("slot",[1,2,3,4,5,7,8]),("number",[1]),("place",[3,4]),("parts",[5,6,7]),("others",[5,6,7]),("name",[7,8]),("word",[2]),("one",[2]),("other",[2])]
theorem ml1 {Z:Type}{P:List Z->Prop}(h:∀ a,P [a]):∀ us:List Z,us.length=1->P us
 | [_],_=>h _
theorem ml2 {Z:Type}{P:List Z->Prop}(h:∀ a b,P [a,b]):∀ us:List Z,us.length=2->P us
 | [_,_],_=>h _ _
theorem ml3 {Z:Type}{P:List Z->Prop}(h:∀ a b c,P [a,b,c]):∀ us:List Z,us.length=3->P us
 | [_,_,_],_=>h _ _ _
theorem ml4 {Z:Type}{P:List Z->Prop}(h:∀ a b c d,P [a,b,c,d]):∀ us:List Z,us.length=4->P us
 | [_,_,_,_],_=>h _ _ _ _
theorem ml5 {Z:Type}{P:List Z->Prop}(h:∀ a b c d e,P [a,b,c,d,e]):∀ us:List Z,us.length=5->P us
 | [_,_,_,_,_],_=>h _ _ _ _ _
theorem ml6 {Z:Type}{P:List Z->Prop}(h:∀ a b c d e f,P [a,b,c,d,e,f]):∀ us:List Z,us.length=6->P us
 | [_,_,_,_,_,_],_=>h _ _ _ _ _ _
set_option genInjectivity false in
set_option genSizeOf false in
structure Ads where
 A:Nat->Addr
 fl:Nat->Addr×FuncData
 k_FIGURES:Tok
 k_LETTERS:Tok
 k_MOST_AROUND:Tok
 k_MOST_BOXES:Tok
 k_MOST_DEEDS:Tok
 k_MOST_HANDS:Tok
 k_MOST_ROWS:Tok
 k_SLOTS:Tok
 k_WIDE:Tok
 k_WORDS:Addr
noncomputable abbrev Ads.a (t:Ads) (n:Nat):Addr:=(t.fl n).1
noncomputable abbrev Ads.d (t:Ads) (n:Nat):FuncData:=(t.fl n).2
noncomputable abbrev ypt (K:PySem.W.Frag) (t:Ads):Ck:=⟨K,t.A⟩
structure Txt (K:PySem.W.Frag) (mg:Str->Option Value) (t:Ads):Prop where
 f:∀ n,Fun K (fR n).1 (fR n).2.1 (fR n).2.2.1 (t.a n) (t.d n)
 b:∀ n,Binds K (t.d n) (fP n) []
 G:∀ n,mg (gT.getD n ("reckon",9)).1=some (.ref (t.a (gT.getD n ("reckon",9)).2))
 C:∀ n,mg (cT.getD n "Part")=some (.ref (t.A n))
 J:∀ n,Mk K (t.A (kT.getD n (1,45)).1) (t.a (kT.getD n (1,45)).2)
 M:∀ n,Meth K (t.A (mT.getD n (mRw 1 "long" 53)).1) (mT.getD n (mRw 1 "long" 53)).2.1 (t.a (mT.getD n (mRw 1 "long" 53)).2.2)
 mk_Part:makesIn K (t.A 0)=true
 io_Part:findIn K (.ref (t.A 0)) "__init__" = some (some (.builtin "object.__init__"))
 kp_Part:keepIn K (.ref (t.A 0))=true
 mk_Wait:makesIn K (t.A 9)=true
 io_Wait:findIn K (.ref (t.A 9)) "__init__" = some (some (.builtin "object.__init__"))
 kp_Wait:keepIn K (.ref (t.A 9))=true
 cf_Doer:yvt K (t.A 13) "__init__" (t.a 18)
 cl:∀ k,Cls K (t.A k)
 N:∀ n,∀ k∈(nT.getD n ("stack",[11])).2,Cls K (t.A k)/\NoAttr K (t.A k) (nT.getD n ("stack",[11])).1
 isa:∀ r∈ycD,∀ (H:Hp) (a dx:Addr) (fs:List (Str×V)),H a=some (.ins (t.A r.1) dx fs)->IsI K H (.ref a) (.ref (t.A r.2.1)) r.2.2
 Z:∀ n,mg (zT.getD n "all")=none
 m_FIGURES:mg "FIGURES" = some (.str "0123456789" t.k_FIGURES)
 m_LETTERS:mg "LETTERS" = some (.str "abcdefghijklmnopqrstuvwxyz" t.k_LETTERS)
 m_MOST_AROUND:mg "MOST_AROUND" = some (.int 8 t.k_MOST_AROUND)
 m_MOST_BOXES:mg "MOST_BOXES" = some (.int 16 t.k_MOST_BOXES)
 m_MOST_DEEDS:mg "MOST_DEEDS" = some (.int 6 t.k_MOST_DEEDS)
 m_MOST_HANDS:mg "MOST_HANDS" = some (.int 8 t.k_MOST_HANDS)
 m_MOST_ROWS:mg "MOST_ROWS" = some (.int 80 t.k_MOST_ROWS)
 m_SLOTS:mg "SLOTS" = some (.str "abcdefgh" t.k_SLOTS)
 m_WIDE:mg "WIDE" = some (.int 18446744073709551616 t.k_WIDE)
 m_WORDS:mg "WORDS" = some (.ref t.k_WORDS)
 kt_WORDS:KTp K t.k_WORDS ((["plus","minus","times","less","same"]:List Str).map V.str)
theorem Txt.F {K:PySem.W.Frag}{mg:Str->Option Value}{t:Ads}(T:Txt K mg t) (n:Nat) (r:FR) (h:fR n=r:=by rfl):Fun K r.1 r.2.1 r.2.2.1 (t.a n) (t.d n):=h ▸ T.f n
theorem Txt.k {K:PySem.W.Frag}{mg:Str->Option Value}{t:Ads}(T:Txt K mg t) (n:Nat):keepIn K (.ref (t.a n))=true:=(T.f n).kp
section
variable {P:Program}{w:World}{K:PySem.W.Frag}{mg:Str->Option Value}{base:Heap}{t:Ads}
theorem ydJ {n:Nat}{ck:Ck}{vs:List V}{H:Hp}{Q:VK}{E:XK}(h:spE ck n (fun _ _=>none) vs H Q E):False:=by obtain ⟨_,_,_,_,_,_,_,_,q,_⟩:=h;cases q
theorem ydg {f:Addr}{fd:FuncData}{ps:List Str}{k n:Nat}{ck:Ck}:FnOk P w K mg base CX0 k f fd ps (spE ck n fun _ _=>none):=⟨fun vs H Q E h=>(ydJ h).elim,fun A outer s H args us vs Q E _ _ _ _ h=>(ydJ h).elim⟩
local macro_rules | `(‹($n,$i,$r,$k,$p)›)=>`(FnOk $(Lean.mkIdent `P) $(Lean.mkIdent `w) $(Lean.mkIdent `K) $(Lean.mkIdent `mg) $(Lean.mkIdent `base) CX0 $n ($(Lean.mkIdent `t).a $i) ($(Lean.mkIdent `t).d $i) (FR.ps $r) (spE (ypt $(Lean.mkIdent `K) $(Lean.mkIdent `t)) $k $p))
structure yGn (P:Program) (w:World) (K:PySem.W.Frag) (mg:Str->Option Value) (base:Heap) (t:Ads) (n:Nat):Prop where
 yfP:‹(n+1,59,r59,1,(yW n))›
 yms:‹(n+1,60,r60,1,(yir n))›
 ygm:‹(n+1,61,r61,1,(yeC n))›
 yjK:‹(n+1,62,r62,1,(ygN n))›
 m_long:ynb P w K mg base (n+1) t.A "long" (fun k=>spE (ypt K t) 1 (yha n k))
structure yGo (P:Program) (w:World) (K:PySem.W.Frag) (mg:Str->Option Value) (base:Heap) (t:Ads) (n:Nat):Prop where
 yiE:‹(n+47,66,r66,2,(ycu n))›
 ynW:‹(n+47,67,r67,2,(ydc n))›
 ymt:‹(n+47,68,r68,2,(ydX n))›
structure yGp (P:Program) (w:World) (K:PySem.W.Frag) (mg:Str->Option Value) (base:Heap) (t:Ads) (n:Nat):Prop where
 ydK:‹(n+6,80,r80,2,(ybH n))›
 yfQ:‹(n+6,81,r81,2,(yq n))›
 yfR:‹(n+6,82,r82,2,(yG n))›
 ygR:‹(n+6,83,r83,2,(ybW n))›
 yfb:‹(n+6,84,r84,2,(ybt n))›
 ygn:‹(n+6,85,r85,2,(ybP n))›
variable (T:Txt K mg t)
include T
theorem yiF:FnOk P w K mg base CX0 (0+1) (t.a 45) (t.d 45) (FR.ps r45) (spI (ypt K t) 2 1 yfx):=zin (T.F 45 r45) (sc 45) rfl (by decide) fun cdv Ar outer sh H E hr=>(ybp (yby (T.N 19) z_v) (ydw (yby (T.N 20) z_v)))
theorem ygo:FnOk P w K mg base CX0 (0+1) (t.a 46) (t.d 46) (FR.ps r46) (spI (ypt K t) 4 2 yel):=zin (T.F 46 r46) (sc 46) rfl (by decide) fun cdv Ar outer sh H E hr=>(ybp (yby (T.N 25) z_v) (ybp (yby (T.N 19) z_v) (ybp (yby (T.N 26) z_v) (ydw (yby (T.N 27) z_v)))))
theorem yhu:FnOk P w K mg base CX0 (0+1) (t.a 47) (t.d 47) (FR.ps r47) (spI (ypt K t) 2 3 yeU):=zin (T.F 47 r47) (sc 47) rfl (by decide) fun cdv Ar outer sh H E hr=>(ybp (yby (T.N 19) z_v) (ydw (yby (T.N 21) z_v)))
theorem yiG:FnOk P w K mg base CX0 (0+1) (t.a 48) (t.d 48) (FR.ps r48) (spI (ypt K t) 2 4 yfy):=zin (T.F 48 r48) (sc 48) rfl (by decide) fun cdv Ar outer sh H E hr=>(ybp (yby (T.N 21) z_v) (ydw (yby (T.N 19) z_v)))
theorem yjc:FnOk P w K mg base CX0 (0+1) (t.a 49) (t.d 49) (FR.ps r49) (spI (ypt K t) 3 5 ygf):=zin (T.F 49 r49) (sc 49) rfl (by decide) fun cdv Ar outer sh H E hr=>(ybp (yby (T.N 19) z_v) (ybp (yby (T.N 22) (yck (ycr yE ybi (T.Z 6) (ya z_v yf)))) (ydw (yby (T.N 23) (yck (ycr yE ybi (T.Z 6) (ya z_v yf)))))))
theorem ygp:FnOk P w K mg base CX0 (0+1) (t.a 50) (t.d 50) (FR.ps r50) (spI (ypt K t) 2 6 yem):=zin (T.F 50 r50) (sc 50) rfl (by decide) fun cdv Ar outer sh H E hr=>(ybp (yby (T.N 22) (yck (ycr yE ybi (T.Z 6) (ya z_v yf)))) (ydw (yby (T.N 23) (yck (ycr yE ybi (T.Z 6) (ya z_v yf))))))
theorem yiH:FnOk P w K mg base CX0 (0+1) (t.a 51) (t.d 51) (FR.ps r51) (spI (ypt K t) 4 7 yfz):=zin (T.F 51 r51) (sc 51) rfl (by decide) fun cdv Ar outer sh H E hr=>(ybp (yby (T.N 22) (yck (ycr yE ybi (T.Z 6) (ya z_v yf)))) (ybp (yby (T.N 24) z_v) (ybp (yby (T.N 19) z_v) (ydw (yby (T.N 23) (yck (ycr yE ybi (T.Z 6) (ya z_v yf))))))))
theorem ygS:FnOk P w K mg base CX0 (0+1) (t.a 52) (t.d 52) (FR.ps r52) (spI (ypt K t) 2 8 yeI):=zin (T.F 52 r52) (sc 52) rfl (by decide) fun cdv Ar outer sh H E hr=>(ybp (yby (T.N 24) z_v) (ydw (yby (T.N 19) z_v)))
theorem ynX:‹(0+1,53,r53,1,yjA)›:=zfn (T.F 53 r53) (sc 53) fun cdv Ar outer sh H E hr=>(yd (yh yg))
theorem yjd:‹(0+1,54,r54,1,ygg)›:=zfn (T.F 54 r54) (sc 54) fun cdv Ar outer sh H E hr=>(yd (yh yg))
theorem ymu:‹(0+1,55,r55,1,yip)›:=zfn (T.F 55 r55) (sc 55) fun cdv Ar outer sh H E hr=>(yd (yh yg))
theorem ynY:‹(0+1,56,r56,1,yjB)›:=zfn (T.F 56 r56) (sc 56) fun cdv Ar outer sh H E hr=>(yd (yh yg))
theorem ykU:‹(0+1,57,r57,1,ygZ)›:=zfn (T.F 57 r57) (sc 57) fun cdv Ar outer sh H E hr=>(yd (yh yg))
theorem ymv:‹(0+1,58,r58,1,yiq)›:=zfn (T.F 58 r58) (sc 58) fun cdv Ar outer sh H E hr=>(yd (yh yg))
theorem ykV:∀ n,yGn P w K mg base t n
 | 0=>⟨ydg,ydg,ydg,ydg,fun c=>⟨T.cl c,.inl fun _ _ _ _ h=>ydJ h⟩⟩
 | n+1=>by
  have I:=ykV n;have ydh:=I.yfP;have yCU:=I.yms;have ywl:=I.ygm;have yAd:=I.yjK;have G_long:=I.m_long;exact ⟨zfn (T.F 59 r59) (sc 59) fun cdv Ar outer sh H E hr=>(yd (yh (ycW (yhC rfl) yuH (T.Z 11) (ya (yck (ygY [] (yci z_v) (fun _ _ _ _ _ _=>(yrV z_v G_long)))) yf)))),
   zfn (T.F 60 r60) (sc 60) fun cdv Ar outer sh H E hr=>(yd (yh (yY ybQ ycX (yY ybQ ycX yg (yQ ydh (T.G 10) (T.k 59) (T.b 59) (ya (yC (T.N 22) z_v) yf))) (yQ ydh (T.G 10) (T.k 59) (T.b 59) (ya (yC (T.N 23) z_v) yf))))),
   zfn (T.F 61 r61) (sc 61) fun cdv Ar outer sh H E hr=>(yd (yh (yY ybQ ycX (yY ybQ ycX yg (yQ ydh (T.G 10) (T.k 59) (T.b 59) (ya (yC (T.N 22) z_v) yf))) (yQ ydh (T.G 10) (T.k 59) (T.b 59) (ya (yC (T.N 23) z_v) yf))))),
   zfn (T.F 62 r62) (sc 62) fun cdv Ar outer sh H E hr=>(yd (yh (yY ybQ ycX (yY ybQ ycX yg (yQ ydh (T.G 10) (T.k 59) (T.b 59) (ya (yC (T.N 22) z_v) yf))) (yQ ydh (T.G 10) (T.k 59) (T.b 59) (ya (yC (T.N 23) z_v) yf))))),
   fun c=>⟨T.cl c,match c with|0=>.inl fun _ _ _ _ h=>ydJ h|1=>.inr ⟨_,_,_,(T.M 0),(ynX T).mono (by omega),(T.b 53)⟩|2=>.inr ⟨_,_,_,(T.M 1),(yjd T).mono (by omega),(T.b 54)⟩|3=>.inr ⟨_,_,_,(T.M 2),(ymu T).mono (by omega),(T.b 55)⟩|4=>.inr ⟨_,_,_,(T.M 3),(ynY T).mono (by omega),(T.b 56)⟩|5=>.inr ⟨_,_,_,(T.M 4),I.yms.mono (by omega),(T.b 60)⟩|6=>.inr ⟨_,_,_,(T.M 5),I.ygm.mono (by omega),(T.b 61)⟩|7=>.inr ⟨_,_,_,(T.M 6),I.yjK.mono (by omega),(T.b 62)⟩|8=>.inr ⟨_,_,_,(T.M 7),(ykU T).mono (by omega),(T.b 57)⟩|9=>.inr ⟨_,_,_,(T.M 8),(ymv T).mono (by omega),(T.b 58)⟩|10=>.inl fun _ _ _ _ h=>ydJ h|11=>.inl fun _ _ _ _ h=>ydJ h|12=>.inl fun _ _ _ _ h=>ydJ h|13=>.inl fun _ _ _ _ h=>ydJ h|14=>.inl fun _ _ _ _ h=>ydJ h|15=>.inl fun _ _ _ _ h=>ydJ h|c+16=>.inl fun _ _ _ _ h=>ydJ h⟩⟩
theorem ykW:‹(0+1,63,r63,1,yhb)›:=zfn (T.F 63 r63) (sc 63) fun cdv Ar outer sh H E hr=>(yb (yL (ybj (ycW yI (ydz (K:=ckX _ _) T.isa) (T.Z 4) (ya z_v (ya (yeG (T.C 1)) yf)))) (yd (yh (yck (ycp (ya (ydv (ya yx (ya (yC (T.N 19) z_v) (ya (yC (T.N 20) z_v) yf)))) yf))))) ym) (yb (yL (ybj (ycW yI (ydz (K:=ckX _ _) T.isa) (T.Z 4) (ya z_v (ya (yeG (T.C 2)) yf)))) (yd (yh (yck (ycp (ya (ydv (ya (yC (T.N 25) z_v) (ya (yC (T.N 19) z_v) (ya (yC (T.N 26) z_v) (ya (yC (T.N 27) z_v) yf))))) yf))))) ym) (yb (yL (ybj (ycW yI (ydz (K:=ckX _ _) T.isa) (T.Z 4) (ya z_v (ya (yeG (T.C 3)) yf)))) (yd (yh (yck (ycp (ya (ydv (ya yx (ya (yC (T.N 19) z_v) (ya (yC (T.N 21) z_v) yf)))) yf))))) ym) (yb (yL (ybj (ycW yI (ydz (K:=ckX _ _) T.isa) (T.Z 4) (ya z_v (ya (yeG (T.C 4)) yf)))) (yd (yh (yck (ycp (ya (ydv (ya yx (ya (yC (T.N 21) z_v) (ya (yC (T.N 19) z_v) yf)))) yf))))) ym) (yb (yL (ybj (ycW yI (ydz (K:=ckX _ _) T.isa) (T.Z 4) (ya z_v (ya (yeG (T.C 8)) yf)))) (yd (yh (yck (ycp (ya (ydv (ya yx (ya (yC (T.N 24) z_v) (ya (yC (T.N 19) z_v) yf)))) yf))))) ym) (yb (yL (ybj (ycW yI (ydz (K:=ckX _ _) T.isa) (T.Z 4) (ya z_v (ya (yeG (T.C 9)) yf)))) (yd (yh (yck (ycp (ya (ydv (ya yx yf)) yf))))) ym) (yd (yh (yck (ycp yf))))))))))
theorem ymw:‹(0+1,64,r64,2,yeD)›:=zfn (T.F 64 r64) (sc 64) fun cdv Ar outer sh H E hr=>(yb (yL (ybj (ycW yI (ydz (K:=ckX _ _) T.isa) (T.Z 4) (ya z_v (ya (yeG (T.C 5)) yf)))) (yd (yh (ydv (ya yx (ya (yC (T.N 19) z_v) (ya z_v yf)))))) ym) (yb (yL (ybj (ycW yI (ydz (K:=ckX _ _) T.isa) (T.Z 4) (ya z_v (ya (yeG (T.C 6)) yf)))) (yd (yh (ydv (ya yx (ya z_v yf))))) ym) (yd (yh (ydv (ya yx (ya (yC (T.N 24) z_v) (ya (yC (T.N 19) z_v) (ya z_v yf)))))))))
theorem yiI:‹(0+1,65,r65,2,ydk)›:=zfn (T.F 65 r65) (sc 65) fun cdv Ar outer sh H E hr=>(yb (yL (ybj (ycW yI (ydz (K:=ckX _ _) T.isa) (T.Z 4) (ya z_v (ya (yeG (T.C 5)) yf)))) (yd (yh (yck (ycp (ya (ydv (ya yx (ya z_v yf))) yf))))) ym) (yd (yh (yck (ycp (ya (ydv (ya yx yf)) (ya (ydv (ya yx (ya z_v yf))) yf)))))))
theorem ytv:∀ n,yGo P w K mg base t n
 | 0=>⟨ydg,ydg,ydg⟩
 | n+1=>by
  have I:=ytv n;have yiJ:=I.yiE;have ynZ:=I.ynW;have ymx:=I.ymt;exact ⟨zfn (T.F 66 r66) (sc 66) fun cdv Ar outer sh H E hr=>have nd:=(sc 66 (r:=r66)).nd;(yb (yfK (ycp yf)) (yb (yeH (yci z_v) ycj (yd (yBN (yQ ynZ (T.G 15) (T.k 67) (T.b 67) (ya z_v (ya (yY ybQ ycX z_v (yrX (T.Z 5))) yf)))))) (ygL (yd (yh z_v))))),
   zfn (T.F 67 r67) (sc 67) fun cdv Ar outer sh H E hr=>(yb (yL (ykq (ydO (ybj (ycW yI (ydz (K:=ckX _ _) T.isa) (T.Z 4) (ya z_v (ya (yeG (T.C 5)) yf)))) (ydO (ybj (ycW yI (ydz (K:=ckX _ _) T.isa) (T.Z 4) (ya z_v (ya (yeG (T.C 6)) yf)))) (ydS (ybj (ycW yI (ydz (K:=ckX _ _) T.isa) (T.Z 4) (ya z_v (ya (yeG (T.C 7)) yf)))))))) (yd (yh (yQ ymx (T.G 16) (T.k 68) (T.b 68) (ya z_v (ya z_v yf))))) ym) (yd (yh (yQ (ykW T) (T.G 11) (T.k 63) (T.b 63) (ya z_v yf))))),
   zfn (T.F 68 r68) (sc 68) fun cdv Ar outer sh H E hr=>have nd:=(sc 68 (r:=r68)).nd;(yb (yw (yY ybQ ycX z_v (yrV z_v (ykV T 45).m_long))) (yb (yw (yY yhL ynq z_v (yQ (ykV T 45).yfP (T.G 10) (T.k 59) (T.b 59) (ya (yC (T.N 23) z_v) yf)))) (yb (yw (yQ yiJ (T.G 14) (T.k 66) (T.b 66) (ya (yC (T.N 22) z_v) (ya (yY ybQ ycX z_v yg) yf)))) (yb (yw (yQ yiJ (T.G 14) (T.k 66) (T.b 66) (ya (yC (T.N 23) z_v) (ya z_v yf)))) (yd (yh (yck (yiW yls yrm (yck (yiW yls yrm (yck (yiW yls yrm (yck (ycp (ya (yQ (ymw T) (T.G 12) (T.k 64) (T.b 64) (ya z_v (ya z_v yf))) yf))) z_v)) (yQ (yiI T) (T.G 13) (T.k 65) (T.b 65) (ya z_v (ya z_v yf))))) z_v))))))))⟩
theorem yqb:‹(92+1,69,r69,1,yen)›:=zfn (T.F 69 r69) (sc 69) fun cdv Ar outer sh H E hr=>(yd (yh (yck (yiW yls yrm (yQ (ytv T 45).yiE (T.G 14) (T.k 66) (T.b 66) (ya z_v (ya yg yf))) (yck (ycp (ya (ydv (ya yx yf)) yf)))))))
theorem ygq:‹(0+1,12,r12,2,ydl)›:=zfn (T.F 12 r12) (sc 12) fun cdv Ar outer sh H E hr=>(yd (yh (ycW (yoo rfl) yBa (T.Z 0) (ya (yck (ygY ["signs"] (yBL z_v) (fun _ _ _ _ _ _=>(yeK yly yAX z_v z_v)))) yf))))
theorem ymy:‹(1+1,13,r13,1,yeB)›:=zfn (T.F 13 r13) (sc 13) fun cdv Ar outer sh H E hr=>have nd:=(sc 13 (r:=r13)).nd;(yb (yL (ykq (ydO (ybS (yfj yhl yhl yqi yqi yg (ycW ydQ you (T.Z 5) (ya z_v yf)) yg)) (ydS (ybS (ybj (yQ (ygq T) (T.G 3) (T.k 12) (T.b 12) (ya z_v (ya (yma T.m_FIGURES) yf)))))))) (yd (yh yiV)) ym) (yb (yL (ykq (ymb (yu ybf ycO (ybe ylp yuF z_v yg) yx) (yig (yu yfB ynr z_v yx)))) (yd (yh yiV)) ym) (yb (yw (yrW ylz yAZ (T.Z 3) (ya z_v yf))) (yd (yh (yrU (yu yfp ymI z_v (yfu T.m_WIDE)) z_v yiV))))))
theorem yqc:‹(0+1,14,r14,1,yil)›:=zfn (T.F 14 r14) (sc 14) fun cdv Ar outer sh H E hr=>(yd (yh (yeK ylr yBA z_v (yBS (ss:=["plus","minus","times","less","same"]) T.m_WORDS T.kt_WORDS))))
theorem yqd:‹(0+1,15,r15,1,yim)›:=zfn (T.F 15 r15) (sc 15) fun cdv Ar outer sh H E hr=>(yd (yh (yif (yeK ybf ycO (ycW ydQ you (T.Z 5) (ya z_v yf)) yg) (ykp (yeK yly yAX z_v (yma T.m_SLOTS))))))
theorem yqe:‹(1+1,17,r17,1,yin)›:=zfn (T.F 17 r17) (sc 17) fun cdv Ar outer sh H E hr=>(yd (yh (yif (ynE yhl yhl yqi yqi yg (ycW ydQ you (T.Z 5) (ya z_v yf)) yg) (ykp (yQ (ygq T) (T.G 3) (T.k 12) (T.b 12) (ya z_v (ya (yma T.m_LETTERS) yf)))))))
theorem yiK:‹(0+1,10,r10,1,yek)›:=zfn (T.F 10 r10) (sc 10) fun cdv Ar outer sh H E hr=>(yd (yh (yif (ycW yI (ydz (K:=ckX _ _) T.isa) (T.Z 4) (ya z_v (ya (yhq (T.Z 3)) yf))) (ykp (yBJ (ycW yI (ydz (K:=ckX _ _) T.isa) (T.Z 4) (ya z_v (ya (yhq (T.Z 2)) yf))))))))
theorem ymz:‹(1+1,11,r11,1,ydb)›:=zfn (T.F 11 r11) (sc 11) fun cdv Ar outer sh H E hr=>(yd (yh (yif (yQ (yiK T) (T.G 1) (T.k 10) (T.b 10) (ya z_v yf)) (ykp (ynE yhl yfp yqi ymI yg z_v (yfu T.m_WIDE))))))
theorem ygr:FnOk P w K mg base CX0 (0+1) (t.a 70) (t.d 70) (FR.ps r70) (spI (ypt K t) 1 10 ydd):=zin (T.F 70 r70) (sc 70) rfl (by decide) fun cdv Ar outer sh H E hr=>(ybp (yby (T.N 18) (yck (ycr yE ybi (T.Z 6) (ya z_v yf)))) (ydw (yby (T.N 6) yg)))
theorem yoa:‹(0+1,71,r71,1,yfm)›:=zfn (T.F 71 r71) (sc 71) fun cdv Ar outer sh H E hr=>(yb (yL (yu ybf ycO z_v yx) (yd (yh (yck (ycp yf)))) ym) (yd (yh (yyR PySem.F.plainAttrs_str PySem.F.slot_str_split PySem.F.type_str_split yvu m_split z_v (ya yx yf)))))
theorem ycy:‹(0+1,72,r72,1,ybz)›:=zfn (T.F 72 r72) (sc 72) fun cdv Ar outer sh H E hr=>(yb (yL (yu yfp ymI (yC (T.N 6) z_v) (ycW yD ycC (T.Z 5) (ya (yC (T.N 18) z_v) yf))) (yd (yh (ybe ix_list ybY (yC (T.N 18) z_v) (yC (T.N 6) z_v)))) ym) (yd (yh yiV)))
theorem ycz:‹(1+1,73,r73,1,ybA)›:=zfn (T.F 73 r73) (sc 73) fun cdv Ar outer sh H E hr=>have nd:=(sc 73 (r:=r73)).nd;(yb (yw (yv z_v (T.M 51) (ycy T) (T.b 72))) (yb (yL (yu yoh yuE z_v yiV) (yd ycl) ym) (yb (ybF (T.N 6) z_v (yY ybQ ycX (yC (T.N 6) z_v) yg)) (yd (yh z_v)))))
theorem ybn:‹(2+1,74,r74,2,yR)›:=zfn (T.F 74 r74) (sc 74) fun cdv Ar outer sh H E hr=>have nd:=(sc 74 (r:=r74)).nd;(yb (yw (yv z_v (T.M 52) (ycz T) (T.b 73))) (yd (yL (yu yfB ynr z_v z_v) (yd ycl) ym)))
theorem yH:‹(2+1,75,r75,1,yy)›:=zfn (T.F 75 r75) (sc 75) fun cdv Ar outer sh H E hr=>have nd:=(sc 75 (r:=r75)).nd;(yb (yw (yv z_v (T.M 52) (ycz T) (T.b 73))) (yb (yL (ybS (ybj (yQ (yqd T) (T.G 6) (T.k 15) (T.b 15) (ya z_v yf)))) (yd ycl) ym) (yd (yh z_v))))
theorem ydy:‹(2+1,76,r76,1,ybG)›:=zfn (T.F 76 r76) (sc 76) fun cdv Ar outer sh H E hr=>have nd:=(sc 76 (r:=r76)).nd;(yb (yw (yv z_v (T.M 52) (ycz T) (T.b 73))) (yb (yL (ybS (ybj (yQ (yqe T) (T.G 8) (T.k 17) (T.b 17) (ya z_v yf)))) (yd ycl) ym) (yd (yh z_v))))
theorem yeM:‹(2+1,77,r77,1,ybN)›:=zfn (T.F 77 r77) (sc 77) fun cdv Ar outer sh H E hr=>have nd:=(sc 77 (r:=r77)).nd;(yb (yw (yv z_v (T.M 52) (ycz T) (T.b 73))) (yb (yw (yQ (ymy T) (T.G 4) (T.k 13) (T.b 13) (ya z_v yf))) (yb (yL (yu yoh yuE z_v yiV) (yd ycl) ym) (yd (yh z_v)))))
theorem yeN:‹(3+1,78,r78,2,ybO)›:=zfn (T.F 78 r78) (sc 78) fun cdv Ar outer sh H E hr=>have nd:=(sc 78 (r:=r78)).nd;(yb (yw (yv z_v (T.M 54) (yH T) (T.b 75))) (yb (yw (yv z_v (T.M 54) (yH T) (T.b 75))) (yb (yw (yv z_v (T.M 54) (yH T) (T.b 75))) (yd (yh (yck (yfv (T.J 1) (ygo T) (T.C 2) (T.b 46) (ya z_v (ya z_v (ya z_v (ya z_v yf)))))))))))
theorem yfc:‹(4+1,79,r79,2,yz)›:=zfn (T.F 79 r79) (sc 79) fun cdv Ar outer sh H E hr=>have nd:=(sc 79 (r:=r79)).nd;(yb (yL (yu ybf ycO z_v yx) (yb (yw (yv z_v (T.M 54) (yH T) (T.b 75))) (yd (yh (yck (yfv (T.J 0) (yiF T) (T.C 1) (T.b 45) (ya z_v (ya (yv z_v (T.M 56) (yeM T) (T.b 77)) yf))))))) ym) (yb (yL (yu ybf ycO z_v yx) (yb (yw (yv z_v (T.M 54) (yH T) (T.b 75))) (yd (yh (yck (yfv (T.J 2) (yhu T) (T.C 3) (T.b 47) (ya z_v (ya (yv z_v (T.M 54) (yH T) (T.b 75)) yf))))))) ym) (yb (yL (yu ybf ycO z_v yx) (yb (yw (yv z_v (T.M 54) (yH T) (T.b 75))) (yd (yh (yck (yfv (T.J 3) (yiG T) (T.C 4) (T.b 48) (ya z_v (ya (yv z_v (T.M 54) (yH T) (T.b 75)) yf))))))) ym) (yb (yL (yu ybf ycO z_v yx) (yb (yw (yv z_v (T.M 55) (ydy T) (T.b 76))) (yd (yh (yck (yfv (T.J 7) (ygS T) (T.C 8) (T.b 52) (ya z_v (ya (yv z_v (T.M 54) (yH T) (T.b 75)) yf))))))) ym) (yb (yL (yu ybf ycO z_v yx) (yd (yh (yck (yyQ T.mk_Wait T.io_Wait T.kp_Wait (T.C 9))))) ym) (yb (yL (ybj (yQ (yqc T) (T.G 5) (T.k 14) (T.b 14) (ya z_v yf))) (yd (yh (yt z_v (T.M 64) (yeN T) (T.b 78) (ya z_v yf)))) ym) (yd ycl)))))))
theorem ytw:∀ n,yGp P w K mg base t n
 | 0=>⟨ydg,ydg,ydg,ydg,ydg,ydg⟩
 | n+1=>by
  have I:=ytw n;have yfS:=I.ydK;have ybo:=I.yfQ;have ydL:=I.yfR;have ygT:=I.ygR;have yfd:=I.yfb;have ygs:=I.ygn;exact ⟨zfn (T.F 80 r80) (sc 80) fun cdv Ar outer sh H E hr=>have nd:=(sc 80 (r:=r80)).nd;(yb (yL (ykq (ydO (yu yoh yuE (yv z_v (T.M 51) (ycy T) (T.b 72)) yiV) (ydS (yu ybf ycO (yv z_v (T.M 51) (ycy T) (T.b 72)) yx)))) (yd (yh (yck (ycp yf)))) ym) (yb (yfK (ycp (ya (yt z_v (T.M 59) ydL (T.b 82) (ya z_v yf)) yf))) (yb (yks (yu ybf ycO (yv z_v (T.M 51) (ycy T) (T.b 72)) yx) (yb (yP (yt z_v (T.M 53) (ybn T) (T.b 74) (ya yx yf))) (yd (yoQ (yt z_v (T.M 59) ydL (T.b 82) (ya z_v yf)))))) (ygL (yd (yh z_v)))))),
   zfn (T.F 81 r81) (sc 81) fun cdv Ar outer sh H E hr=>have nd:=(sc 81 (r:=r81)).nd;(yb (yP (yt z_v (T.M 53) (ybn T) (T.b 74) (ya yx yf))) (yb (yw (yt z_v (T.M 57) yfS (T.b 80) (ya z_v yf))) (yb (yP (yt z_v (T.M 53) (ybn T) (T.b 74) (ya yx yf))) (yd (yh z_v))))),
   zfn (T.F 82 r82) (sc 82) fun cdv Ar outer sh H E hr=>have nd:=(sc 82 (r:=r82)).nd;(yb (yL (yu yqB yAV z_v (yfu T.m_MOST_AROUND)) (yd ycl) ym) (yb (yw (yv z_v (T.M 52) (ycz T) (T.b 73))) (yb (yL (yu ybf ycO z_v yx) (yd (yh (yt z_v (T.M 60) ygT (T.b 83) (ya (yY ybQ ycX z_v yg) yf)))) ym) (yb (yL (yu ybf ycO z_v yx) (yd (yh (yt z_v (T.M 61) yfd (T.b 84) (ya (yY ybQ ycX z_v yg) yf)))) ym) (yb (yL (yu ybf ycO z_v yx) (yd (yh (yt z_v (T.M 62) ygs (T.b 85) (ya (yY ybQ ycX z_v yg) yf)))) ym) (yd (yh (yt z_v (T.M 63) (yfc T) (T.b 79) (ya z_v yf))))))))),
   zfn (T.F 83 r83) (sc 83) fun cdv Ar outer sh H E hr=>have nd:=(sc 83 (r:=r83)).nd;(yb (yw (yv z_v (T.M 54) (yH T) (T.b 75))) (yb (yw (yt z_v (T.M 58) ybo (T.b 81) (ya z_v yf))) (yb (yP (yt z_v (T.M 53) (ybn T) (T.b 74) (ya yx yf))) (yb (yw (yt z_v (T.M 58) ybo (T.b 81) (ya z_v yf))) (yd (yh (yck (yfv (T.J 4) (yjc T) (T.C 5) (T.b 49) (ya z_v (ya z_v (ya z_v yf))))))))))),
   zfn (T.F 84 r84) (sc 84) fun cdv Ar outer sh H E hr=>have nd:=(sc 84 (r:=r84)).nd;(yb (yw (yt z_v (T.M 58) ybo (T.b 81) (ya z_v yf))) (yb (yP (yt z_v (T.M 53) (ybn T) (T.b 74) (ya yx yf))) (yb (yw (yt z_v (T.M 58) ybo (T.b 81) (ya z_v yf))) (yd (yh (yck (yfv (T.J 5) (ygp T) (T.C 6) (T.b 50) (ya z_v (ya z_v yf))))))))),
   zfn (T.F 85 r85) (sc 85) fun cdv Ar outer sh H E hr=>have nd:=(sc 85 (r:=r85)).nd;(yb (yw (yt z_v (T.M 58) ybo (T.b 81) (ya z_v yf))) (yb (yP (yt z_v (T.M 53) (ybn T) (T.b 74) (ya yx yf))) (yb (yw (yv z_v (T.M 55) (ydy T) (T.b 76))) (yb (yw (yv z_v (T.M 54) (yH T) (T.b 75))) (yb (yw (yt z_v (T.M 58) ybo (T.b 81) (ya z_v yf))) (yd (yh (yck (yfv (T.J 6) (yiH T) (T.C 7) (T.b 51) (ya z_v (ya z_v (ya z_v (ya z_v yf)))))))))))))⟩
theorem yzV:‹(51+1,86,r86,1,yme)›:=zfn (T.F 86 r86) (sc 86) fun cdv Ar outer sh H E hr=>have nd:=(sc 86 (r:=r86)).nd;(yb (yw (yev (yfv (T.J 8) (ygr T) (T.C 10) (T.b 70) (ya (yQ (yoa T) (T.G 18) (T.k 71) (T.b 71) (ya z_v yf)) yf)))) (yb (yw (yt z_v (T.M 57) (ytw T 45).ydK (T.b 80) (ya yg yf))) (yb (yL (yu yxy yAW (yv z_v (T.M 51) (ycy T) (T.b 72)) yiV) (yd ycl) ym) (yb (yL (yu yqB yAV (yY ybQ ycX (yQ (ykV T 45).yfP (T.G 10) (T.k 59) (T.b 59) (ya z_v yf)) yg) (yfu T.m_MOST_ROWS)) (yd ycl) ym) (yd (yh z_v))))))
theorem yiL:FnOk P w K mg base CX0 (0+1) (t.a 0) (t.d 0) (FR.ps r0) (spI (ypt K t) 0 11 yfw):=zin (T.F 0 r0) (sc 0) rfl (by decide) fun cdv Ar outer sh H E hr=>(ybp (yby (T.N 0) (yev (ycp (ya (yev yoS) yf)))) (ydw (yby (T.N 1) (yev yoS))))
theorem ymA:‹(0+1,1,r1,3,yey)›:=zfn (T.F 1 r1) (sc 1) fun cdv Ar outer sh H E hr=>have nd:=(sc 1 (r:=r1)).nd;(yb (yw (ybe ix_list ybY (yC (T.N 0) z_v) (yBI ylh yrk yg))) (yd (ynG z_v z_v z_v)))
theorem yjL:‹(0+1,2,r2,2,yej)›:=zfn (T.F 2 r2) (sc 2) fun cdv Ar outer sh H E hr=>have nd:=(sc 2 (r:=r2)).nd;(yb (yyW (T.Z 8) (yC (T.N 0) z_v) ycj (yd (yL (yBM z_v z_v) (yd (yh (ywV z_v z_v))) ym))) (yd (yh yiV)))
theorem ymB:‹(0+1,3,r3,1,yez)›:=zfn (T.F 3 r3) (sc 3) fun cdv Ar outer sh H E hr=>(yd (yP (yyR plainAttrs_list PySem.F.slot_list_append PySem.F.type_list_append yeP yrA (yC (T.N 0) z_v) (ya (yev yoS) yf))))
theorem ykX:‹(0+1,4,r4,1,ydU)›:=zfn (T.F 4 r4) (sc 4) fun cdv Ar outer sh H E hr=>have nd:=(sc 4 (r:=r4)).nd;(yb (yw (yvn plainAttrs_list slot_list_pop type_list_pop yon yoB (yC (T.N 0) z_v))) (yb (yw (ybe ix_list ybY (yC (T.N 0) z_v) (yBI ylh yrk yg))) (yd (yP (yyR PySem.F.plainAttrs_dict PySem.F.slot_dict_update PySem.F.type_dict_update yBR yEB z_v (ya z_v yf))))))
theorem yob:‹(0+1,5,r5,1,yfl)›:=zfn (T.F 5 r5) (sc 5) fun cdv Ar outer sh H E hr=>(yd (yP (yvn plainAttrs_list slot_list_pop type_list_pop yon yoB (yC (T.N 0) z_v))))
theorem yqf:‹(0+1,6,r6,3,ygd)›:=zfn (T.F 6 r6) (sc 6) fun cdv Ar outer sh H E hr=>(yd (ynG (yC (T.N 1) z_v) z_v z_v))
theorem yqg:‹(0+1,7,r7,1,yge)›:=zfn (T.F 7 r7) (sc 7) fun cdv Ar outer sh H E hr=>(yd (yh (yck (PXS.z_sortI (yC (T.N 1) z_v) (T.Z 9)))))
theorem ymC:‹(0+1,8,r8,1,yeA)›:=zfn (T.F 8 r8) (sc 8) fun cdv Ar outer sh H E hr=>have nd:=(sc 8 (r:=r8)).nd;(yb (yw (ybe ix_list ybY (yC (T.N 0) z_v) yg)) (yd (yh (yck (PXS.z_sortI z_v (T.Z 9))))))
theorem ygt:‹(0+1,16,r16,1,ydV)›:=zfn (T.F 16 r16) (sc 16) fun cdv Ar outer sh H E hr=>(yd (yh (yyR PySem.F.plainAttrs_str PySem.F.slot_str_find PySem.F.type_str_find yyZ yuI (yma T.m_SLOTS) (ya z_v yf))))
theorem ybJ:‹(1+1,19,r19,2,ybg)›:=zfn (T.F 19 r19) (sc 19) fun cdv Ar outer sh H E hr=>(yd (yh (ybe ix_list ybY (yC (T.N 2) z_v) (yQ (ygt T) (T.G 7) (T.k 16) (T.b 16) (ya z_v yf)))))
theorem ydt:‹(1+1,20,r20,3,ycb)›:=zfn (T.F 20 r20) (sc 20) fun cdv Ar outer sh H E hr=>(yd (yfL z_v (yC (T.N 2) z_v) (yQ (ygt T) (T.G 7) (T.k 16) (T.b 16) (ya z_v yf))))
theorem ycG:‹(2+1,21,r21,2,ybM)›:=zfn (T.F 21 r21) (sc 21) fun cdv Ar outer sh H E hr=>(yd (yh (yY ybD ycJ (yt z_v (T.M 17) (ybJ T) (T.b 19) (ya z_v yf)) (yC (T.N 3) z_v))))
theorem yhv:FnOk P w K mg base CX0 (2+1) (t.a 18) (t.d 18) (FR.ps r18) (spJ (ypt K t) 2 12 yeT):=yGf (T.F 18 r18) (sc 18) rfl (by decide) fun cdv Ar outer sh H E hr=>(ybp (yby (T.N 2) (yev (ycr yE ybi (T.Z 6) (ya z_v yf)))) (ybp (yby (T.N 3) z_v) (ydw (yby (T.N 4) (yev (yyX (T.J 9) (yiL T) (T.C 11) (T.b 0)))))))
theorem ytx:‹(0+1,9,r9,3,yhH)›:=zfn (T.F 9 r9) (sc 9) fun cdv Ar outer sh H E hr=>(yb (yL (yu ybf ycO z_v yx) (yd (yh (yY ybD ycJ (yY ybQ ycX z_v z_v) (yfu T.m_WIDE)))) ym) (yb (yL (yu ybf ycO z_v yx) (yd (yh (yY ybD ycJ (yY yhL ynq z_v z_v) (yfu T.m_WIDE)))) ym) (yb (yL (yu ybf ycO z_v yx) (yd (yh (yY ybD ycJ (yY yjk ypI z_v z_v) (yfu T.m_WIDE)))) ym) (yb (yL (yu ybf ycO z_v yx) (yd (yh (yrU (yu yfp ymI z_v z_v) yg yg))) ym) (yd (yh (yrU (yu ybf ycO z_v z_v) yg yg)))))))
theorem ygU:‹(2+1,22,r22,5,yce)›:=zfn (T.F 22 r22) (sc 22) fun cdv Ar outer sh H E hr=>(yd (yP (yt z_v (T.M 18) (ydt T) (T.b 20) (ya z_v (ya (yQ (ytx T) (T.G 0) (T.k 9) (T.b 9) (ya z_v (ya (yt z_v (T.M 17) (ybJ T) (T.b 19) (ya z_v yf)) (ya (yt z_v (T.M 17) (ybJ T) (T.b 19) (ya z_v yf)) yf)))) yf)))))
theorem yje:‹(3+1,23,r23,3,ycS)›:=zfn (T.F 23 r23) (sc 23) fun cdv Ar outer sh H E hr=>(yd (yP (yt (yC (T.N 4) z_v) (T.M 9) (ymA T) (T.b 1) (ya (yt z_v (T.M 19) (ycG T) (T.b 21) (ya z_v yf)) (ya (yt z_v (T.M 17) (ybJ T) (T.b 19) (ya z_v yf)) yf)))))
theorem yiM:‹(3+1,24,r24,2,ydi)›:=zfn (T.F 24 r24) (sc 24) fun cdv Ar outer sh H E hr=>(yd (yh (yeK yoh yuE (yt (yC (T.N 4) z_v) (T.M 10) (yjL T) (T.b 2) (ya (yt z_v (T.M 19) (ycG T) (T.b 21) (ya z_v yf)) yf)) yiV)))
theorem yhw:‹(3+1,25,r25,3,ycs)›:=zfn (T.F 25 r25) (sc 25) fun cdv Ar outer sh H E hr=>(yd (yP (yt z_v (T.M 18) (ydt T) (T.b 20) (ya z_v (ya (yt (yC (T.N 4) z_v) (T.M 10) (yjL T) (T.b 2) (ya (yt z_v (T.M 19) (ycG T) (T.b 21) (ya z_v yf)) yf)) yf)))))
theorem ygV:‹(3+1,26,r26,4,ycH)›:=zfn (T.F 26 r26) (sc 26) fun cdv Ar outer sh H E hr=>have nd:=(sc 26 (r:=r26)).nd;(yb (yw (yt z_v (T.M 19) (ycG T) (T.b 21) (ya z_v yf))) (yb (yP (yt (yC (T.N 4) z_v) (T.M 14) (yqf T) (T.b 6) (ya z_v (ya (ybe ix_list ybY z_v z_v) yf)))) (yd (yP (yt z_v (T.M 18) (ydt T) (T.b 20) (ya z_v (ya (ybe ix_list ybY z_v z_v) yf)))))))
theorem ywm:‹(0+1,27,r27,2,yio)›:=zfn (T.F 27 r27) (sc 27) fun cdv Ar outer sh H E hr=>(yb (yL (yu ybf ycO (ybe ix_tup yU z_v yg) yx) (yd (yh (yeK ybf ycO (ybe ix_tup yU z_v yg) yx))) ym) (yd (yh (yif (yeK ybf ycO (ybe ix_tup yU z_v yg) yx) (ykp (yeK ybf ycO (ybe ix_tup yU z_v yg) (ybe ix_tup yU z_v yg)))))))
theorem yiN:FnOk P w K mg base CX0 (4+1) (t.a 28) (t.d 28) (FR.ps r28) (spI (ypt K t) 3 12 yeh):=zin (T.F 28 r28) (sc 28) rfl (by decide) fun cdv Ar outer sh H E hr=>(ybp (yzb T.cf_Doer (T.C 13) (yhv T) (T.b 18) (ya z_v (ya z_v yf))) (ybp (yby (T.N 5) z_v) (ybp (yby (T.N 6) yg) (ybp (yby (T.N 7) (yev yoS)) (ydw (yby (T.N 8) (yev (ycp yf))))))))
theorem yfo:‹(0+1,29,r29,1,ydF)›:=zfn (T.F 29 r29) (sc 29) fun cdv Ar outer sh H E hr=>(yd (yh (ybe ix_list ybY (yC (T.N 5) z_v) (yC (T.N 6) z_v))))
theorem yfe:‹(0+1,30,r30,2,ycE)›:=zfn (T.F 30 r30) (sc 30) fun cdv Ar outer sh H E hr=>(yd (yh (ycW (ypc rfl) yBH (T.Z 1) (ya (yck (yzd ["stamps","self"] (yC (T.N 7) z_v) (fun _ _ _ _ _ _=>(yeK yfB ynr (ybe ix_list ybY z_v z_v) (ywV (yC (T.N 7) z_v) z_v))))) yf))))
theorem yec:‹(1+1,31,r31,2,ybm)›:=zfn (T.F 31 r31) (sc 31) fun cdv Ar outer sh H E hr=>have nd:=(sc 31 (r:=r31)).nd;(yb (yw (ycW yD ycC (T.Z 5) (ya (yC (T.N 8) z_v) yf))) (yb (yks (ykq (ymb (yu yqB yAV z_v yg) (yig (ybS (ybj (yQ (ywm T) (T.G 9) (T.k 27) (T.b 27) (ya (ybe ix_tup yU (ybe ix_list ybY (yC (T.N 8) z_v) (yY yhL ynq z_v yg)) yg) (ya z_v yf)))))))) (yd (yw (yY yhL ynq z_v yg)))) (yd (yh z_v))))
theorem yff:‹(4+1,32,r32,1,ybx)›:=zfn (T.F 32 r32) (sc 32) fun cdv Ar outer sh H E hr=>have nd:=(sc 32 (r:=r32)).nd;(yb (yw (yv z_v (T.M 25) (yfo T) (T.b 29))) (yb (yL (yu ybf ycO (ybe ix_tup yU z_v yg) yx) (yd (yh (yt z_v (T.M 22) (yiM T) (T.b 24) (ya (ybe ix_tup yU z_v yg) yf)))) ym) (yb (yL (ykq (ydO (yu ybf ycO (ybe ix_tup yU z_v yg) yx) (ydS (yu ybf ycO (ybe ix_tup yU z_v yg) yx)))) (yd (yh (yeK ybf ycO (yt z_v (T.M 27) (yec T) (T.b 31) (ya z_v yf)) yg))) ym) (yd (yh (yeK ybf ycO (ybe ix_tup yU z_v yg) yx))))))
theorem yiO:‹(4+1,33,r33,3,ydj)›:=zfn (T.F 33 r33) (sc 33) fun cdv Ar outer sh H E hr=>have nd:=(sc 33 (r:=r33)).nd;(yb (yw (yv z_v (T.M 25) (yfo T) (T.b 29))) (yb (yw (yt z_v (T.M 19) (ycG T) (T.b 21) (ya (ybe ix_tup yU z_v yg) yf))) (yb (ynG (yC (T.N 7) z_v) z_v (ybe ix_list ybY z_v z_v)) (yb (yP (yt z_v (T.M 24) (ygV T) (T.b 26) (ya (ybe ix_tup yU z_v yg) (ya (ybe ix_tup yU z_v yg) (ya z_v yf))))) (yb (ybF (T.N 6) z_v (yY ybQ ycX (yC (T.N 6) z_v) yg)) (yd (yh z_v)))))))
theorem yiP:‹(4+1,34,r34,2,yF)›:=zfn (T.F 34 r34) (sc 34) fun cdv Ar outer sh H E hr=>(yd (yL (yu ybf ycO (ybe ix_tup yU z_v yg) yx) (yd (yP (yt z_v (T.M 18) (ydt T) (T.b 20) (ya (ybe ix_tup yU z_v yg) (ya (ybe ix_tup yU z_v yg) yf))))) (yd (yL (yu ybf ycO (ybe ix_tup yU z_v yg) yx) (yd (yP (yt z_v (T.M 23) (yhw T) (T.b 25) (ya (ybe ix_tup yU z_v yg) (ya (ybe ix_tup yU z_v yg) yf))))) (yd (yL (yu ybf ycO (ybe ix_tup yU z_v yg) yx) (yd (yP (yt z_v (T.M 20) (yje T) (T.b 23) (ya (ybe ix_tup yU z_v yg) (ya (ybe ix_tup yU z_v yg) yf))))) (yd (yP (yt z_v (T.M 21) (ygU T) (T.b 22) (ya (ybe ix_tup yU z_v yg) (ya (ybe ix_tup yU z_v yg) (ya (ybe ix_tup yU z_v yg) (ya (ybe ix_tup yU z_v yg) yf)))))))))))))
theorem yoc:‹(2+1,35,r35,2,ybT)›:=zfn (T.F 35 r35) (sc 35) fun cdv Ar outer sh H E hr=>(yd (yL (yu ybf ycO (ybe ix_tup yU z_v yg) yx) (yd (ybF (T.N 6) z_v (ybe ix_tup yU z_v yg))) (yd (yL (yu ybf ycO (yt z_v (T.M 17) (ybJ T) (T.b 19) (ya (ybe ix_tup yU z_v yg) yf)) yg) (yd (ybF (T.N 6) z_v (ybe ix_tup yU z_v yg))) ym))))
theorem yhk:‹(2+1,36,r36,2,yct)›:=zfn (T.F 36 r36) (sc 36) fun cdv Ar outer sh H E hr=>have nd:=(sc 36 (r:=r36)).nd;(yb (yw (yt z_v (T.M 27) (yec T) (T.b 31) (ya z_v yf))) (yb (yw (ybe ix_list ybY (yC (T.N 8) z_v) (yY yhL ynq z_v yg))) (yb (yks (yu yDv yFW (ycW yD ycC (T.Z 5) (ya (yC (T.N 8) z_v) yf)) z_v) (yb (yP (yvn plainAttrs_list slot_list_pop type_list_pop yon yoB (yC (T.N 8) z_v))) (yd (yP (yv (yC (T.N 4) z_v) (T.M 13) (yob T) (T.b 5)))))) (yb (yw (ybe ix_tup yU z_v yg)) (yb (ybF (T.N 2) z_v (yev (ycr yE ybi (T.Z 6) (ya (ybe ix_tup yU z_v yg) yf)))) (yb (ybF (T.N 6) z_v (ybe ix_tup yU z_v (yBI ylh yrk yg))) (yd (yh z_v))))))))
theorem ymD:‹(3+1,37,r37,2,ycK)›:=zfn (T.F 37 r37) (sc 37) fun cdv Ar outer sh H E hr=>have nd:=(sc 37 (r:=r37)).nd;(yb (yw (yt z_v (T.M 17) (ybJ T) (T.b 19) (ya (ybe ix_tup yU z_v yg) yf))) (yb (yw (yt z_v (T.M 34) (yhk T) (T.b 36) (ya z_v yf))) (yd (yP (yt z_v (T.M 18) (ydt T) (T.b 20) (ya (ybe ix_tup yU z_v yg) (ya z_v yf)))))))
theorem yty:‹(5+1,38,r38,1,ycm)›:=zfn (T.F 38 r38) (sc 38) fun cdv Ar outer sh H E hr=>have nd:=(sc 38 (r:=r38)).nd;(yb (yw (yv z_v (T.M 25) (yfo T) (T.b 29))) (yb (ybF (T.N 6) z_v (yY ybQ ycX (yC (T.N 6) z_v) yg)) (yd (yL (yu ybf ycO (ybe ix_tup yU z_v yg) yx) (yd (yP (yt z_v (T.M 34) (yhk T) (T.b 36) (ya z_v yf)))) (yd (yL (yu ybf ycO (ybe ix_tup yU z_v yg) yx) (yd (yP (yt z_v (T.M 33) (ymD T) (T.b 37) (ya z_v yf)))) (yd (yL (ykq (ydO (yu ybf ycO (ybe ix_tup yU z_v yg) yx) (ydS (yu ybf ycO (ybe ix_tup yU z_v yg) yx)))) (yd (yP (yt z_v (T.M 32) (yoc T) (T.b 35) (ya z_v yf)))) (yd (yL (ykq (ydO (yu ybf ycO (ybe ix_tup yU z_v yg) yx) (ydS (yu ybf ycO (ybe ix_tup yU z_v yg) yx)))) (yb (yP (yyR plainAttrs_list PySem.F.slot_list_append PySem.F.type_list_append yeP yrA (yC (T.N 8) z_v) (ya (ydv (ya z_v (ya (yck (ycr yE ybi (T.Z 6) (ya (yC (T.N 2) z_v) yf))) yf))) yf))) (yd (yP (yv (yC (T.N 4) z_v) (T.M 11) (ymB T) (T.b 3))))) (yd (yL (yu ybf ycO (ybe ix_tup yU z_v yg) yx) (yb (yP (yvn plainAttrs_list slot_list_pop type_list_pop yon yoB (yC (T.N 8) z_v))) (yd (yP (yv (yC (T.N 4) z_v) (T.M 12) (ykX T) (T.b 4))))) (yd (yP (yt z_v (T.M 31) (yiP T) (T.b 34) (ya z_v yf))))))))))))))))
theorem ygu:‹(0+1,39,r39,1,ydm)›:=zfn (T.F 39 r39) (sc 39) fun cdv Ar outer sh H E hr=>(yb (yL (yu ybf ycO (yC (T.N 10) z_v) (ycW yD ycC (T.Z 5) (ya (yC (T.N 9) z_v) yf))) (yd (yh yx)) ym) (yd (yh (yrU (ybj (yC (T.N 11) z_v)) yx yx))))
theorem ydM:‹(6+1,40,r40,1,ycf)›:=zfn (T.F 40 r40) (sc 40) fun cdv Ar outer sh H E hr=>have nd:=(sc 40 (r:=r40)).nd;(yb (yw (yrU (yu yfp ymI (yC (T.N 10) z_v) (ycW yD ycC (T.Z 5) (ya (yC (T.N 9) z_v) yf))) (ybe ix_list ybY (yC (T.N 9) z_v) (yC (T.N 10) z_v)) (yck (ycp yf)))) (yd (yh (yev (yfv (T.J 10) (yiN T) (T.C 12) (T.b 28) (ya z_v (ya (yC (T.N 12) z_v) (ya (yC (T.N 3) z_v) yf))))))))
theorem yed:‹(7+1,41,r41,1,ybU)›:=zfn (T.F 41 r41) (sc 41) fun cdv Ar outer sh H E hr=>(yb (ybF (T.N 11) z_v yjz) (yd (ybF (T.N 13) z_v (yv z_v (T.M 36) (ydM T) (T.b 40)))))
theorem yfT:‹(0+1,42,r42,1,ycn)›:=zfn (T.F 42 r42) (sc 42) fun cdv Ar outer sh H E hr=>(yd (ybF (T.N 11) z_v yjz))
theorem ykY:‹(7+1,43,r43,2,ydW)›:=zfn (T.F 43 r43) (sc 43) fun cdv Ar outer sh H E hr=>(yb (ybF (T.N 10) z_v (yY ybQ ycX (yC (T.N 10) z_v) yg)) (yb (ybF (T.N 12) z_v (yck (ycr yE ybi (T.Z 6) (ya z_v yf)))) (yd (ybF (T.N 13) z_v (yv z_v (T.M 36) (ydM T) (T.b 40))))))
theorem yhx:‹(7+1,44,r44,3,ybV)›:=zfn (T.F 44 r44) (sc 44) fun cdv Ar outer sh H E hr=>(yb (ybF (T.N 9) z_v (yck (ycr yE ybi (T.Z 6) (ya z_v yf)))) (yb (ybF (T.N 3) z_v z_v) (yb (ybF (T.N 10) z_v yg) (yb (ybF (T.N 11) z_v yjz) (yb (ybF (T.N 12) z_v (yck (yiW ylt yrn (yck (ycp (ya yg yf))) (ycW ydQ you (T.Z 5) (ya (yma T.m_SLOTS) yf))))) (yd (ybF (T.N 13) z_v (yv z_v (T.M 36) (ydM T) (T.b 40)))))))))
theorem yjf:‹(2+1,87,r87,1,ydB)›:=zfn (T.F 87 r87) (sc 87) fun cdv Ar outer sh H E hr=>(yb (yL (ybS (yfj yhl yhl yqi yqi yg (ycW yD ycC (T.Z 5) (ya z_v yf)) (yfu T.m_MOST_BOXES))) (yd ycl) ym) (yd (yL (ybS (ybj (ycW (yoo rfl) yBa (T.Z 0) (ya (yck (ygY [] (yci z_v) (fun _ _ _ _ _ _=>(yQ (ymz T) (T.G 2) (T.k 11) (T.b 11) (ya z_v yf))))) yf)))) (yd ycl) ym)))
theorem yhy:‹(93+1,88,r88,1,ybI)›:=zfn (T.F 88 r88) (sc 88) fun cdv Ar outer sh H E hr=>(yd (yh (yck (ygY [] (yci z_v) (fun _ _ _ _ _ _=>(yQ (yqb T) (T.G 17) (T.k 69) (T.b 69) (ya (yQ (yzV T) (T.G 19) (T.k 86) (T.b 86) (ya z_v yf)) yf)))))))
theorem yhz:‹(94+1,89,r89,1,ycv)›:=zfn (T.F 89 r89) (sc 89) fun cdv Ar outer sh H E hr=>(yb (yL (ybS (yfj yhl yhl yqi yqi yg (ycW yD ycC (T.Z 5) (ya z_v yf)) (yfu T.m_MOST_HANDS))) (yd ycl) ym) (yb (yL (ybj (ycW (ypc rfl) yBH (T.Z 1) (ya (yck (ygY [] (yci z_v) (fun _ _ _ _ _ _=>(yeK yqB yAV (ycW yD ycC (T.Z 5) (ya z_v yf)) (yfu T.m_MOST_DEEDS))))) yf))) (yd ycl) ym) (yd (yh (yck (ygY [] (yci z_v) (fun _ _ _ _ _ _=>(yQ (yhy T) (T.G 21) (T.k 88) (T.b 88) (ya z_v yf)))))))))
theorem yhA:‹(95+1,90,r90,3,ycw)›:=zfn (T.F 90 r90) (sc 90) fun cdv Ar outer sh H E hr=>(yb (yP (yQ (yjf T) (T.G 20) (T.k 87) (T.b 87) (ya z_v yf))) (yb (ybF (T.N 14) z_v (yev (ycr yE ybi (T.Z 6) (ya z_v yf)))) (yb (ybF (T.N 15) z_v (yev (yiW ylt yrn (yck (ycp (ya yg yf))) (ycW yD ycC (T.Z 5) (ya z_v yf))))) (yb (ybF (T.N 16) z_v (yev (ygY ["boxes"] (yci (yQ (yhz T) (T.G 22) (T.k 89) (T.b 89) (ya z_v yf))) (fun _ _ _ _ _ _=>(ysh (T.J 12) (yhx T) (T.C 14) (T.b 44) (ya z_v (ya (ycW yD ycC (T.Z 5) (ya z_v yf)) yf))))))) (yd (ybF (T.N 17) z_v (yev (ycp yf))))))))
theorem yfg:‹(1+1,91,r91,2,ycg)›:=zfn (T.F 91 r91) (sc 91) fun cdv Ar outer sh H E hr=>(yb (yL (ykq (ydO (ybS (ybj (yQ (yiK T) (T.G 1) (T.k 10) (T.b 10) (ya z_v yf)))) (ydS (ybS (yfj yhl yfp yqi ymI yg z_v (ycW yD ycC (T.Z 5) (ya (yC (T.N 16) z_v) yf))))))) (yd ycl) ym) (yd (yh (ybe ix_list ybY (yC (T.N 16) z_v) z_v))))
theorem ykZ:‹(2+1,93,r93,2,ydn)›:=zfn (T.F 93 r93) (sc 93) fun cdv Ar outer sh H E hr=>(yd (yh (yC (T.N 10) (yt z_v (T.M 40) (yfg T) (T.b 91) (ya z_v yf)))))
theorem ygv:‹(0+1,94,r94,1,ydo)›:=zfn (T.F 94 r94) (sc 94) fun cdv Ar outer sh H E hr=>(yd (yh (yck (ycr yE ybi (T.Z 6) (ya (yC (T.N 14) z_v) yf)))))
theorem yjg:‹(0+1,95,r95,1,ydC)›:=zfn (T.F 95 r95) (sc 95) fun cdv Ar outer sh H E hr=>(yd (yh (yck (ycr yE ybi (T.Z 6) (ya (yC (T.N 15) z_v) yf)))))
theorem ydN:‹(0+1,96,r96,1,ybq)›:=zfn (T.F 96 r96) (sc 96) fun cdv Ar outer sh H E hr=>(yd (yh (yck (yzc [] (yC (T.N 17) z_v) (fun _ _ _ _ _ _=>(ydv (ya (ybe ix_tup yU z_v yg) (ya (ybe ix_tup yU z_v yg) (ya (ybe ix_tup yU z_v yg) (ya (yck (ycr yE ybi (T.Z 6) (ya (ybe ix_tup yU z_v yg) yf))) (ya (yck (ycr yE ybi (T.Z 6) (ya (ybe ix_tup yU z_v yg) yf))) (ya (yck (ycr yE ybi (T.Z 6) (ya (ybe ix_tup yU z_v yg) yf))) yf))))))))))))
theorem ygw:‹(8+1,97,r97,1,ybC)›:=zfn (T.F 97 r97) (sc 97) fun cdv Ar outer sh H E hr=>have nd:=(sc 97 (r:=r97)).nd;(yd (yyV (yC (T.N 16) z_v) ycj (yd (yL (ykq (ymb (yu ybf ycO (yv z_v (T.M 35) (ygu T) (T.b 39)) yx) (yig (ybj (yt (yC (T.N 13) z_v) (T.M 26) (yfe T) (T.b 30) (ya (yC (T.N 15) z_v) yf)))))) (yd (yP (yv z_v (T.M 37) (yed T) (T.b 41)))) ym))))
theorem yeJ:‹(8+1,98,r98,5,ycx)›:=zfn (T.F 98 r98) (sc 98) fun cdv Ar outer sh H E hr=>have nd:=(sc 98 (r:=r98)).nd;(yb (yw (ybe ix_list ybY (yC (T.N 16) z_v) z_v)) (yb (yP (yyR plainAttrs_list PySem.F.slot_list_append PySem.F.type_list_append yeP yrA (yC (T.N 17) z_v) (ya (ydv (ya z_v (ya (yC (T.N 10) z_v) (ya z_v (ya (yv (yC (T.N 4) (yC (T.N 13) z_v)) (T.M 15) (yqg T) (T.b 7)) (ya z_v (ya (yck (ycr yE ybi (T.Z 6) (ya z_v yf))) yf))))))) yf))) (yd (yP (yt z_v (T.M 39) (ykY T) (T.b 43) (ya z_v yf))))))
theorem yhB:‹(9+1,99,r99,2,ycT)›:=zfn (T.F 99 r99) (sc 99) fun cdv Ar outer sh H E hr=>have nd:=(sc 99 (r:=r99)).nd;(yb (yw (yC (T.N 13) (ybe ix_list ybY (yC (T.N 16) z_v) z_v))) (yb (yw (yv (yC (T.N 4) z_v) (T.M 16) (ymC T) (T.b 8))) (yb (yeH (yci z_v) ycj (yb (yw (ybe ix_tup yU z_v yg)) (yb (yfL (ybe ix_tup yU z_v yg) (yC (T.N 14) z_v) z_v) (yd (yfL (yY ybQ ycX (ybe ix_list ybY (yC (T.N 15) z_v) z_v) yg) (yC (T.N 15) z_v) z_v))))) (yb (yP (yt z_v (T.M 47) (yeJ T) (T.b 98) (ya z_v (ya (ydv (ya yx yf)) (ya z_v (ya (yC (T.N 2) z_v) yf)))))) (yd (yP (yv z_v (T.M 46) (ygw T) (T.b 97))))))))
theorem yeq:‹(10+1,100,r100,3,yS)›:=zfn (T.F 100 r100) (sc 100) fun cdv Ar outer sh H E hr=>have nd:=(sc 100 (r:=r100)).nd;(yb (yw (ybe ix_list ybY (yC (T.N 16) z_v) z_v)) (yb (yw (yv (yC (T.N 13) z_v) (T.M 25) (yfo T) (T.b 29))) (yb (yL (yu ybf ycO (ybe ix_tup yU z_v yg) yx) (yb (yw (yt (yC (T.N 13) z_v) (T.M 29) (yiO T) (T.b 33) (ya (yC (T.N 14) z_v) (ya (yC (T.N 15) z_v) yf)))) (yd (yh (ydv (ya yx (ya z_v (ya z_v (ya (ybe ix_list ybY (yC (T.N 14) z_v) z_v) yf)))))))) ym) (yb (yL (yu ybf ycO (ybe ix_tup yU z_v yg) yx) (yb (yP (yv z_v (T.M 38) (yfT T) (T.b 42))) (yd (yh (ydv (ya yx (ya z_v yf)))))) ym) (yb (yL (yu ybf ycO (ybe ix_tup yU z_v yg) yx) (yb (yP (yt z_v (T.M 47) (yeJ T) (T.b 98) (ya z_v (ya (ydv (ya yx (ya (ybe ix_tup yU z_v yg) (ya (yt (yC (T.N 13) z_v) (T.M 17) (ybJ T) (T.b 19) (ya (ybe ix_tup yU z_v yg) yf)) yf)))) (ya (yck (ycp yf)) (ya (yC (T.N 12) z_v) yf)))))) (yd (yh (ydv (ya yx (ya z_v yf)))))) ym) (yb (yP (yt z_v (T.M 48) (yhB T) (T.b 99) (ya z_v yf))) (yd (yh (ydv (ya yx (ya z_v yf)))))))))))
theorem ymE:‹(11+1,101,r101,2,yB)›:=zfn (T.F 101 r101) (sc 101) fun cdv Ar outer sh H E hr=>have nd:=(sc 101 (r:=r101)).nd;(yb (yw (yt z_v (T.M 40) (yfg T) (T.b 91) (ya z_v yf))) (yb (yL (yu yfB ynr (yv z_v (T.M 35) (ygu T) (T.b 39)) yx) (yd (yh (ydv (ya yx yf)))) ym) (yb (yw (yC (T.N 6) (yC (T.N 13) z_v))) (yb (yL (ybS (ybj (yv (yC (T.N 13) z_v) (T.M 28) (yff T) (T.b 32)))) (yb (yP (yv (yC (T.N 13) z_v) (T.M 30) (yty T) (T.b 38))) (yd (yh (ydv (ya yx (ya z_v yf)))))) ym) (yb (yL (ybj (yt (yC (T.N 13) z_v) (T.M 26) (yfe T) (T.b 30) (ya (yC (T.N 15) z_v) yf))) (yb (yP (yv z_v (T.M 37) (yed T) (T.b 41))) (yd (yh (ydv (ya yx (ya z_v yf)))))) ym) (yd (yh (yt z_v (T.M 49) (yeq T) (T.b 100) (ya z_v (ya z_v yf))))))))))
theorem ycV:‹(0+1,102,r102,2,yZ)›:=zfn (T.F 102 r102) (sc 102) fun cdv Ar outer sh H E hr=>(yb (yL (yu yfp ymI z_v (ycW yD ycC (T.Z 5) (ya z_v yf))) (yd (yh (ybe ix_list ybY z_v z_v))) ym) (yd (yh yg)))
theorem yer:‹(0+1,103,r103,1,ybv)›:=zfn (T.F 103 r103) (sc 103) fun cdv Ar outer sh H E hr=>have nd:=(sc 103 (r:=r103)).nd;(yb (yw (yY ycq yeS z_v yg)) (yb (yL (yu ybf ycO (yY ybD ycJ z_v yg) yg) (yd (yh (yY ybD ycJ z_v yg))) ym) (yb (yL (yu ybf ycO (yY ybD ycJ z_v yg) yg) (yd (yh (yY yhL ynq (yY yhL ynq (yY ylg yrj yg yg) yg) (yY ybD ycJ z_v yg)))) ym) (yd (yh (yY ybD ycJ z_v (yY ylg yrj yg yg)))))))
theorem ygx:‹(0+1,104,r104,2,ybZ)›:=zfn (T.F 104 r104) (sc 104) fun cdv Ar outer sh H E hr=>have nd:=(sc 104 (r:=r104)).nd;(yb (yw (yck (ycp (ya (ybe ylp yuF yx (yY ybD ycJ (yY ycq yeS z_v yg) yg)) (ya (ybe ylp yuF yx (yY ybD ycJ (yY ycq yeS z_v yg) yg)) (ya (ybe ylp yuF yx (yY ybD ycJ (yY ycq yeS z_v yg) yg)) yf)))))) (yb (yw (yY ybD ycJ z_v yg)) (yb (yL (yu ybf ycO z_v yg) (yd (yh (yY yo ybb (yY yo ybb (yY yo ybb yx (ybe ix_list ybY z_v yg)) yx) (yrW ydP yov (T.Z 10) (ya z_v yf))))) ym) (yb (yL (yu ybf ycO z_v yg) (yb (yw (ybe ix_list ybY (yck (ycp (ya yx (ya yx (ya yx (ya yx (ya yx yf))))))) (yY ybD ycJ (yY ycq yeS z_v yg) yg))) (yd (yh (yY yo ybb (yY yo ybb (yY yo ybb (yY yo ybb (yY yo ybb (yY yo ybb z_v yx) (ybe ix_list ybY z_v yg)) yx) (ybe ix_list ybY z_v yg)) yx) (ybe ix_list ybY z_v yg))))) ym) (yb (yL (yu ybf ycO z_v yg) (yd (yh (yY yo ybb (yY yo ybb (yY yo ybb yx (ybe ix_list ybY z_v yg)) yx) (ybe ix_list ybY z_v yg)))) ym) (yb (yL (yu ybf ycO z_v yg) (yd (yh (yY yo ybb (yY yo ybb (yY yo ybb yx (ybe ix_list ybY z_v yg)) yx) (ybe ix_list ybY z_v yg)))) ym) (yb (yL (yu yfp ymI z_v yg) (yd (yh (yY yo ybb (yY yo ybb yx (yrW ydP yov (T.Z 10) (ya (yY ybD ycJ (yY ycq yeS z_v yg) yg) yf))) yx))) ym) (yb (yL (yu ybf ycO z_v yg) (yd (yh (yY yo ybb (yY yo ybb yx (yrW ydP yov (T.Z 10) (ya (yY ybD ycJ (yY ycq yeS z_v yg) yg) yf))) yx))) ym) (yd (yh yx))))))))))
theorem yla:‹(1+1,105,r105,1,ycL)›:=zfn (T.F 105 r105) (sc 105) fun cdv Ar outer sh H E hr=>have nd:=(sc 105 (r:=r105)).nd;(yb (yw (yY ybD ycJ (yY yjk ypI z_v yg) yg)) (yb (yw (yY ybD ycJ (yY yjk ypI (yY ybQ ycX (yY ycq yeS z_v yg) yg) yg) yg)) (yb (yw (yQ (yer T) (T.G 24) (T.k 103) (T.b 103) (ya (yY ycq yeS z_v yg) yf))) (yb (yw (yQ (ygx T) (T.G 25) (T.k 104) (T.b 104) (ya z_v (ya z_v yf)))) (yb (yw (yQ (ygx T) (T.G 25) (T.k 104) (T.b 104) (ya z_v (ya z_v yf)))) (yb (yw (yY ybD ycJ z_v yg)) (yb (yL (yu yfp ymI z_v yg) (yd (yh (yY yo ybb (yY yo ybb z_v yx) z_v))) ym) (yb (yL (yu ybf ycO z_v yg) (yd (yh (yY yo ybb (yY yo ybb (yY yo ybb (yY yo ybb yx z_v) yx) z_v) yx))) ym) (yb (yL (yu yfp ymI z_v yg) (yd (yh (yY yo ybb (yY yo ybb (yY yo ybb (yY yo ybb yx z_v) yx) z_v) yx))) ym) (yb (yL (yu yfp ymI z_v yg) (yb (yw (ybe ix_list ybY (yck (ycp (ya yx (ya yx yf)))) (yY ybD ycJ z_v yg))) (yb (yw (yY yo ybb (yY yo ybb (yY yo ybb (yY yo ybb yx z_v) yx) z_v) yx)) (yd (yh (yY yo ybb (yY yo ybb (yY yo ybb (yY yo ybb (yY yo ybb (yY yo ybb yx z_v) yx) z_v) yx) z_v) yx))))) ym) (yb (yL (yu ybf ycO z_v yg) (yd (yh (yY yo ybb (yY yo ybb yx (yrW ydP yov (T.Z 10) (ya (yY ybD ycJ z_v yg) yf))) yx))) ym) (yd (yh (ybe ix_list ybY (yck (ycp (ya yx (ya yx (ya yx (ya z_v yf)))))) (yY ybD ycJ z_v yg)))))))))))))))
theorem ylb:‹(2+1,106,r106,1,ycM)›:=zfn (T.F 106 r106) (sc 106) fun cdv Ar outer sh H E hr=>have nd:=(sc 106 (r:=r106)).nd;(yb (yfK (ycp yf)) (yb (yfK (ycp yf)) (yb (yeH (yci z_v) ycj (yb (yoQ (yQ (yla T) (T.G 26) (T.k 105) (T.b 105) (ya z_v yf))) (yd (yL (ykq (ymb (yu yqB yAV (yrX (T.Z 5)) (yY ybD ycJ (yY ycq yeS z_v yg) yg)) (yig (yu yfp ymI (yrX (T.Z 5)) yg)))) (ygL (yb (yoQ (yyR PySem.F.plainAttrs_str PySem.F.slot_str_join PySem.F.type_str_join yxO yBb yx (ya z_v yf))) (yd (yfK (ycp yf))))) ym)))) (ygL (yd (yh z_v))))))
theorem ylc:‹(0+1,107,r107,2,ydp)›:=zfn (T.F 107 r107) (sc 107) fun cdv Ar outer sh H E hr=>have nd:=(sc 107 (r:=r107)).nd;(yb (yfK (ycp yf)) (yb (yeH (yci z_v) ycj (yb (yw (yY ybD ycJ z_v (yY ylg yrj yg yg))) (yd (yL (yu ybf ycO (yY ybD ycJ z_v yg) yg) (ygL (yd (yfK (yiW yls yrm z_v (yck (yiW ylt yrn (yck (ycp (ya (yY ybD ycJ (yY ycq yeS z_v yg) z_v) yf))) (yY ybQ ycX yg (yY ybD ycJ (yY ycq yeS z_v yg) yg)))))))) (yd (yeH (ynF (T.Z 7) (ya yg yf)) ycj (yd (yoQ (yY ybD ycJ (yY ycq yeS (yY ycq yeS z_v (yY ybQ ycX yg (yY yjk ypI yg z_v))) yg) z_v))))))))) (ygL (yd (yh z_v)))))
theorem yeF:‹(0+1,108,r108,1,ydq)›:=zfn (T.F 108 r108) (sc 108) fun cdv Ar outer sh H E hr=>(yd (yh (yif (ycW yI (ydz (K:=ckX _ _) T.isa) (T.Z 4) (ya z_v (ya (yhq (T.Z 3)) yf))) (ykp (yBJ (ycW yI (ydz (K:=ckX _ _) T.isa) (T.Z 4) (ya z_v (ya (yhq (T.Z 2)) yf))))))))
theorem ygy:‹(1+1,109,r109,2,ydr)›:=zfn (T.F 109 r109) (sc 109) fun cdv Ar outer sh H E hr=>have nd:=(sc 109 (r:=r109)).nd;(yb (yL (ybS (ybj (ycW yI (ydz (K:=ckX _ _) T.isa) (T.Z 4) (ya z_v (ya (yhq (T.Z 6)) yf))))) (yd (yh yjz)) ym) (yb (yw (yBI ylh yrk yg)) (yb (yeH (yci z_v) ycj (yb (yL (ykq (ydO (ybS (ybj (ycW yI (ydz (K:=ckX _ _) T.isa) (T.Z 4) (ya z_v (ya (yhq (T.Z 12)) yf))))) (ydO (yu yfB ynr (ycW yD ycC (T.Z 5) (ya z_v yf)) yg) (ydO (ybS (ybj (yQ (yeF T) (T.G 29) (T.k 108) (T.b 108) (ya (ybe ix_tup yU z_v yg) yf)))) (ydS (ybS (ybj (yQ (yeF T) (T.G 29) (T.k 108) (T.b 108) (ya (ybe ix_tup yU z_v yg) yf))))))))) (yd (yh yjz)) ym) (yb (yL (ykq (ydO (ybS (yfj yfp yfp ymI ymI z_v (ybe ix_tup yU z_v yg) (ycW yD ycC (T.Z 5) (ya z_v yf)))) (ydS (ybS (yfj yhl yfp yqi ymI yg (ybe ix_tup yU z_v yg) (yY ylg yrj yg yg)))))) (yd (yh yjz)) ym) (yd (yw (ybe ix_tup yU z_v yg)))))) (yd (yh yjz)))))
theorem yjh:‹(1+1,110,r110,2,ycc)›:=zfn (T.F 110 r110) (sc 110) fun cdv Ar outer sh H E hr=>(yb (yL (ykq (ydO (ybS (ybj (ycW yI (ydz (K:=ckX _ _) T.isa) (T.Z 4) (ya z_v (ya (yhq (T.Z 12)) yf))))) (ydO (yu ybf ycO (ycW yD ycC (T.Z 5) (ya z_v yf)) yg) (ydS (yu yfB ynr (ybe yol yuZ z_v yg) z_v))))) (yd (yh yjz)) ym) (yb (yL (yu ybf ycO z_v yx) (yd (yh (yeK ybf ycO (ycW yD ycC (T.Z 5) (ya z_v yf)) yg))) ym) (yd (yh (yif (yeK ybf ycO (ycW yD ycC (T.Z 5) (ya z_v yf)) yg) (yif (ycW yI (ydz (K:=ckX _ _) T.isa) (T.Z 4) (ya (ybe yol yuZ z_v yg) (ya (yhq (T.Z 10)) yf))) (yif (yQ (yeF T) (T.G 29) (T.k 108) (T.b 108) (ya (ybe yol yuZ z_v yg) yf)) (ykp (ynE yhl yfp yqi ymI yg (ybe yol yuZ z_v yg) (yY ylg yrj yg yg))))))))))
theorem yle:‹(2+1,111,r111,6,ydY)›:=zfn (T.F 111 r111) (sc 111) fun cdv Ar outer sh H E hr=>have nd:=(sc 111 (r:=r111)).nd;(yb (yL (ykq (ydO (ybS (ybj (ycW yI (ydz (K:=ckX _ _) T.isa) (T.Z 4) (ya z_v (ya (yhq (T.Z 12)) yf))))) (ydO (yu yfB ynr (ycW yD ycC (T.Z 5) (ya z_v yf)) yg) (ydO (yu yfB ynr (ybe ix_tup yU z_v yg) z_v) (ydS (yu yfB ynr (ybe ix_tup yU z_v yg) z_v)))))) (yd (yh yjz)) ym) (yb (yL (ykq (ydO (ybS (ybj (yQ (yjh T) (T.G 31) (T.k 110) (T.b 110) (ya (ybe ix_tup yU z_v yg) (ya z_v yf))))) (ydO (ybS (ybj (yQ (ygy T) (T.G 30) (T.k 109) (T.b 109) (ya (ybe ix_tup yU z_v yg) (ya z_v yf))))) (ydS (ybS (ybj (yQ (ygy T) (T.G 30) (T.k 109) (T.b 109) (ya (ybe ix_tup yU z_v yg) (ya z_v yf))))))))) (yd (yh yjz)) ym) (yb (yL (ykq (ydO (ybS (ybj (ycW yI (ydz (K:=ckX _ _) T.isa) (T.Z 4) (ya (ybe ix_tup yU z_v yg) (ya (yhq (T.Z 6)) yf))))) (ydO (yu yfB ynr (ycW yD ycC (T.Z 5) (ya (ybe ix_tup yU z_v yg) yf)) yg) (ydS (ykq (ymb (yu ybf ycO z_v yx) (yig (yu (yBO (yoU hr)) yEx (ybe ix_tup yU z_v yg) (yck (ycp yf)))))))))) (yd (yh yjz)) ym) (yb (yeH (yci (ybe ix_tup yU z_v yg)) (yoR (ydT ycj (ydT ycj ykr))) (yd (yL (yu yfB ynr (ybe ix_list ybY z_v z_v) z_v) (yd (yh yjz)) ym))) (yb (yeH (yci (ybe ix_tup yU z_v yg)) (yoR (ydT ycj (ydT ycj ykr))) (yb (yfL z_v z_v z_v) (yd (yfL (yY ybQ ycX (ybe ix_list ybY z_v z_v) yg) z_v z_v)))) (yd (yh yjz)))))))
theorem yji:‹(12+1,112,r112,5,ycd)›:=zfn (T.F 112 r112) (sc 112) fun cdv Ar outer sh H E hr=>have nd:=(sc 112 (r:=r112)).nd;(yb (yw (yt z_v (T.M 50) (ymE T) (T.b 101) (ya z_v yf))) (yb (yw (yv z_v (T.M 45) (ydN T) (T.b 96))) (yb (yL (ykq (ydO (ybS (ybj (ycW yI (ydz (K:=ckX _ _) T.isa) (T.Z 4) (ya z_v (ya (yhq (T.Z 12)) yf))))) (ydS (ybS (ybj (ycW yI (ydz (K:=ckX _ _) T.isa) (T.Z 4) (ya z_v (ya (yhq (T.Z 6)) yf)))))))) (yd (yh yjz)) ym) (yb (yL (yu ylr yBA (ybe ix_tup yU z_v yg) (yck (ycp (ya yx (ya yx yf))))) (yb (yL (yu yfB ynr (ycW yD ycC (T.Z 5) (ya z_v yf)) (yY ybQ ycX (ycW (yhC rfl) yuH (T.Z 11) (ya z_v yf)) yg)) (yd (yh yjz)) ym) (yb (yL (ybS (ybj (yQ (yle T) (T.G 32) (T.k 111) (T.b 111) (ya (ybe ix_list ybY z_v (yBI ylh yrk yg)) (ya z_v (ya (ybe ix_list ybY z_v z_v) (ya (ybe ix_tup yU z_v yg) (ya z_v (ya z_v yf))))))))) (yd (yh yjz)) ym) (yd (yfL (yY ybQ ycX (ybe ix_list ybY z_v z_v) yg) z_v z_v)))) (yd (yL (yu yfB ynr (ycW yD ycC (T.Z 5) (ya z_v yf)) (ycW (yhC rfl) yuH (T.Z 11) (ya z_v yf))) (yd (yh yjz)) ym))) (yb (yL (yu yfB ynr (yt z_v (T.M 42) (ykZ T) (T.b 93) (ya z_v yf)) (ybe ix_list ybY z_v z_v)) (yd (yh yjz)) ym) (yd (yh (yif (yeK (yrY (yoU hr)) yyH (yv z_v (T.M 43) (ygv T) (T.b 94)) z_v) (ykp (yeK (yrY (yoU hr)) yyH (yv z_v (T.M 44) (yjg T) (T.b 95)) z_v))))))))))
theorem yCV:‹(97+1,113,r113,1,yvv)›:=zfn (T.F 113 r113) (sc 113) fun cdv Ar outer sh H E hr=>have nd:=(sc 113 (r:=r113)).nd;(yb (yw (ybe ix_list ybY (yck (ycp (ya (yY ybQ ycX yg (yY ybD ycJ (yQ (ycV T) (T.G 23) (T.k 102) (T.b 102) (ya z_v (ya yg yf))) yg)) (ya yg yf)))) (yY ycq yeS (yY ybD ycJ (yY ycq yeS (yQ (ycV T) (T.G 23) (T.k 102) (T.b 102) (ya z_v (ya yg yf))) yg) yg) yg))) (yb (ypa ["_law_script"] (ynF (T.Z 7) (ya z_v yf)) (fun _ _ _ _ _ _=>(yQ (yer T) (T.G 24) (T.k 103) (T.b 103) (ya (yY ybQ ycX (yQ (ycV T) (T.G 23) (T.k 102) (T.b 102) (ya z_v (ya yg yf))) (yY yjk ypI (yY yjk ypI yg z_v) z_v)) yf)))) (yb (yw (yY ybQ ycX yg (yY ybD ycJ (yY ycq yeS (yQ (ycV T) (T.G 23) (T.k 102) (T.b 102) (ya z_v (ya yg yf))) yg) yg))) (yb (yw (yck (yBK yqM yAY z_v (yih yg) (yih yg)))) (yb (ypa ["_law_cells","_law_count"] (ynF (T.Z 7) (ya z_v yf)) (fun _ _ _ _ _ _=>(yQ (ylb T) (T.G 27) (T.k 106) (T.b 106) (ya (yck (yEG z_v (yih z_v) (yih z_v))) yf)))) (yb (yw (ysh (T.J 13) (yhA T) (T.C 15) (T.b 90) (ya (yck (ycr yE ybi (T.Z 6) (ya z_v yf))) (ya (yck (ygY [] (yci z_v) (fun _ _ _ _ _ _=>(yck (ycr yE ybi (T.Z 6) (ya z_v yf)))))) yf)))) (yb (yw (yev (ycr yE ybi (T.Z 6) (ya z_v yf)))) (yb (yw (yev (yiW ylt yrn (yck (ycp (ya yg yf))) z_v))) (yb (yw (yev (yiW ylt yrn (yck (ycp (ya yg yf))) z_v))) (yb (yeH (yci (yQ (ylc T) (T.G 28) (T.k 107) (T.b 107) (ya (yck (yBK yqM yAY z_v yEE (yih yg))) (ya z_v yf)))) ycj (yd (yL (ybS (ybj (yQ (yji T) (T.G 33) (T.k 112) (T.b 112) (ya z_v (ya z_v (ya z_v (ya z_v (ya z_v yf)))))))) (yd (yh yjz)) ym))) (yb (yw (yev (ycr yE ybi (T.Z 6) (ya z_v yf)))) (yb (yeH (yci (yv z_v (T.M 45) (ydN T) (T.b 96))) ycj (yb (yeH (yci (ybe ix_tup yU z_v yg)) (yoR (ydT ycj (ydT ycj ykr))) (yd (yL (yu yfB ynr (ybe ix_list ybY z_v z_v) z_v) (yd (yh yjz)) ym))) (yd (yeH (yci (ybe ix_tup yU z_v yg)) (yoR (ydT ycj (ydT ycj ykr))) (yd (yfL z_v z_v z_v)))))) (yd (yh (yif (yeK (yrY (yoU hr)) yyH z_v (yv z_v (T.M 43) (ygv T) (T.b 94))) (ykp (yeK ybf ycO (ycW yD ycC (T.Z 5) (ya (yv z_v (T.M 45) (ydN T) (T.b 96)) yf)) (ycW (yhC rfl) yuH (T.Z 11) (ya z_v yf)))))))))))))))))))
noncomputable def ywn (K:PySem.W.Frag):Sp:=fun vs H Q _=>∃ (a:Addr) (ns:List Int),vs=[.ref a]/\SqL K H a (ns.map V.int)/\ns.length<=63/\∀ H',Q (.bl true) H'
theorem yCW {A:Nat->Addr}:∀ vs H Q E,ywn K vs H Q E->spE ⟨K,A⟩ 1 yvv vs H Q E:=by rintro _ H Q E ⟨a,ns,rfl,hS,hl,q⟩;obtain ⟨h',e⟩:=yCT (h:=[]) ns hl;exact ⟨⟨H,H,[],[]⟩,[.scr ns],.bl true,h',rfl,⟨Same.refl _,rfl,List.nodup_nil,fun n d a e=>by simp at e⟩,⟨.ref a,[],rfl,⟨a,rfl,hS⟩,rfl⟩,rfl,e,fun v W' _ _ rv=>by rw [show v=_ from rv];exact q _⟩
end
structure FB (K:PySem.W.Frag) (r:FR) (p:Addr×FuncData):Prop where
 F:Fun K r.1 r.2.1 r.2.2.1 p.1 p.2
 b:Binds K p.2 r.ps []
theorem FB.of {K:PySem.W.Frag}{x q:Str}{s:Stmt}{k:Nat}{n:List Str}{f:Addr}{d:FuncData}(F:Fun K x q s f d) (b:Binds K d (n.take k) []):FB K (fRw x q s k n) (f,d):=⟨F,b⟩
noncomputable def All2 {Z Y:Type}(R:Z->Y->Prop):List Z->List Y->Prop
 | r::rs,p::ps=>R r p/\All2 R rs ps
 | [],[]=>True
 | _,_=>False
theorem All2.get {Z Y:Type}{R:Z->Y->Prop}{d:Z}{e:Y}(h:R d e):∀ {rs:List Z}{ps:List Y},All2 R rs ps->∀ n:Nat,R (rs.getD n d) (ps.getD n e)
 | [],[],_,_=>h
 | _::_,_::_,a,0=>a.1
 | _::_,_::_,a,n+1=>All2.get h a.2 n
noncomputable abbrev Ns1 (K:PySem.W.Frag) (x:Str) (f:Addr):Prop:=nsIn K mainGlobals x=some (some (.ref f))
structure TyR (K:PySem.W.Frag) (C:Addr):Prop where
 ha:findIn K (.ref C) "__class__" = some (some (.builtin "object.__class__"))
 hm:mroIn K C (.type "object")=some true
 ty:typeIn K (.ref C)=some (.type "type")
structure NS2 (K:PySem.W.Frag) (c d:Addr):Prop where
 sb:subIn K (.ref c) (.ref d)=some false
 ne:(c == d)=false
noncomputable def NSx (K:PySem.W.Frag) (pre:List Addr):List Addr->Prop
 | []=>True
 | c::cs=>AllP (NS2 K c) pre/\AllP (NS2 K c) cs/\NSx K (c::pre) cs
theorem NSx.get {K:PySem.W.Frag}{A:Nat->Addr}:∀ {cs pre:List Nat},NSx K (pre.map A) (cs.map A)->∀ i∈cs,∀ j,j∈pre\/j∈cs->i≠j->NS2 K (A i) (A j)
 | c::cs,pre,a,i,hi,j,hj,ne=>by
  rcases mem_cons.mp hi with rfl|hi
  .rcases hj with hj|hj
   .exact a.1.mem _ (List.mem_map_of_mem hj)
   .rcases mem_cons.mp hj with rfl|hj
    .exact absurd rfl ne
    .exact a.2.1.mem _ (List.mem_map_of_mem hj)
  .refine NSx.get (pre:=c::pre) a.2.2 i hi j ?_ ne;rcases hj with hj|hj
   .exact .inl (mem_cons_of_mem _ hj)
   .rcases mem_cons.mp hj with rfl|hj
    .exact .inl mem_cons_self
    .exact .inr hj
theorem yzW {K:PySem.W.Frag}{A:Nat->Addr}(CL:∀ k,Cls K (A k)) (hn:PySem.W.specialIn K (.builtin "object.__class__") "__get__" = some (some (.builtin "getset_descriptor.__get__"))) (htk:PySem.W.takesIn K (.builtin "object.__class__")=some true) (cs:List Nat) (ty:AllP (TyR K) (cs.map A)) (sb:NSx K [] (cs.map A)) :
  ∀ r∈tbO cs,∀ (H:Hp) (a dx:Addr) (fs:List (Str×V)),H a=some (.ins (A r.1) dx fs)->IsI K H (.ref a) (.ref (A r.2.1)) r.2.2:=by
 intro r hr H a dx fs e;unfold tbO at hr;obtain ⟨i,hi,hr⟩:=List.mem_flatMap.mp hr;obtain ⟨j,hj,rfl⟩:=List.mem_map.mp hr;have t:=ty.mem _ (List.mem_map_of_mem hi);have t':=ty.mem _ (List.mem_map_of_mem hj);refine ⟨_,_,.ins e (CL i) t.ha hn htk t.hm,rfl,?_⟩
 by_cases q:i=j
 .subst q;show _=some (i == i);rw [beq_self_eq_true];exact yue
 .have n:=NSx.get (pre:=[]) sb i hi j (.inr hj) q;show _=some (i == j);rw [beq_eq_false_iff_ne.mpr q];exact yug n.ne t'.hm t'.ty n.sb
theorem zip_get {K:PySem.W.Frag}{c0:Str}{C0:Addr}:∀ {cs:List Str}{as:List Addr},AllP (fun p:Str×Addr=>Ns1 K p.1 p.2) ((c0::cs).zip (C0::as))->cs.length=as.length->∀ n:Nat,Ns1 K ((c0::cs).getD n c0) ((C0::as).getD n C0):=fun {cs as} h hl n=>by
 have h0:=h.1;have:∀ (cs:List Str) (as:List Addr),AllP (fun p:Str×Addr=>Ns1 K p.1 p.2) (cs.zip as)->cs.length=as.length->∀ n:Nat,Ns1 K (cs.getD n c0) (as.getD n C0):=by
  intro cs
  induction cs with
  | nil=>intro as _ e n;cases as with|nil=>exact h0|cons _ _=>cases e
  | cons c cs ih=>intro as h e n;cases as with|nil=>cases e|cons a as=>cases n with|zero=>exact h.1|succ n=>exact ih as h.2 (by simpa using e) n
 exact this _ _ h (by simpa using hl) n
theorem all_mk {l:PySem.W.OpenLaw}{w:World}{K:PySem.W.Frag}{h:Heap}{mg:Str->Option Value}{fa C0 C1 C2 C3 C4 C5 C6 C7 C8 C9 C10 C11 C12 C13 C14 C15 f0 f1 f2 f3 f4 f5 f6 f7 f8 f9 f10 f11 f12 f13 f14 f15 f16 f17 f18 f19 f20 f21 f22 f23 f24 f25 f26 f27 f28 f29 f30 f31 f32 f33 f34 f35 f36 f37 f38 f39 f40 f41 f42 f43 f44 f45 f46 f47 f48 f49 f50 f51 f52 f53 f54 f55 f56 f57 f58 f59 f60 f61 f62 f63 f64 f65 f66 f67 f68 f69 f70 f71 f72 f73 f74 f75 f76 f77 f78 f79 f80 f81 f82 f83 f84 f85 f86 f87 f88 f89 f90 f91 f92 f93 f94 f95 f96 f97 f98 f99 f100 f101 f102 f103 f104 f105 f106 f107 f108 f109 f110 f111 f112 f113 u10:Addr}{d0 d1 d2 d3 d4 d5 d6 d7 d8 d9 d10 d11 d12 d13 d14 d15 d16 d17 d18 d19 d20 d21 d22 d23 d24 d25 d26 d27 d28 d29 d30 d31 d32 d33 d34 d35 d36 d37 d38 d39 d40 d41 d42 d43 d44 d45 d46 d47 d48 d49 d50 d51 d52 d53 d54 d55 d56 d57 d58 d59 d60 d61 d62 d63 d64 d65 d66 d67 d68 d69 d70 d71 d72 d73 d74 d75 d76 d77 d78 d79 d80 d81 d82 d83 d84 d85 d86 d87 d88 d89 d90 d91 d92 d93 d94 d95 d96 d97 d98 d99 d100 d101 d102 d103 d104 d105 d106 d107 d108 d109 d110 d111 d112 d113:FuncData}{u1 u2 u3 u4 u5 u6 u7 u8 u9:Tok}(X:K.In h) (G:h.Ns mainGlobals mg) (hfa:mg "law" = some (.ref fa))
  {qd10:Option Addr}{qn10:Nat}{qs10:Array (Option Value)}{qt10_0 qt10_1 qt10_2 qt10_3 qt10_4:Tok}
  (hC:Ns1 K "Part" C0/\Ns1 K "Let" C1/\Ns1 K "Reckon" C2/\Ns1 K "Take" C3/\Ns1 K "Put" C4/\Ns1 K "If" C5/\Ns1 K "Either" C6/\Ns1 K "Try" C7/\Ns1 K "Throw" C8/\Ns1 K "Wait" C9/\Ns1 K "Reader" C10/\Ns1 K "Log" C11/\Ns1 K "Run" C12/\Ns1 K "Doer" C13/\Ns1 K "Hand" C14/\Ns1 K "Hall" C15/\True)
  (cl:AllP (Cls K) [C0,C1,C2,C3,C4,C5,C6,C7,C8,C9,C10,C11,C12,C13,C14,C15])
  (hK:Mk K C1 f45/\Mk K C2 f46/\Mk K C3 f47/\Mk K C4 f48/\Mk K C5 f49/\Mk K C6 f50/\Mk K C7 f51/\Mk K C8 f52/\Mk K C10 f70/\Mk K C11 f0/\Mk K C12 f28/\Mk K C13 f18/\Mk K C14 f44/\Mk K C15 f90/\True)
  (mk0:makesIn K C0=true)
  (io0:findIn K (.ref C0) "__init__" = some (some (.builtin "object.__init__")))
  (kp0:keepIn K (.ref C0)=true)
  (mk9:makesIn K C9=true)
  (io9:findIn K (.ref C9) "__init__" = some (some (.builtin "object.__init__")))
  (kp9:keepIn K (.ref C9)=true)
  (hM:Meth K C1 "long" f53/\Meth K C2 "long" f54/\Meth K C3 "long" f55/\Meth K C4 "long" f56/\Meth K C5 "long" f60/\Meth K C6 "long" f61/\Meth K C7 "long" f62/\Meth K C8 "long" f57/\Meth K C9 "long" f58/\Meth K C11 "write" f1/\Meth K C11 "own" f2/\Meth K C11 "begin" f3/\Meth K C11 "settle" f4/\Meth K C11 "drop" f5/\Meth K C11 "see" f6/\Meth K C11 "saw" f7/\Meth K C11 "wrote" f8/\Meth K C12 "held_in" f19/\Meth K C12 "hold" f20/\Meth K C12 "box_at" f21/\Meth K C12 "do_put" f23/\Meth K C12 "do_reckon" f22/\Meth K C12 "sees_at" f24/\Meth K C12 "take_own" f25/\Meth K C12 "take_seen" f26/\Meth K C12 "row" f29/\Meth K C12 "is_stale" f30/\Meth K C12 "taker_layer" f31/\Meth K C12 "is_looked_over" f32/\Meth K C12 "see_next" f33/\Meth K C12 "go" f38/\Meth K C12 "go_plain" f34/\Meth K C12 "lead" f35/\Meth K C12 "throw" f37/\Meth K C12 "leave" f36/\Meth K C14 "state" f39/\Meth K C14 "new_run" f40/\Meth K C14 "begin_anew" f41/\Meth K C14 "fall_asleep" f42/\Meth K C14 "go_on" f43/\Meth K C15 "hand_at" f91/\Meth K C15 "state" f92/\Meth K C15 "which" f93/\Meth K C15 "boxes" f94/\Meth K C15 "stamps" f95/\Meth K C15 "journal" f96/\Meth K C15 "wake_stale" f97/\Meth K C15 "end_deed" f98/\Meth K C15 "lay_down" f99/\Meth K C15 "looked_over_told" f100/\Meth K C15 "turn" f101/\Meth K C10 "ahead" f72/\Meth K C10 "taken" f73/\Meth K C10 "pass_over" f74/\Meth K C10 "slot_taken" f75/\Meth K C10 "name_taken" f76/\Meth K C10 "number_taken" f77/\Meth K C10 "list_taken" f80/\Meth K C10 "side_taken" f81/\Meth K C10 "part_taken" f82/\Meth K C10 "if_taken" f83/\Meth K C10 "either_taken" f84/\Meth K C10 "try_taken" f85/\Meth K C10 "plain_taken" f79/\Meth K C10 "reckon_taken" f78/\True)
  (cf13:yvt K C13 "__init__" f18)
  (hG:Ns1 K "reckon" f9/\Ns1 K "is_whole" f10/\Ns1 K "is_number" f11/\Ns1 K "is_made_of" f12/\Ns1 K "number_of" f13/\Ns1 K "is_word" f14/\Ns1 K "is_slot" f15/\Ns1 K "slot_index" f16/\Ns1 K "is_name" f17/\Ns1 K "takes" f27/\Ns1 K "list_long" f59/\Ns1 K "plain_rows" f63/\Ns1 K "first_row" f64/\Ns1 K "rows_between" f65/\Ns1 K "list_rows" f66/\Ns1 K "part_rows" f67/\Ns1 K "sided_rows" f68/\Ns1 K "rows_of" f69/\Ns1 K "words_of" f71/\Ns1 K "read" f86/\Ns1 K "check_boxes" f87/\Ns1 K "rows_of_deeds" f88/\Ns1 K "rows_of_hands" f89/\Ns1 K "_law_cell_at" f102/\Ns1 K "_law_number_by" f103/\Ns1 K "_law_plain" f104/\Ns1 K "_law_piece" f105/\Ns1 K "_law_deeds" f106/\Ns1 K "_law_turns" f107/\Ns1 K "_law_whole" f108/\Ns1 K "_law_pairs" f109/\Ns1 K "_law_is_end" f110/\Ns1 K "_law_entry" f111/\Ns1 K "_law_turned" f112/\Ns1 K "law" f113/\True)
  (hF:All2 (FB K) fT [(f0,d0),(f1,d1),(f2,d2),(f3,d3),(f4,d4),(f5,d5),(f6,d6),(f7,d7),(f8,d8),(f9,d9),(f10,d10),(f11,d11),(f12,d12),(f13,d13),(f14,d14),(f15,d15),(f16,d16),(f17,d17),(f18,d18),(f19,d19),(f20,d20),(f21,d21),(f22,d22),(f23,d23),(f24,d24),(f25,d25),(f26,d26),(f27,d27),(f28,d28),(f29,d29),(f30,d30),(f31,d31),(f32,d32),(f33,d33),(f34,d34),(f35,d35),(f36,d36),(f37,d37),(f38,d38),(f39,d39),(f40,d40),(f41,d41),(f42,d42),(f43,d43),(f44,d44),(f45,d45),(f46,d46),(f47,d47),(f48,d48),(f49,d49),(f50,d50),(f51,d51),(f52,d52),(f53,d53),(f54,d54),(f55,d55),(f56,d56),(f57,d57),(f58,d58),(f59,d59),(f60,d60),(f61,d61),(f62,d62),(f63,d63),(f64,d64),(f65,d65),(f66,d66),(f67,d67),(f68,d68),(f69,d69),(f70,d70),(f71,d71),(f72,d72),(f73,d73),(f74,d74),(f75,d75),(f76,d76),(f77,d77),(f78,d78),(f79,d79),(f80,d80),(f81,d81),(f82,d82),(f83,d83),(f84,d84),(f85,d85),(f86,d86),(f87,d87),(f88,d88),(f89,d89),(f90,d90),(f91,d91),(f92,d92),(f93,d93),(f94,d94),(f95,d95),(f96,d96),(f97,d97),(f98,d98),(f99,d99),(f100,d100),(f101,d101),(f102,d102),(f103,d103),(f104,d104),(f105,d105),(f106,d106),(f107,d107),(f108,d108),(f109,d109),(f110,d110),(f111,d111),(f112,d112),(f113,d113)])
  (hN:(NoAttr K C11 "stack"/\True)/\(NoAttr K C11 "last_seen"/\True)/\(NoAttr K C12 "held"/\True)/\(NoAttr K C12 "width"/\NoAttr K C14 "width"/\True)/\(NoAttr K C12 "log"/\True)/\(NoAttr K C12 "rows"/\True)/\(NoAttr K C10 "at"/\NoAttr K C12 "at"/\True)/\(NoAttr K C12 "seen_stamps"/\True)/\(NoAttr K C12 "sides"/\True)/\(NoAttr K C14 "deeds"/\True)/\(NoAttr K C14 "nth"/\True)/\(NoAttr K C14 "sleeps"/\True)/\(NoAttr K C14 "before"/\True)/\(NoAttr K C14 "run"/\True)/\(NoAttr K C15 "numbers"/\True)/\(NoAttr K C15 "marks"/\True)/\(NoAttr K C15 "crew"/\True)/\(NoAttr K C15 "entries"/\True)/\(NoAttr K C10 "words"/\True)/\(NoAttr K C1 "slot"/\NoAttr K C2 "slot"/\NoAttr K C3 "slot"/\NoAttr K C4 "slot"/\NoAttr K C5 "slot"/\NoAttr K C7 "slot"/\NoAttr K C8 "slot"/\True)/\(NoAttr K C1 "number"/\True)/\(NoAttr K C3 "place"/\NoAttr K C4 "place"/\True)/\(NoAttr K C5 "parts"/\NoAttr K C6 "parts"/\NoAttr K C7 "parts"/\True)/\(NoAttr K C5 "others"/\NoAttr K C6 "others"/\NoAttr K C7 "others"/\True)/\(NoAttr K C7 "name"/\NoAttr K C8 "name"/\True)/\(NoAttr K C2 "word"/\True)/\(NoAttr K C2 "one"/\True)/\(NoAttr K C2 "other"/\True)/\True)
  (ty:AllP (TyR K) [C1,C2,C3,C4,C5,C6,C7,C8,C9])
  (sb:NSx K [] [C1,C2,C3,C4,C5,C6,C7,C8,C9])
  (hn:PySem.W.specialIn K (.builtin "object.__class__") "__get__" = some (some (.builtin "getset_descriptor.__get__")))
  (htk:PySem.W.takesIn K (.builtin "object.__class__")=some true)
  (hZ:AllP (fun b=>nsIn K mainGlobals b=some none) zT)
  (q1:nsIn K mainGlobals "FIGURES" = some (some (.str "0123456789" u1)))
  (q2:nsIn K mainGlobals "LETTERS" = some (some (.str "abcdefghijklmnopqrstuvwxyz" u2)))
  (q3:nsIn K mainGlobals "MOST_AROUND" = some (some (.int 8 u3)))
  (q4:nsIn K mainGlobals "MOST_BOXES" = some (some (.int 16 u4)))
  (q5:nsIn K mainGlobals "MOST_DEEDS" = some (some (.int 6 u5)))
  (q6:nsIn K mainGlobals "MOST_HANDS" = some (some (.int 8 u6)))
  (q7:nsIn K mainGlobals "MOST_ROWS" = some (some (.int 80 u7)))
  (q8:nsIn K mainGlobals "SLOTS" = some (some (.str "abcdefgh" u8)))
  (q9:nsIn K mainGlobals "WIDE" = some (some (.int 18446744073709551616 u9)))
  (q10:nsIn K mainGlobals "WORDS" = some (some (.ref u10)))
  (qk10:K.lookup u10=some ⟨.type "tuple",qd10,.seq #[.str "plus" qt10_0,.str "minus" qt10_1,.str "times" qt10_2,.str "less" qt10_3,.str "same" qt10_4] qn10,qs10⟩) :
  ∃ fd:FuncData,(∀ (s:Shared) (v:Value),BindsTo s fd ⟨[v],[]⟩ [("_law_script",v)])/\∀ base:Heap,K.In base->base.Ns mainGlobals mg->FnOk l.prog w K mg base CX0 98 fa fd ["_law_script"] (ywn K):=by
 let t:Ads:=⟨fun k=>[C0,C1,C2,C3,C4,C5,C6,C7,C8,C9,C10,C11,C12,C13,C14,C15].getD k C0,fun n=>[(f0,d0),(f1,d1),(f2,d2),(f3,d3),(f4,d4),(f5,d5),(f6,d6),(f7,d7),(f8,d8),(f9,d9),(f10,d10),(f11,d11),(f12,d12),(f13,d13),(f14,d14),(f15,d15),(f16,d16),(f17,d17),(f18,d18),(f19,d19),(f20,d20),(f21,d21),(f22,d22),(f23,d23),(f24,d24),(f25,d25),(f26,d26),(f27,d27),(f28,d28),(f29,d29),(f30,d30),(f31,d31),(f32,d32),(f33,d33),(f34,d34),(f35,d35),(f36,d36),(f37,d37),(f38,d38),(f39,d39),(f40,d40),(f41,d41),(f42,d42),(f43,d43),(f44,d44),(f45,d45),(f46,d46),(f47,d47),(f48,d48),(f49,d49),(f50,d50),(f51,d51),(f52,d52),(f53,d53),(f54,d54),(f55,d55),(f56,d56),(f57,d57),(f58,d58),(f59,d59),(f60,d60),(f61,d61),(f62,d62),(f63,d63),(f64,d64),(f65,d65),(f66,d66),(f67,d67),(f68,d68),(f69,d69),(f70,d70),(f71,d71),(f72,d72),(f73,d73),(f74,d74),(f75,d75),(f76,d76),(f77,d77),(f78,d78),(f79,d79),(f80,d80),(f81,d81),(f82,d82),(f83,d83),(f84,d84),(f85,d85),(f86,d86),(f87,d87),(f88,d88),(f89,d89),(f90,d90),(f91,d91),(f92,d92),(f93,d93),(f94,d94),(f95,d95),(f96,d96),(f97,d97),(f98,d98),(f99,d99),(f100,d100),(f101,d101),(f102,d102),(f103,d103),(f104,d104),(f105,d105),(f106,d106),(f107,d107),(f108,d108),(f109,d109),(f110,d110),(f111,d111),(f112,d112),(f113,d113)].getD n (f0,d0),u1,u2,u3,u4,u5,u6,u7,u8,u9,u10⟩
 have CL:∀ k,Cls K (t.A k):=fun k=>AllP.get cl.1 cl k
 have FF:∀ n,FB K (fR n) (t.fl n):=fun n=>All2.get hF.1 hF n
 have hC:AllP (fun p:Str×Addr=>Ns1 K p.1 p.2) (cT.zip [C0,C1,C2,C3,C4,C5,C6,C7,C8,C9,C10,C11,C12,C13,C14,C15]):=hC;have hG:AllP (fun r:Str×Nat=>Ns1 K r.1 (t.a r.2)) gT:=hG;have hK:AllP (fun r:Nat×Nat=>Mk K (t.A r.1) (t.a r.2)) kT:=hK;have hM:AllP (fun r:Nat×Str×Nat=>Meth K (t.A r.1) r.2.1 (t.a r.2.2)) mT:=hM;have hN:AllP (fun r:Str×List Nat=>AllP (fun k=>NoAttr K (t.A k) r.1) r.2) nT:=hN;have T:Txt K mg t:=⟨fun n=>(FF n).F,fun n=>(FF n).b,fun n=>mg_of X G (AllP.get (p:=fun r:Str×Nat=>Ns1 K r.1 (t.a r.2)) hG.1 hG n),fun n=>mg_of X G (zip_get hC rfl n),fun n=>AllP.get (p:=fun r:Nat×Nat=>Mk K (t.A r.1) (t.a r.2)) hK.1 hK n,fun n=>AllP.get (p:=fun r:Nat×Str×Nat=>Meth K (t.A r.1) r.2.1 (t.a r.2.2)) hM.1 hM n,mk0,io0,kp0,mk9,io9,kp9,cf13,CL,fun n k hk=>⟨CL k,(AllP.get (p:=fun r:Str×List Nat=>AllP (fun k=>NoAttr K (t.A k) r.1) r.2) hN.1 hN n).mem k hk⟩,yzW CL hn htk [1,2,3,4,5,6,7,8,9] ty sb,fun n=>PySem.W.mg_none_of X G (AllP.get (p:=fun b=>nsIn K mainGlobals b=some none) hZ.1 hZ n),mg_of X G q1,mg_of X G q2,mg_of X G q3,mg_of X G q4,mg_of X G q5,mg_of X G q6,mg_of X G q7,mg_of X G q8,mg_of X G q9,mg_of X G q10,⟨_,_,_,qk10,rfl,rfl,(by show 5<=sizeLine;decide),.cons ⟨_,rfl⟩ (.cons ⟨_,rfl⟩ (.cons ⟨_,rfl⟩ (.cons ⟨_,rfl⟩ (.cons ⟨_,rfl⟩ (.nil)))))⟩⟩
 have e:=hfa.symm.trans (T.G 34);have e:fa=f113:=by injection e with e;injection e
 subst e;refine ⟨d113,?_,fun base _ _=>(yCV T).imp (yCW T)⟩;obtain ⟨_,_,_,_,_,_,_,_,_,e,_⟩:=(FF 113).F.ex;have e:d113=_:=e;subst e;exact fun s v=>.of_eq rfl
theorem walk {l:PySem.W.OpenLaw}{q:Program}{loose:List Str}{XP:(Str->Option Value)->Heap->Prop}{YP:World->Heap->Prop}{d:DefRec}{K:Params->PySem.W.Frag}(hn:l.most=some 63) (hdf:d.params.defaults=[])
  (hY:∀ (w:World) (h:Heap),YP w h->(K w.params).In h)
  (F:∀ (w:World) (mg:Str->Option Value) (fa:Addr) (h:Heap),(K w.params).In h->h.Ns mainGlobals mg->mg d.name=some (.ref fa) ->
   ∃ fd:FuncData,(∀ (s:Shared) (u:Value),BindsTo s fd ⟨[u],[]⟩ [("_law_script",u)])/\∀ base:Heap,(K w.params).In base->base.Ns mainGlobals mg->FnOk l.prog w (K w.params) mg base CX0 98 fa fd ["_law_script"] (ywn (K w.params))) :
  PySem.W.WalkO q loose XP YP l.row.toRowW d [] (fun f vs=>PySem.call f vs) :=
 L2.walk_of (n:=63) (k:=98) (x:="_law_script") (CX:=fun _=>CX0) (sp:=fun w=>ywn (K w.params)) hn (by decide) hdf ⟨rfl,by decide,by decide⟩ hY F (fun _ _ a ns hl _ hS=>⟨a,ns,rfl,hS,hl,fun _=>rfl⟩) fun _ _ _ _ _ z=>z
end My
local macro_rules | `(tactic| walk_at "ka")=>`(tactic| first|exact True.intro|k_is|decide|((first|refine And.intro ?_ ?_|refine' L2.Cls.mk ?_ ?_ ?_ ?_|refine' My.TyR.mk ?_ ?_ ?_|refine' My.NS2.mk ?_ ?_)<;>walk_at "ka"))
local macro_rules | `(tactic| walk_at "kr")=>`(tactic| first|exact True.intro|(refine And.intro ?_ ?_<;>walk_at "kr")|walk_at "kx")
local macro_rules | `(tactic| walk_at "kx")=>`(tactic| first|(refine' L2.Meth.mk ?a ?b ?c;(case a=>k_is);(case b=>k_is);(case c=>k_is))|(refine' L2.Mk.mk ?a ?b ?c ?d;(case a=>k_is);(case b=>k_is);(case c=>k_is);(case d=>k_is))|(unfold L2.NoAttr;k_is)|(unfold My.Ns1;k_is)|k_is|(dsimp only;k_is))
local macro_rules | `(tactic| walk_at "kf")=>`(tactic| first|exact True.intro|(refine' And.intro (My.FB.of (L2.fun_mk ?a ?b ?c) ?d) ?e;(case a=>k_is);(case b=>k_is);(case c=>k_is);(case d=>first|exact L2.Binds.all (My.ml1 fun _=>rfl)|exact L2.Binds.all (My.ml2 fun _ _=>rfl)|exact L2.Binds.all (My.ml3 fun _ _ _=>rfl)|exact L2.Binds.all (My.ml4 fun _ _ _ _=>rfl)|exact L2.Binds.all (My.ml5 fun _ _ _ _ _=>rfl)|exact L2.Binds.all (My.ml6 fun _ _ _ _ _ _=>rfl));(case e=>walk_at "kf")))
local macro_rules | `(tactic| walk_at "k4")=>`(tactic| (refine' ⟨?a,?b,?c,?d⟩;(case a=>k_is);(case b=>k_is);(case c=>k_is);(case d=>k_is)))
open PySem PySem.W PyProof.Rows
set_option maxRecDepth 100000 in
set_option maxHeartbeats 0 in
theorem PySem.Challenge.cw_retryhall_k61_whole_journal_replayed_holds : PySem.Challenge.rw_retryhall_k61_whole_journal_replayed.Holds := by
 refine hD_ ?_
 k_fill
 refine My.walk (l:=PySem.Challenge.rw_retryhall_k61_whole_journal_replayed) rfl rfl (fun w h Y=>PySem.W.kIn_of Y) ?F
 case F =>
  intro w mg fa h KX G hmg
  refine' My.all_mk KX G hmg ?hC ?cl ?hK ?mk0 ?io0 ?kp0 ?mk9 ?io9 ?kp9 ?hM ?cf13 ?hG ?hF ?hN ?ty ?sb ?hn ?htk ?hZ ?q1 ?q2 ?q3 ?q4 ?q5 ?q6 ?q7 ?q8 ?q9 ?q10 ?qk10
  (case hC=>walk_at "kr")
  (case cl=>walk_at "ka")
  (case hK=>walk_at "kr")
  (case mk0=>k_is)
  (case io0=>k_is)
  (case kp0=>k_is)
  (case mk9=>k_is)
  (case io9=>k_is)
  (case kp9=>k_is)
  (case hM=>walk_at "kr")
  (case cf13=>walk_at "k4")
  (case hG=>walk_at "kr")
  (case hF=>walk_at "kf")
  (case hN=>walk_at "kr")
  (case ty=>walk_at "ka")
  (case sb=>walk_at "ka")
  (case hn=>k_is)
  (case htk=>k_is)
  (case hZ=>walk_at "kr")
  (case q1=>k_is)
  (case q2=>k_is)
  (case q3=>k_is)
  (case q4=>k_is)
  (case q5=>k_is)
  (case q6=>k_is)
  (case q7=>k_is)
  (case q8=>k_is)
  (case q9=>k_is)
  (case q10=>k_is)
  (case qk10=>k_is)
