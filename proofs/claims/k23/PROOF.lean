import PyProof.Rows.All
import Wide.All
import OpenK.KLine
import KE.KIntText
import KE.KIsAll
import KE.KItemsList
import KE.KRevIter
import KE.KSortTup
import KE.LcSums
import KE.KPairComp
import Wide.FinOn
import Lean
import PyProof.EqAt
import PyProof.EqKinds
import PyProof.TupleCall
import PySem.Challenge.RW_retryhall_k23_stale_begins_anew
set_option Elab.async false
set_option linter.all false
set_option maxRecDepth 100000
set_option maxHeartbeats 4000000
set_option compiler.extract_closed false
namespace PySem.W.Fast
local macro_rules|`(command|universe $xs*)=>do return Lean.mkNullNode (<-(xs.flatMap fun x=>#[`hD_++x.getId,`PySem.Challenge++x.getId]).append ((Array.range 1420).map fun i=>`hD_++.mkSimple ("o_"++toString i)) |>.mapM fun n=>`(command|theorem $(Lean.mkIdent (.mkSimple ("tw"++toString n.hash))) : True:=True.intro))
universe heap_39 heap_46 heap_1420 tree_47 tree_70 tree_85 tree_100 tree_115 tree_130 tree_216 tree_280 tree_359 tree_368 tree_458 tree_516 tree_551 tree_587 tree_623 tree_659 tree_695 tree_731 tree_767 tree_803 tree_839 tree_889 tree_933 tree_1054 tree_1139 tree_1159 tree_1276 tree_1359 tree_1419 view_39 sts_49 sts_71 sts_86 sts_101 sts_116 sts_131 sts_217 sts_281 sts_360 sts_369 sts_459 sts_517 sts_552 sts_588 sts_624 sts_660 sts_696 sts_732 sts_768 sts_804 sts_840 sts_890 sts_934 sts_1143 sts_1160 sts_1363 env_41 pw_retryhall_k23_stale_begins_anew rw_retryhall_k23_stale_begins_anew
end PySem.W.Fast
set_option maxHeartbeats 0 in
open_top hD_ for PySem.Challenge.rw_retryhall_k23_stale_begins_anew
open PySem.W (fnOf findIn keepIn subIn codeIn nsIn isFn mg_of plainGet hasDictIn makesIn instObj typeIn emptyDict mroIn kia_one)
local macro_rules | `(tactic| rfl')=>`(tactic| decide +kernel)
open List (mem_cons_self mem_cons_of_mem mem_append_left getElem?_set_self getElem?_set_ne mem_append_right length_cons map_cons length_map append_nil of_mem_zip replicate length getElem?_append_right getElem?_replicate getElem?_append_left getElem?_map mem_of_getElem? length_append map_nil length_drop size_toArray length_set any_cons getElem_of_mem idxOf map_append lookup_cons prefix_refl getElem?_eq_none length_zip find?_cons length_nil zip_cons_cons getD map_map toArray getElem_mem mem_cons getD_eq_getElem?_getD map_set append_assoc)
open Nat (lt_of_lt_of_le lt_irrefl ne_of_lt le_of_lt le_of_eq zero_le sub_self add_assoc)
open Option (map_some isSome_map bind_some)
open Bool (and_eq_true)
open Int (zero_add)
open PySem.F (plainAttrs_list slot_list_pop type_list_pop)
noncomputable section
namespace L2
open PySem PySem.Spec PyProof.Rows
abbrev Key:=Sum Int Str
def ylM:Key->Value->Bool
 | .inl k,v=>Value.isInt k v
 | .inr x,v=>Value.isStrOf x v
def yEl (w:World):Key->Int
 | .inl k=>hashInt k
 | .inr x=>hashStr w x
theorem ybl:∀ {k:Key}{v:Value},ylM k v=true->(∃ i t,k=Sum.inl i/\v=Value.int i t)\/(∃ x t,k=Sum.inr x/\v=Value.str x t)
 | .inl i,v,h=>by
  obtain ⟨t,e⟩:=Value.isInt_shape (k:=i) (v:=v) h
  exact .inl ⟨i,t,rfl,e⟩
 | .inr x,v,h=>by
  obtain ⟨t,e⟩:=Value.isStrOf_shape (x:=x) (v:=v) h
  exact .inr ⟨x,t,rfl,e⟩
theorem ypr (i:Int) (t:Tok):ylM (.inl i) (.int i t)=true:=by simp [ylM,Value.isInt]
theorem yps (x:Str) (t:Tok):ylM (.inr x) (.str x t)=true:=by simp [ylM,Value.isStrOf]
theorem yyl (a b:Int):decide ((Sum.inl a:Key)=Sum.inl b)=(a == b):=by
 by_cases e:a=b
 .subst e;simp
 .have h:¬ (Sum.inl a:Key)=Sum.inl b:=fun q=>e (Sum.inl.inj q)
  rw [decide_eq_false h]
  exact (beq_eq_false_iff_ne.mpr e).symm
theorem yym (a b:Str):decide ((Sum.inr a:Key)=Sum.inr b)=decide (a=b):=by
 by_cases e:a=b
 .subst e;simp
 .have h:¬ (Sum.inr a:Key)=Sum.inr b:=fun q=>e (Sum.inr.inj q)
  rw [decide_eq_false h,decide_eq_false e]
theorem yyn (a:Int) (b:Str):decide ((Sum.inl a:Key)=Sum.inr b)=false:=decide_eq_false (fun q=>nomatch q)
theorem yyo (a:Str) (b:Int):decide ((Sum.inr a:Key)=Sum.inl b)=false:=decide_eq_false (fun q=>nomatch q)
noncomputable def ycz (prog:Program) (w:World):PySem.KeyKind prog w Key where
 is:=ylM
 hash:=yEl w
 inj:=fun v a b ha hb=>by
  rcases ybl ha with ⟨i,t,rfl,rfl⟩|⟨x,t,rfl,rfl⟩
  .rcases ybl hb with ⟨j,u,rfl,e⟩|⟨y,u,rfl,e⟩
   .injection e with e1 _;rw [e1]
   .exact nomatch e
  .rcases ybl hb with ⟨j,u,rfl,e⟩|⟨y,u,rfl,e⟩
   .exact nomatch e
   .injection e with e1 _;rw [e1]
 byValue:=fun k v h=>by
  rcases ybl h with ⟨i,t,rfl,rfl⟩|⟨x,t,rfl,rfl⟩<;>rfl
 pyHash:=fun hv h=>by
  rcases ybl hv with ⟨i,t,rfl,rfl⟩|⟨x,t,rfl,rfl⟩
  .exact wpAny_pyHash_int h
  .exact wpAny_pyHash_str h
 eqBool:=fun hu hv h=>by
  rcases ybl hu with ⟨i,t,rfl,rfl⟩|⟨x,t,rfl,rfl⟩
  .rcases ybl hv with ⟨j,u,rfl,rfl⟩|⟨y,u,rfl,rfl⟩
   .rw [yyl] at h;exact wpAny_eqBool_int h
   .rw [yyn] at h;exact SeqAt.EqAt.int_str i t y u _ _ _ _ h
  .rcases ybl hv with ⟨j,u,rfl,rfl⟩|⟨y,u,rfl,rfl⟩
   .rw [yyo] at h;exact SeqAt.EqAt.str_int x t j u _ _ _ _ h
   .rw [yym] at h;exact wpAny_eqBool_str h
 «strs»:=fun k x t v h=>by
  rcases ybl h with ⟨i,u,rfl,e⟩|⟨y,u,rfl,e⟩
  .exact nomatch e
  .injection e with e1 _
   subst e1
   cases v<;>rfl
theorem ylN (prog:Program) (w:World) (i:Int) (t:Tok):(ycz prog w).is (.inl i) (.int i t)=true:=ypr i t
theorem ylO (prog:Program) (w:World) (x:Str) (t:Tok):(ycz prog w).is (.inr x) (.str x t)=true:=yps x t
end L2
namespace L2
open PySem PySem.Spec PyProof.Rows
inductive V where
 | non|bl (b:Bool)|int (i:Int)|str (x:Str)|byt (b:Array UInt8)|flt (b:UInt64)|ref (a:Addr)|ty (n:String)
 deriving DecidableEq
noncomputable def RelV:V->Value->Prop
 | .non,u=>u=Value.none
 | .bl b,u=>u=Value.bool b
 | .int i,u=>∃ t,u=Value.int i t
 | .str x,u=>∃ t,u=Value.str x t
 | .byt b,u=>∃ t,u=Value.bytes b t
 | .flt b,u=>∃ t,u=Value.float b t
 | .ref a,u=>u=Value.ref a
 | .ty n,u=>u=Value.type n
abbrev Vals:List V->List Value->Prop:=Paired RelV
theorem Vals.length {xs:List V}{us:List Value}(r:Vals xs us):xs.length=us.length:=Paired.length r
theorem Vals.get:∀ {xs:List V}{us:List Value}{i:Nat}{x:V},Vals xs us->xs[i]?=some x->∃ u,us[i]?=some u/\RelV x u
 | _,_,_,_,.nil,e=>by simp at e
 | _,_,0,_,.cons r _,e=>by simp at e;subst e;exact ⟨_,rfl,r⟩
 | _,_,i+1,x,.cons _ t,e=>by
  obtain ⟨u,h1,h2⟩:=Vals.get (i:=i) (x:=x) t (by simpa using e)
  exact ⟨u,by simpa using h1,h2⟩
theorem Vals.set {x:V}{u:Value}(r:RelV x u):∀ {xs:List V}{us:List Value}(i:Nat),Vals xs us->Vals (xs.set i x) (us.set i u)
 | _,_,_,.nil=>.nil
 | _,_,0,.cons _ t=>.cons r t
 | _,_,i+1,.cons q t=>.cons q (Vals.set r i t)
theorem Vals.append:∀ {xs ys:List V}{us ws:List Value},Vals xs us->Vals ys ws->Vals (xs++ys) (us++ws)
 | _,_,_,_,.nil,s=>s
 | _,_,_,_,.cons r t,s=>.cons r (Vals.append t s)
theorem Vals.take:∀ {xs:List V}{us:List Value}(n:Nat),Vals xs us->Vals (xs.take n) (us.take n)
 | _,_,0,_=>.nil
 | _,_,_+1,.nil=>.nil
 | _,_,n+1,.cons r t=>.cons r (Vals.take n t)
theorem Vals.drop:∀ {xs:List V}{us:List Value}(n:Nat),Vals xs us->Vals (xs.drop n) (us.drop n)
 | _,_,0,r=>r
 | _,_,_+1,.nil=>.nil
 | _,_,n+1,.cons _ t=>Vals.drop n t
def RelO:Option V->Option Value->Prop
 | some v,some u=>RelV v u
 | none,none=>True
 | _,_=>False
def KV {κ:Type}:List (κ×V)->List (κ×Value)->Prop:=Paired fun (p:κ×V) (q:κ×Value)=>p.1=q.1/\RelV p.2 q.2
def kV:Key->V
 | .inl i=>.int i
 | .inr x=>.str x
inductive HO where
 | lst (xs:List V)
 | tup (xs:List V)
 | dK (kvs:List (Key×V))|dT (kvs:List (List Key×V))
 | set (S:Int->Bool) (n:Nat)
 | ins (C dx:Addr) (fs:List (Str×V))
 | own (x:Addr)
 | xd (fs:List (Str×V))
 | met (f x:Addr)
 | rng (lo hi:Int)
 | frz (o:Obj) (u:HO)
 | tbl (ps:Array Value)
 | ext (φ:Heap->Prop)
abbrev Hp:=Addr->Option HO
def upd (H:Hp) (a:Addr) (o:HO):Hp:=fun b=>if b=a then some o else H b
theorem yD {H:Hp}{a:Addr}{o:HO}:upd H a o a=some o:=by unfold upd;rw [if_pos rfl]
theorem yL {H:Hp}{a b:Addr}{o:HO}(h:b≠a):upd H a o b=H b:=by unfold upd;rw [if_neg h]
theorem yBu {H:Hp}{a b:Addr}{o u:HO}(h:H a=some o) (h':H b=some u) (d:o≠u):a≠b:=by
 intro e;subst e;rw [h] at h';exact d (Option.some.inj h')
theorem ybw {H:Hp}{a b:Addr}{o:HO}(h:H a=some o) (h':H b=none):a≠b:=by
 intro e;subst e;rw [h] at h';cases h'
section
variable (P:Program) (w:World)
def ObjOk (H:Hp) (h:Heap) (a:Addr):HO->Prop
 | .lst xs=>xs.length<=sizeLine/\∃ (its:List Value) (n:Nat),Vals xs its/\h.get? a=some { cls:=.type "list",data:=.seq its.toArray n }
 | .tup xs=>xs.length<=sizeLine/\∃ its:List Value,Vals xs its/\IsTup h a its.toArray
 | .dK kvs=>kvs.length<=sizeLine/\(a == sysModules)=false/\∃ vs,KV kvs vs/\h.DictOf (ycz P w) a vs
 | .dT kvs=>kvs.length<=sizeLine/\(a == sysModules)=false/\∃ xs:List (List Key×Addr×Value),
   Paired (fun (p:List Key×V) (q:List Key×Addr×Value)=>p.1=q.1/\H q.2.1=some (.tup (p.1.map kV))/\RelV p.2 q.2.2) kvs xs /\
   ∃ o es ep,h.get? a=some o/\o.ExactDict/\o.data=.dict es ep/\es.toList=xs.map (entryOfKey (tupleKind (ycz P w)))/\(xs.map (·.1)).Nodup
 | .set S n=>h.SetOf (intKind P w) a S n
 | .ins C dx fs=>H dx=some (.own a)/\fs.length<=1000/\dx≠a/\h.get? a=some (instObj C dx) /\
   ∃ mA,h.Ns1 dx mA/\(∀ f,RelO (fs.lookup f) (mA f))/\PySem.Within mA (fs.map (·.1))
 | .own _=>∃ o,h.get? a=some o
 | .xd fs=>∃ mA,h.Ns1 a mA/\∀ f,RelO (fs.lookup f) (mA f)
 | .rng lo hi=>∃ t u v,h.get? a=some { cls:=.type "range",data:=.fields #[.int lo t,.int hi u,.int 1 v] }
 | .frz o u=>h.get? a=some o/\ObjOk H h a u
 | .tbl ps=>h.get? a=some { cls:=.none,data:=.fields ps }
 | .met f x=>h.get? a=some (PySem.W.methodObj (.ref f) (.ref x))
 | .ext φ=>φ h/\(∃ o,h.get? a=some o)/\∀ h1 h2:Heap,φ h1->(∀ o,h1.get? a=some o->h2.get? a=some o)->φ h2
def HOk (H:Hp) (h:Heap):Prop:=∀ a o,H a=some o->ObjOk P w H h a o
end
section
variable {P:Program}{w:World}{H H':Hp}{h h':Heap}{a:Addr}{o:HO}
theorem ObjOk.lt (x:ObjOk P w H h a o):a<h.objs.size:=by
 cases o with
 | lst xs=>obtain ⟨_,_,_,_,e⟩:=x;exact Heap.lt_size e
 | tup xs=>obtain ⟨_,_,_,p⟩:=x;exact p.lt
 | dK kvs=>obtain ⟨_,_,_,_,o,_,_,e,_⟩:=x;exact Heap.lt_size e
 | dT kvs=>obtain ⟨_,_,_,_,o,_,_,e,_⟩:=x;exact Heap.lt_size e
 | set S n=>obtain ⟨o,_,_,_,e,_⟩:=x;exact Heap.lt_size e
 | ins C dx fs=>obtain ⟨_,_,_,e,_⟩:=x;exact Heap.lt_size e
 | own y=>obtain ⟨_,e⟩:=x;exact Heap.lt_size e
 | xd fs=>obtain ⟨_,⟨_,_,_,e,_⟩,_⟩:=x;exact Heap.lt_size e
 | rng lo hi=>obtain ⟨_,_,_,e⟩:=x;exact Heap.lt_size e
 | frz ob u=>obtain ⟨e,_⟩:=x;exact Heap.lt_size e
 | tbl ps=>exact Heap.lt_size (show h.get? a=some _ from x)
 | met f y=>exact Heap.lt_size (show h.get? a=some _ from x)
 | ext φ=>obtain ⟨_,⟨_,e⟩,_⟩:=x;exact Heap.lt_size e
theorem Paired.mapP {α β:Type}{F G:α->β->Prop}:∀ {l₁:List α}{l₂:List β},Paired F l₁ l₂->(∀ a b,F a b->G a b)->Paired G l₁ l₂
 | _,_,.nil,_=>.nil
 | _,_,.cons r t,f=>.cons (f _ _ r) (Paired.mapP t f)
theorem ObjOk.stay (x:ObjOk P w H h a o) (k:∀ b u,(b=a\/H b=some (.own a))->h.get? b=some u->h'.get? b=some u)
  (ho:∀ b,H b=some (.own a)->H' b=some (.own a)) (ht:∀ b xs,H b=some (.tup xs)->H' b=some (.tup xs)):ObjOk P w H' h' a o:=by
 induction o with
 | lst xs=>obtain ⟨z,its,n,r,e⟩:=x;exact ⟨z,its,n,r,k _ _ (.inl rfl) e⟩
 | tup xs=>obtain ⟨z,its,r,ob,e,c⟩:=x;exact ⟨z,its,r,ob,k _ _ (.inl rfl) e,c⟩
 | dK kvs=>obtain ⟨z,y,vs,r,ob,es,ep,e,c⟩:=x;exact ⟨z,y,vs,r,ob,es,ep,k _ _ (.inl rfl) e,c⟩
 | dT kvs =>
  obtain ⟨z,y,xs,r,ob,es,ep,e,c⟩:=x
  exact ⟨z,y,xs,Paired.mapP r fun p q z=>⟨z.1,ht _ _ z.2.1,z.2.2⟩,ob,es,ep,k _ _ (.inl rfl) e,c⟩
 | set S n=>obtain ⟨ob,es,ep,t,e,c⟩:=x;exact ⟨ob,es,ep,t,k _ _ (.inl rfl) e,c⟩
 | ins C dx fs =>
  obtain ⟨d,z,ne,e,mA,⟨od,es,ep,e2,c⟩,r⟩:=x
  exact ⟨ho _ d,z,ne,k _ _ (.inl rfl) e,mA,⟨od,es,ep,k _ _ (.inr d) e2,c⟩,r⟩
 | own y=>obtain ⟨ob,e⟩:=x;exact ⟨ob,k _ _ (.inl rfl) e⟩
 | xd fs=>obtain ⟨mA,⟨od,es,ep,e,c⟩,r⟩:=x;exact ⟨mA,⟨od,es,ep,k _ _ (.inl rfl) e,c⟩,r⟩
 | rng lo hi=>obtain ⟨t,u,v,e⟩:=x;exact ⟨t,u,v,k _ _ (.inl rfl) e⟩
 | frz ob u ih=>obtain ⟨e,q⟩:=x;exact ⟨k _ _ (.inl rfl) e,ih q⟩
 | tbl ps =>
  have e:h.get? a=some { cls:=.none,data:=.fields ps }:=x
  show h'.get? a=some { cls:=.none,data:=.fields ps }
  exact k a _ (.inl rfl) e
 | met f y =>
  have e:h.get? a=some (PySem.W.methodObj (.ref f) (.ref y)):=x
  show h'.get? a=some (PySem.W.methodObj (.ref f) (.ref y))
  exact k a _ (.inl rfl) e
 | ext φ=>obtain ⟨p,⟨o,e⟩,st⟩:=x;exact ⟨st _ _ p fun o q=>k _ _ (.inl rfl) q,⟨o,k _ _ (.inl rfl) e⟩,st⟩
theorem HOk.lt (x:HOk P w H h) (e:H a=some o):a<h.objs.size:=(x a o e).lt
theorem HOk.fresh (x:HOk P w H h) (e:h.objs.size<=a):H a=none:=by
 cases q:H a with
 | none=>rfl
 | some u=>exact absurd (lt_of_lt_of_le (x.lt q) e) (lt_irrefl _)
theorem HOk.kept (x:HOk P w H h) (k:∀ b u,h.get? b=some u->h'.get? b=some u):HOk P w H h':=fun a o e =>
 (x a o e).stay (fun b u _ q=>k b u q) (fun _ q=>q) fun _ _ q=>q
theorem HOk.laid (x:HOk P w H h) (k:∀ b u,h.get? b=some u->h'.get? b=some u) (hp:h.objs.size<=a) (new:ObjOk P w (upd H a o) h' a o):HOk P w (upd H a o) h':=fun b u e=>by
 have hn:=x.fresh hp
 by_cases hb:b=a
 .subst hb;rw [yD] at e;cases e;exact new
 .rw [yL hb] at e
  exact (x b u e).stay (fun c v _ q=>k c v q) (fun c q=>by rw [yL (ybw q hn)];exact q) fun c xs q=>by rw [yL (ybw q hn)];exact q
end
def Rd (H:Hp) (a:Addr) (u:HO):Prop:=H a=some u\/∃ o,H a=some (.frz o u)
theorem Rd.ok {P:Program}{w:World}{H:Hp}{h:Heap}{a:Addr}{u:HO}(r:Rd H a u) (x:HOk P w H h):ObjOk P w H h a u:=by
 rcases r with r|⟨o,r⟩
 .exact x a u r
 .obtain ⟨_,q⟩:=x a _ r
  exact q
noncomputable def Mut:Option HO->Prop
 | some (.lst _)=>True
 | some (.dK _)=>True
 | some (.dT _)=>True
 | some (.set _ _)=>True
 | some (.ins _ _ _)=>True
 | some (.ext _)=>True
 | _=>False
section
variable {P:Program}{w:World}{H:Hp}{h h':Heap}{x e:Addr}{o':HO}
theorem HOk.write (ok:HOk P w H h) (mu:Mut (H x)) (he:e=x\/H e=some (.own x)) (k:∀ b u,b≠e->h.get? b=some u->h'.get? b=some u) (heo:∃ u,h'.get? e=some u)
  (new:ObjOk P w (upd H x o') h' x o'):HOk P w (upd H x o') h':=fun b u q=>by
 have nown:∀ c y,H c=some (.own y)->c≠x:=fun c y r z=>by subst z;rw [r] at mu;exact mu
 have ntup:∀ c xs,H c=some (.tup xs)->c≠x:=fun c xs r z=>by subst z;rw [r] at mu;exact mu
 by_cases hb:b=x
 .subst hb;rw [yD] at q;cases q;exact new
 .rw [yL hb] at q
  by_cases hbe:b=e
  .have q':H b=some (.own x):=by
    rcases he with z|z
    .exact absurd (hbe.trans z) hb
    .rw [hbe];exact z
   rw [q] at q';cases q'
   obtain ⟨v,hv⟩:=heo
   exact ⟨v,by rw [hbe];exact hv⟩
  .refine (ok b u q).stay (fun c v hc r=>k c v ?_ r) (fun c r=>by rw [yL (nown c b r)];exact r) fun c xs r=>by rw [yL (ntup c xs r)];exact r
   rcases hc with rfl|hc
   .exact hbe
   .rintro rfl
    rcases he with z|z
    .exact nown c b hc z
    .rw [hc] at z;cases z;exact hb rfl
end
structure Un (fs ex:List Addr) (H H':Hp) (h h':Heap):Prop where
 keep:∀ b o,h.get? b=some o->H b=none->b∉fs->b∉ex->h'.get? b=some o
 slot:∀ b o,h.get? b=some o->H b=none->b∈fs->b∉ex->∃ sl,h'.get? b=some { o with slots:=sl }
 free:∀ b o,h.get? b=some o->H b=none->b∉ex->H' b=none
 there:∀ b o,h.get? b=some o->b∉ex->∃ o',h'.get? b=some o'
 tups:∀ b xs,H b=some (.tup xs)->H' b=some (.tup xs)
 frzs:∀ b o u,H b=some (.frz o u)->H' b=some (.frz o u)
 tbls:∀ b ps,H b=some (.tbl ps)->∃ more,H' b=some (.tbl (ps++more))
section
variable {fs fs' ex ex':List Addr}{H H1 H2:Hp}{h h1 h2 h':Heap}{a x e:Addr}{o:HO}
theorem Un.any (u:Un fs ex H H1 h h1) {b:Addr}{ob:Obj}(q:h.get? b=some ob) (n:H b=none) (hx:b∉ex):∃ sl,h1.get? b=some { ob with slots:=sl }:=by
 by_cases hb:b∈fs
 .exact u.slot b ob q n hb hx
 .exact ⟨ob.slots,u.keep b ob q n hb hx⟩
theorem Un.kept (k:∀ b u,h.get? b=some u->h'.get? b=some u):Un fs ex H H h h' :=
 ⟨fun b ob q _ _ _=>k b ob q,fun b ob q _ _ _=>⟨ob.slots,k b ob q⟩,fun _ _ _ n _=>n,fun b ob q _=>⟨ob,k b ob q⟩,fun _ _ q=>q,fun _ _ _ q=>q,fun _ ps q=>⟨#[],by rw [q];simp⟩⟩
theorem Un.refl:Un fs ex H H h h:=Un.kept fun _ _ q=>q
theorem Un.laid (k:∀ b u,h.get? b=some u->h'.get? b=some u) (hp:h.objs.size<=a) (hn:H a=none):Un fs ex H (upd H a o) h h' where
 keep:=fun b u q _ _ _=>k b u q
 slot:=fun b u q _ _ _=>⟨u.slots,k b u q⟩
 free:=fun b u q n _=>by rw [yL (ne_of_lt (lt_of_lt_of_le (Heap.lt_size q) hp))];exact n
 there:=fun b u q _=>⟨u,k b u q⟩
 tups:=fun b xs q=>by rw [yL (ybw q hn)];exact q
 frzs:=fun b u xs q=>by rw [yL (ybw q hn)];exact q
 tbls:=fun b ps q=>⟨#[],by rw [yL (ybw q hn),q];simp⟩
theorem Un.write (mu:Mut (H x)) (he:e=x\/H e=some (.own x)) (k:∀ b u,b≠e->h.get? b=some u->h'.get? b=some u) (heo:∃ u,h'.get? e=some u):Un fs ex H (upd H x o) h h':=by
 have hx:∀ b,H b=none->b≠x:=fun b n z=>by subst z;rw [n] at mu;exact mu
 have hb:∀ b,H b=none->b≠e:=fun b n z=>by
  subst z
  rcases he with r|r
  .exact hx b n r
  .rw [n] at r;cases r
 have hm:∀ b u,H b=some u->¬ Mut (some u)->b≠x:=fun b u q nm z=>by subst z;rw [q] at mu;exact nm mu
 refine ⟨fun b u q n _ _=>k b u (hb b n) q,fun b u q n _ _=>⟨u.slots,k b u (hb b n) q⟩,fun b u q n _=>by rw [yL (hx b n)];exact n,fun b u q _=>?_,
  fun b xs q=>by rw [yL (hm b _ q fun z=>z)];exact q,fun b u xs q=>by rw [yL (hm b _ q fun z=>z)];exact q,fun b ps q=>⟨#[],by rw [yL (hm b _ q fun z=>z),q];simp⟩⟩
 by_cases hbe:b=e
 .subst hbe;exact heo
 .exact ⟨u,k b u hbe q⟩
end
def trk (h:Heap) (H:Hp):List Addr:=(List.range h.objs.size).filter fun a=>(H a).isSome
def ysq (h:Heap) (H:Hp):Heap:=PySem.W.hideAll h (trk h H)
theorem ypt (h:Heap) (H:Hp):(ysq h H).objs.size=h.objs.size:=PySem.W.hideAll_size _ _
theorem ysr {h:Heap}{H:Hp}{b:Addr}{o:Obj}(e:h.get? b=some o) (n:H b=none):(ysq h H).get? b=some o :=
 PySem.W.hideAll_get _ e fun hm=>by
  have q:(H b).isSome=true:=(List.mem_filter.mp hm).2
  rw [n] at q;simp at q
theorem yvE {h:Heap}{H:Hp}{b:Addr}{o:Obj}(e:(ysq h H).get? b=some o):h.get? b=some o/\H b=none:=by
 have e':h.get? b=some o:=PySem.W.of_hideAll (trk h H) e
 refine ⟨e',?_⟩
 cases q:H b with
 | none=>rfl
 | some x =>
  have hm:b∈trk h H:=List.mem_filter.mpr ⟨List.mem_range.mpr (Heap.lt_size e'),by simp [q]⟩
  have z:(ysq h H).get? b=none:=PySem.W.hideAll_none (trk h H) hm
  rw [z] at e;cases e
noncomputable def yvF (g h:Heap) (L:Addr):List (Addr×Obj):=(List.range h.objs.size).filterMap fun a=>if a=L\/(g.get? a).isSome=true then none else (h.get? a).map fun o=>(a,o)
def rest (g h:Heap) (L d:Addr):List (Addr×Obj):=(yvF g h L).filter fun p=>decide (p.1≠d)
end L2
namespace L2
open PySem PySem.Spec PyProof.Rows
structure Mod (K:PySem.W.Frag) (mg:Str->Option Value) (base:Heap):Prop where
 kin:K.In base
 glob:base.Ns mainGlobals mg
 blt:∃ mb,base.Ns builtinsNs mb/\∀ x:Str,x≠"__name__"->mb x=bootBuiltins x
 nolimit:base.NoLimit
structure Cx where
 prog:Program
 w:World
 K:PySem.W.Frag
 mg:Str->Option Value
 base:Heap
 A:Around
 N:List Str
 s₀:Shared
 H₀:Hp
 env:Env
 outer:List Env
 stack:List Env
 ex:List Addr
 fn:Str->Bool
 calm:Bool
 pn:List (Addr×Obj)
 xe:Value->Shared->Prop
def frs (l:List Env):List Addr:=l.filterMap (·.frame)
abbrev Cx.fs (X:Cx):List Addr:=frs X.outer
noncomputable def Vis (sc:Scope) (x:Str):Prop:=sc.names.lookup x=some .local \/ sc.names.lookup x=some .cell\/sc.names.lookup x=some .free
def Loc (sc:Scope) (x:Str):Prop:=sc.names.lookup x=some .local \/ sc.names.lookup x=some .cell
noncomputable def Look (env:Env) (h:Heap) (m:Str->Option Value) (x:Str) (u:Value):Prop :=
 (env.kindOf x=some .local/\m x=some u)\/((env.kindOf x=some .cell\/env.kindOf x=some .free)/\∃ c,env.cells.lookup x=some c/\h.IsCell c (some u))
structure Cx.Ok (X:Cx):Prop where
 mod:Mod X.K X.mg X.base
 kind:X.env.scope.kind=.function
 glob:X.env.globals=mainGlobals
 blt:X.env.builtins=builtinsNs
 above:X.s₀.heap.objs.size<=X.env.locals
 inj:∀ x y c,X.env.cells.lookup x=some c->X.env.cells.lookup y=some c->x=y
 has:∀ x,(X.env.kindOf x=some .cell\/X.env.kindOf x=some .free)->∃ c,X.env.cells.lookup x=some c
 cab:∀ x c,X.fn x=true->X.env.cells.lookup x=some c->X.s₀.heap.objs.size<=c
 hd:X.calm=true->X.A.handled=none
 frames:X.A.frames=some X.stack
 stk:X.stack=X.outer\/(X.stack=X.env::X.outer/\X.env.frame=some X.env.locals)
 exf:∀ b∈X.ex,b≠X.env.locals/\∀ x c,X.env.cells.lookup x=some c->c≠b
 bs:∀ b o,X.base.get? b=some o->X.s₀.heap.get? b=some o/\X.H₀ b=none
 bsz:X.base.objs.size<=X.s₀.heap.objs.size
 noex:∀ b o,X.base.get? b=some o->b∉X.ex
 exfs:∀ b∈X.ex,b∉X.fs
 funs:X.s₀.heap.FunFrames X.base X.outer
 frf:∀ b∈X.fs,X.H₀ b=none
structure Inv (X:Cx) (pins:List (Addr×Obj)) (σ:List (Option V)) (H:Hp) (s:Shared):Prop where
 ok:X.Ok
 os:s.os=X.s₀.os
 bare:AllBare s.gens
 base:Un X.fs X.ex X.H₀ H X.s₀.heap s.heap
 loc:∃ m,s.heap.Ns X.env.locals m/\∀ (i:Nat) (x:Str) (v:V),X.N[i]?=some x->σ[i]?=some (some v)->Vis X.env.scope x->∃ u,RelV v u/\Look X.env s.heap m x u
 cell:∀ x c,X.env.cells.lookup x=some c->∃ v,s.heap.IsCell c v
 free:H X.env.locals=none
 freeC:∀ x c,X.env.cells.lookup x=some c->H c=none
 pin:∀ p∈X.pn++pins,s.heap.get? p.1=some p.2/\H p.1=none/\p.1≠X.env.locals/\p.1∉X.fs/\∀ v,p.2.data≠.cell v
 hok:HOk X.prog X.w H s.heap
 len:σ.length=X.N.length
section
variable {X:Cx}{pins:List (Addr×Obj)}{σ:List (Option V)}{H H':Hp}{s:Shared}{h':Heap}
theorem Cx.Ok.nofr (ok:X.Ok) {b:Addr}{o:Obj}(e:X.base.get? b=some o):b∉X.fs:=fun hb=>by
 have:=(ok.funs.mem hb).1
 rw [e] at this;cases this
theorem Inv.bs (I:Inv X pins σ H s):∀ b o,X.base.get? b=some o->s.heap.get? b=some o/\H b=none:=fun b o e =>
 ⟨I.base.keep b o (I.ok.bs b o e).1 (I.ok.bs b o e).2 (I.ok.nofr e) (I.ok.noex b o e),I.base.free b o (I.ok.bs b o e).1 (I.ok.bs b o e).2 (I.ok.noex b o e)⟩
theorem Inv.bk (I:Inv X pins σ H s):∀ b o,X.base.get? b=some o->s.heap.get? b=some o:=fun b o e=>(I.bs b o e).1
theorem Inv.mod (I:Inv X pins σ H s):Mod X.K X.mg X.base:=I.ok.mod
theorem Inv.kIn (I:Inv X pins σ H s):X.K.In s.heap:=I.ok.mod.kin.keeps I.bk
theorem Inv.lt (I:Inv X pins σ H s):X.env.locals<s.heap.objs.size:=let ⟨_,hn,_⟩:=I.loc;hn.lt
theorem Inv.sz (I:Inv X pins σ H s):X.s₀.heap.objs.size<=s.heap.objs.size:=Nat.le_trans I.ok.above (le_of_lt I.lt)
theorem Inv.nofs (I:Inv X pins σ H s) {a:Addr}(h:s.heap.objs.size<=a):a∉X.fs:=fun hb=>by
 obtain ⟨_,o,ho,_⟩:=I.ok.funs.mem hb
 exact absurd (lt_of_lt_of_le (Heap.lt_size ho) (Nat.le_trans I.sz h)) (lt_irrefl _)
theorem Inv.cne (I:Inv X pins σ H s):∀ x c,X.env.cells.lookup x=some c->c≠X.env.locals:=fun x c e z=>by
 obtain ⟨v,o,ho,hd⟩:=I.cell x c e
 obtain ⟨m,⟨o',es,ep,ho',hd',_⟩,_⟩:=I.loc
 rw [z,ho'] at ho;cases ho;rw [hd'] at hd;cases hd
theorem Inv.funs (I:Inv X pins σ H s):s.heap.FunFrames X.base X.outer:=by
 have all:∀ (l:List Env),(∀ b∈frs l,b∈X.fs)->X.s₀.heap.FunFrames X.base l->s.heap.FunFrames X.base l:=by
  intro l
  induction l with
  | nil=>intro _ _;trivial
  | cons env r ih =>
   intro hs hl
   obtain ⟨hk,⟨L,o,hf,hn,ho,hd⟩,hr⟩:=hl
   have hL:L∈X.fs:=hs L (by unfold frs;rw [List.filterMap_cons,hf];exact mem_cons_self)
   obtain ⟨sl,e⟩:=I.base.slot L o ho (I.ok.frf L hL) hL fun z=>I.ok.exfs L z hL
   exact ⟨hk,⟨L,_,hf,hn,e,hd⟩,ih (fun b hb=>hs b (by unfold frs;rw [List.filterMap_cons,hf];exact mem_cons_of_mem _ hb)) hr⟩
 exact all X.outer (fun _ hb=>hb) I.ok.funs
theorem Inv.stack (I:Inv X pins σ H s):s.heap.FunFrames X.base X.stack:=by
 rcases I.ok.stk with e|⟨e,hf⟩
 .rw [e];exact I.funs
 .rw [e]
  obtain ⟨m,hn,_⟩:=I.loc
  refine .cons (by rw [I.ok.kind];decide) hf hn ?_ I.funs
  exact Heap.get?_none_of_le (Nat.le_trans I.ok.bsz I.ok.above)
theorem Inv.stkSub (I:Inv X pins σ H s):∀ b∈frs X.stack,b∈X.env.locals::X.fs:=fun b hb=>by
 rcases I.ok.stk with e|⟨e,hf⟩
 .rw [e] at hb;exact mem_cons_of_mem _ hb
 .rw [e] at hb
  unfold frs at hb
  rw [List.filterMap_cons,hf] at hb
  exact hb
theorem Inv.stkFree (I:Inv X pins σ H s):∀ b∈frs X.stack,H b=none:=fun b hb=>by
 rcases mem_cons.mp (I.stkSub b hb) with e|hb
 .rw [e];exact I.free
 .obtain ⟨_,o,ho,_⟩:=I.ok.funs.mem hb
  exact I.base.free b o ho (I.ok.frf b hb) fun z=>I.ok.exfs b z hb
theorem Inv.step {g':Array GenState}{t':Nat}{d':Drawn}{ch:List Addr}(I:Inv X pins σ H s)
  (hch:∀ b∈ch,(b∈X.ex\/X.s₀.heap.objs.size<=b)/\b≠X.env.locals/\(∀ x c,X.env.cells.lookup x=some c->c≠b)/\∀ p∈X.pn++pins,p.1≠b)
  (keep:∀ b o,b≠X.env.locals->b∉X.fs->b∉ch->s.heap.get? b=some o->H b=none->h'.get? b=some o)
  (slot:∀ b o,b≠X.env.locals->b∈X.fs->b∉ch->s.heap.get? b=some o->H b=none->∃ sl,h'.get? b=some { o with slots:=sl }) (free:∀ b o,b∉ch->s.heap.get? b=some o->H b=none->H' b=none)
  (there:∀ b o,b∉ch->s.heap.get? b=some o->∃ o',h'.get? b=some o')
  (tups:∀ b xs,H b=some (.tup xs)->H' b=some (.tup xs)) (frzs:∀ b o u,H b=some (.frz o u)->H' b=some (.frz o u)) (tbls:∀ b ps,H b=some (.tbl ps)->∃ more,H' b=some (.tbl (ps++more)))
  (ns:∀ m,s.heap.Ns X.env.locals m->h'.Ns X.env.locals m) (hok:HOk X.prog X.w H' h') (hg:AllBare g') :
  Inv X pins σ H' { s with heap:=h',gens:=g',drawn:=d',toks:=t' }:=by
 have neL:∀ b o,X.s₀.heap.get? b=some o->b≠X.env.locals:=fun b o e=>ne_of_lt (lt_of_lt_of_le (Heap.lt_size e) I.ok.above)
 have neC:∀ b o,X.s₀.heap.get? b=some o->b∉X.ex->b∉ch:=fun b o e hx hb=>by
  rcases (hch b hb).1 with z|z
  .exact hx z
  .exact absurd (lt_of_lt_of_le (Heap.lt_size e) z) (lt_irrefl _)
 have cellK:∀ x c,X.env.cells.lookup x=some c->∀ v,s.heap.IsCell c v->h'.IsCell c v:=fun x c e v ⟨o,ho,hd⟩=>by
  have nch:c∉ch:=fun z=>(hch c z).2.2.1 x c e rfl
  by_cases hc:c∈X.fs
  .obtain ⟨sl,q⟩:=slot c o (I.cne x c e) hc nch ho (I.freeC x c e)
   exact ⟨_,q,hd⟩
  .exact ⟨o,keep c o (I.cne x c e) hc nch ho (I.freeC x c e),hd⟩
 refine ⟨I.ok,I.os,hg,⟨fun b o e n hb hx=>?_,fun b o e n hb hx=>?_,fun b o e n hx=>?_,fun b o e hx=>?_,fun b xs e=>tups b xs (I.base.tups b xs e),fun b o xs e=>frzs b o xs (I.base.frzs b o xs e),fun b ps e=>?_⟩,?_,fun x c e=>?_,?_,fun x c e=>?_,fun p hp=>?_,hok,I.len⟩
 .exact keep b o (neL b o e) hb (neC b o e hx) (I.base.keep b o e n hb hx) (I.base.free b o e n hx)
 .obtain ⟨sl,e1⟩:=I.base.slot b o e n hb hx
  obtain ⟨sl',e2⟩:=slot b _ (neL b o e) hb (neC b o e hx) e1 (I.base.free b o e n hx)
  exact ⟨sl',e2⟩
 .obtain ⟨o',e1⟩:=I.base.there b o e hx
  exact free b o' (neC b o e hx) e1 (I.base.free b o e n hx)
 .obtain ⟨o',e1⟩:=I.base.there b o e hx
  exact there b o' (neC b o e hx) e1
 .obtain ⟨m1,e1⟩:=I.base.tbls b ps e
  obtain ⟨m2,e2⟩:=tbls b _ e1
  exact ⟨m1++m2,by rw [e2,Array.append_assoc]⟩
 .obtain ⟨m,hn,hl⟩:=I.loc
  refine ⟨m,ns m hn,fun i x v e1 e2 e3=>?_⟩
  obtain ⟨u,r,l⟩:=hl i x v e1 e2 e3
  refine ⟨u,r,?_⟩
  rcases l with l|⟨k,c,e,z⟩
  .exact .inl l
  .exact .inr ⟨k,c,e,cellK x c e _ z⟩
 .obtain ⟨v,z⟩:=I.cell x c e
  exact ⟨v,cellK x c e v z⟩
 .obtain ⟨m,⟨o,_,_,ho,_⟩,_⟩:=I.loc
  exact free _ o (fun z=>(hch _ z).2.1 rfl) ho I.free
 .obtain ⟨v,o,ho,hd⟩:=I.cell x c e
  exact free c o (fun z=>(hch c z).2.2.1 x c e rfl) ho (I.freeC x c e)
 .obtain ⟨e,n,ne,nf,d⟩:=I.pin p hp
  have nch:p.1∉ch:=fun z=>(hch p.1 z).2.2.2 p hp rfl
  exact ⟨keep p.1 p.2 ne nf nch e n,free p.1 p.2 nch e n,ne,nf,d⟩
theorem Inv.un {t':Nat}(I:Inv X pins σ H s) (u:Un X.fs [] H H' s.heap h') (hok:HOk X.prog X.w H' h'):Inv X pins σ H' { s with heap:=h',toks:=t' }:=by
 obtain ⟨m,⟨o,es,ep,ho,r⟩,_⟩:=id I.loc
 obtain ⟨sl,hL⟩:=u.any ho I.free (by simp)
 exact I.step (g':=s.gens) (d':=s.drawn) (ch:=[]) (fun _ z=>nomatch z) (fun b o _ hb _ e n=>u.keep b o e n hb (by simp)) (fun b o _ hb _ e n=>u.slot b o e n hb (by simp)) (fun b o _ e n=>u.free b o e n (by simp)) (fun b o _ e=>u.there b o e (by simp)) u.tups u.frzs u.tbls (fun m' hm=>by
  obtain ⟨o',es',ep',ho',r'⟩:=hm
  rw [ho] at ho';cases ho'
  exact ⟨_,es',ep',hL,r'⟩) hok I.bare
theorem Inv.call {g':Array GenState}{t':Nat}{d':Drawn}{ch:List Addr}(I:Inv X pins σ H s) (u:Un (frs X.stack) ch H H' s.heap h') (hok:HOk X.prog X.w H' h') (hg:AllBare g')
  (hch:∀ b∈ch,(b∈X.ex\/X.s₀.heap.objs.size<=b)/\b≠X.env.locals/\(∀ x c,X.env.cells.lookup x=some c->c≠b)/\∀ p∈X.pn++pins,p.1≠b) :
  Inv X pins σ H' { s with heap:=h',gens:=g',drawn:=d',toks:=t' }:=by
 obtain ⟨m,⟨o,es,ep,ho,r⟩,_⟩:=id I.loc
 obtain ⟨sl,hL⟩:=u.any ho I.free fun z=>(hch _ z).2.1 rfl
 exact I.step (ch:=ch) hch (fun b o hL hb hc e n=>u.keep b o e n (fun z=>(mem_cons.mp (I.stkSub b z)).elim hL hb) hc) (fun b o _ _ hc e n=>u.any e n hc) (fun b o hc e n=>u.free b o e n hc) (fun b o hc e=>u.there b o e hc) u.tups u.frzs u.tbls (fun m' hm=>by
  obtain ⟨o',es',ep',ho',r'⟩:=hm
  rw [ho] at ho';cases ho'
  exact ⟨_,es',ep',hL,r'⟩) hok hg
theorem Inv.turned {t':Nat}{it:Addr}(I:Inv X pins σ H s) (k:∀ b o,b≠it->s.heap.get? b=some o->h'.get? b=some o) (hn:H it=none) (hL:it≠X.env.locals)
  (h1:it∈X.ex\/X.s₀.heap.objs.size<=it) (h2:∀ x c,X.env.cells.lookup x=some c->c≠it) (h3:∀ p∈X.pn++pins,p.1≠it):Inv X pins σ H { s with heap:=h',toks:=t' }:=by
 have nit:∀ b u,H b=some u->b≠it:=fun b u e z=>by rw [z,hn] at e;cases e
 refine I.step (g':=s.gens) (d':=s.drawn) (ch:=[it]) (fun b hb=>?_) (fun b o _ _ hc e _=>k b o (fun z=>hc (by simp [z])) e) (fun b o _ _ hc e _=>⟨o.slots,k b o (fun z=>hc (by simp [z])) e⟩) (fun _ _ _ _ n=>n)
  (fun b o hc e=>⟨o,k b o (fun z=>hc (by simp [z])) e⟩) (fun _ _ e=>e) (fun _ _ _ e=>e) (fun b ps e=>⟨#[],by rw [e];simp⟩) (fun m hm=>?_) (fun b u e=>?_) I.bare
 .have e:b=it:=by simpa using hb
  subst e
  exact ⟨h1,hL,h2,h3⟩
 .obtain ⟨o,es,ep,ho,r⟩:=hm
  exact ⟨o,es,ep,k _ o (Ne.symm hL) ho,r⟩
 .refine (I.hok b u e).stay (fun c v hc q=>k c v ?_ q) (fun _ q=>q) fun _ _ q=>q
  rcases hc with z|z
  .rw [z];exact nit b u e
  .exact nit c _ z
theorem Inv.tok (I:Inv X pins σ H s) (t:Nat):Inv X pins σ H { s with toks:=t }:=I.un (h':=s.heap) (t':=t) Un.refl I.hok
theorem Inv.kept {t':Nat}(I:Inv X pins σ H s) (k:∀ b u,s.heap.get? b=some u->h'.get? b=some u):Inv X pins σ H { s with heap:=h',toks:=t' }:=I.un (Un.kept k) (I.hok.kept k)
theorem Inv.laid {a:Addr}{o:HO}{t':Nat}(I:Inv X pins σ H s) (k:∀ b u,s.heap.get? b=some u->h'.get? b=some u) (hp:s.heap.objs.size<=a) (new:ObjOk X.prog X.w (upd H a o) h' a o) :
  Inv X pins σ (upd H a o) { s with heap:=h',toks:=t' }:=I.un (Un.laid k hp (I.hok.fresh hp)) (I.hok.laid k hp new)
theorem Inv.write {x e:Addr}{o:HO}{t':Nat}(I:Inv X pins σ H s) (mu:Mut (H x)) (he:e=x\/H e=some (.own x)) (k:∀ b u,b≠e->s.heap.get? b=some u->h'.get? b=some u) (heo:∃ u,h'.get? e=some u)
  (new:ObjOk X.prog X.w (upd H x o) h' x o):Inv X pins σ (upd H x o) { s with heap:=h',toks:=t' }:=I.un (Un.write mu he k heo) (I.hok.write mu he k heo new)
theorem Inv.pins_of {pins':List (Addr×Obj)}(I:Inv X pins σ H s) (h:∀ p∈pins',s.heap.get? p.1=some p.2/\H p.1=none/\p.1≠X.env.locals/\p.1∉X.fs/\∀ v,p.2.data≠.cell v):Inv X pins' σ H s :=
 ⟨I.ok,I.os,I.bare,I.base,I.loc,I.cell,I.free,I.freeC,fun p hp=>(List.mem_append.mp hp).elim (fun z=>I.pin p (mem_append_left _ z)) (h p),I.hok,I.len⟩
theorem ynr {N:List Str}(hN:N.Nodup) {i j:Nat}{x:Str}(a:N[i]?=some x) (b:N[j]?=some x):i=j:=by
 obtain ⟨h1,e1⟩:=List.getElem?_eq_some_iff.mp a
 obtain ⟨h2,e2⟩:=List.getElem?_eq_some_iff.mp b
 exact (List.getElem_inj hN).mp (e1.trans e2.symm)
theorem ypu {M:Model}{A:Around}{E:Value->Shared->Prop}{i:Nat}{x:Str}{v:V}{u:Value}{Q:Unit->Shared->Prop}(I:Inv X pins σ H s) (hN:X.N.Nodup) (hi:X.N[i]?=some x) (hx:Loc X.env.scope x) (r:RelV v u)
  (h:∀ s',Inv X pins (σ.set i (some v)) H s'->(∃ a,Heap.SameBut a s.heap s'.heap/\(a=X.env.locals\/X.env.cells.lookup x=some a))->Q () s') (hf:X.fn x=true\/X.env.scope.names.lookup x=some .local:=by first|exact .inl rfl|exact .inr rfl|assumption):wpAny M A (storeName X.env x u) Q E s:=by
 obtain ⟨m,hn,hl⟩:=id I.loc
 have hcls:(X.env.scope.kind == .class || (X.env.scope.kind == .module && X.env.locals != X.env.globals))=false:=by rw [I.ok.kind];rfl
 have hiσ:i<σ.length:=by rw [I.len];exact (List.getElem?_eq_some_iff.mp hi).1
 have cne:=I.cne
 have tracked:∀ {a:Addr}{h':Heap},(∃ o,s.heap.get? a=some o/\H a=none)->Heap.SameBut a s.heap h'->HOk X.prog X.w H h':=fun {a h'} ha hs b ob e=>by
  obtain ⟨_,_,hfree⟩:=ha
  refine (I.hok b ob e).stay (fun c w' hc q=>(hs.2 c ?_).trans q) (fun _ q=>q) fun _ _ q=>q
  rintro rfl
  rcases hc with rfl|hc
  .rw [hfree] at e;cases e
  .rw [hfree] at hc;cases hc
 rcases hx with hk|hk
 .refine wpAny_storeName_local hk hn (fun h' hn' hs=>?_) hcls
  obtain ⟨oL,_,_,hoL,_⟩:=id hn
  refine h _ ⟨I.ok,I.os,I.bare,⟨fun b o e n hb hx=>?_,fun b o e n hb hx=>?_,I.base.free,fun b o e hx=>?_,I.base.tups,I.base.frzs,I.base.tbls⟩,⟨_,hn',fun j y v' e1 e2 e3=>?_⟩,fun y c e=>?_,I.free,I.freeC,fun p hp=>?_,tracked ⟨oL,hoL,I.free⟩ hs,by simpa using I.len⟩ ⟨_,hs,.inl rfl⟩
  .exact (hs.2 b (ne_of_lt (lt_of_lt_of_le (Heap.lt_size e) I.ok.above))).trans (I.base.keep b o e n hb hx)
  .obtain ⟨sl,e1⟩:=I.base.slot b o e n hb hx
   exact ⟨sl,(hs.2 b (ne_of_lt (lt_of_lt_of_le (Heap.lt_size e) I.ok.above))).trans e1⟩
  .obtain ⟨o',e1⟩:=I.base.there b o e hx
   exact ⟨o',(hs.2 b (ne_of_lt (lt_of_lt_of_le (Heap.lt_size e) I.ok.above))).trans e1⟩
  .by_cases hj:j=i
   .subst hj
    rw [hi] at e1;cases e1
    rw [getElem?_set_self hiσ] at e2
    cases e2
    exact ⟨u,r,.inl ⟨hk,by simp⟩⟩
   .rw [getElem?_set_ne (Ne.symm hj)] at e2
    obtain ⟨u',r',q⟩:=hl j y v' e1 e2 e3
    refine ⟨u',r',?_⟩
    rcases q with ⟨k,e⟩|⟨k,c,e,z⟩
    .refine .inl ⟨k,?_⟩
     have:y≠x:=fun e=>hj (ynr hN e1 (e ▸ hi))
     simp [this,e]
    .exact .inr ⟨k,c,e,z.sameBut hs (cne y c e)⟩
  .obtain ⟨w',z⟩:=I.cell y c e
   exact ⟨w',z.sameBut hs (cne y c e)⟩
  .obtain ⟨e,n,ne,nf,d⟩:=I.pin p hp
   exact ⟨(hs.2 p.1 ne).trans e,n,ne,nf,d⟩
 .have hfn:X.fn x=true:=by
   rcases hf with z|z
   .exact z
   .rw [z] at hk;cases hk
  obtain ⟨c,hc⟩:=I.ok.has x (.inl hk)
  obtain ⟨w',z⟩:=I.cell x c hc
  refine wpAny_storeName_cell I.ok.kind hk hc z (fun h' hc' hs=>?_)
  obtain ⟨oc,hoc,hocd⟩:=id z
  refine h { s with heap:=h' } ⟨I.ok,I.os,I.bare,⟨fun b o e n hb hx=>?_,fun b o e n hb hx=>?_,I.base.free,fun b o e hx=>?_,I.base.tups,I.base.frzs,I.base.tbls⟩,⟨m,hn.sameBut hs (Ne.symm (cne x c hc)),fun j y v' e1 e2 e3=>?_⟩,fun y c' e=>?_,I.free,I.freeC,fun p hp=>?_,tracked ⟨oc,hoc,I.freeC x c hc⟩ hs,by simpa using I.len⟩ ⟨c,hs,.inr hc⟩
  .exact (hs.2 b (ne_of_lt (lt_of_lt_of_le (Heap.lt_size e) (I.ok.cab x c hfn hc)))).trans (I.base.keep b o e n hb hx)
  .obtain ⟨sl,e1⟩:=I.base.slot b o e n hb hx
   exact ⟨sl,(hs.2 b (ne_of_lt (lt_of_lt_of_le (Heap.lt_size e) (I.ok.cab x c hfn hc)))).trans e1⟩
  .obtain ⟨o',e1⟩:=I.base.there b o e hx
   exact ⟨o',(hs.2 b (ne_of_lt (lt_of_lt_of_le (Heap.lt_size e) (I.ok.cab x c hfn hc)))).trans e1⟩
  .by_cases hj:j=i
   .subst hj
    rw [hi] at e1;cases e1
    rw [getElem?_set_self hiσ] at e2
    cases e2
    exact ⟨u,r,.inr ⟨.inl hk,c,hc,hc'⟩⟩
   .rw [getElem?_set_ne (Ne.symm hj)] at e2
    obtain ⟨u',r',q⟩:=hl j y v' e1 e2 e3
    refine ⟨u',r',?_⟩
    rcases q with q|⟨k,c',e,z'⟩
    .exact .inl q
    .refine .inr ⟨k,c',e,z'.sameBut hs ?_⟩
     rintro rfl
     exact hj (ynr hN e1 (I.ok.inj _ _ _ e hc ▸ hi))
  .by_cases hcc:c'=c
   .subst hcc;exact ⟨_,hc'⟩
   .obtain ⟨w2,z2⟩:=I.cell y c' e
    exact ⟨w2,z2.sameBut hs hcc⟩
  .obtain ⟨e,n,ne,nf,d⟩:=I.pin p hp
   refine ⟨(hs.2 p.1 ?_).trans e,n,ne,nf,d⟩
   intro q
   rw [q,hoc] at e
   have q':oc=p.2:=Option.some.inj e
   exact d w' (by rw [<- q'];exact hocd)
theorem yns {M:Model}{A:Around}{E:Value->Shared->Prop}{i:Nat}{x:Str}{v:V}{u:Value}{Q:Unit->Shared->Prop}(I:Inv X pins σ H s) (hN:X.N.Nodup) (hi:X.N[i]?=some x) (hx:Loc X.env.scope x) (r:RelV v u)
  (h:∀ s',Inv X pins (σ.set i (some v)) H s'->Q () s') (hf:X.fn x=true\/X.env.scope.names.lookup x=some .local:=by first|exact .inl rfl|exact .inr rfl|assumption):wpAny M A (storeName X.env x u) Q E s :=
 ypu I hN hi hx r (fun s' I' _=>h s' I') hf
theorem Inv.call' {s':Shared}{ch:List Addr}(I:Inv X pins σ H s) (ho:s'.os=s.os) (u:Un (frs X.stack) ch H H' s.heap s'.heap) (hok:HOk X.prog X.w H' s'.heap) (hg:AllBare s'.gens)
  (hch:∀ b∈ch,(b∈X.ex\/X.s₀.heap.objs.size<=b)/\b≠X.env.locals/\(∀ x c,X.env.cells.lookup x=some c->c≠b)/\∀ p∈X.pn++pins,p.1≠b):Inv X pins σ H' s':=by
 obtain ⟨h',g',d',t',o'⟩:=s'
 have e:o'=s.os:=ho
 subst e
 exact I.call (g':=g') (t':=t') (d':=d') u hok hg hch
end
abbrev XK:=Value->Option Addr->Hp->Prop
abbrev St:=List (Option V)
abbrev VK:=V->Hp->Prop
abbrev TE:=St->Hp->VK->Prop
abbrev TT:=St->Hp->(Bool->Hp->Prop)->Prop
abbrev TA:=St->Hp->(List V->Hp->Prop)->Prop
structure Ends where
 nx:St->Hp->Prop
 rt:VK
 bk:St->Hp->Prop:=fun _ _=>False
 ct:St->Hp->Prop:=fun _ _=>False
abbrev TS:=Ends->St->Hp->Prop
def EP (X:Cx) (pins:List (Addr×Obj)) (σ:St) (Q:VK) (u:Value) (s':Shared):Prop:=∃ v H',Inv X pins σ H' s'/\RelV v u/\Q v H'
noncomputable def TP (X:Cx) (pins:List (Addr×Obj)) (σ:St) (Q:Bool->Hp->Prop) (b:Bool) (s':Shared):Prop:=∃ H',Inv X pins σ H' s'/\Q b H'
def AP (X:Cx) (pins:List (Addr×Obj)) (σ:St) (Q:List V->Hp->Prop) (us:List Value) (s':Shared):Prop:=∃ vs H',Inv X pins σ H' s'/\Vals vs us/\Q vs H'
def SP (X:Cx) (pins:List (Addr×Obj)) (D:Ends) (f:Flow) (s':Shared):Prop :=
 match f with
 | .next=>∃ σ' H',Inv X pins σ' H' s'/\D.nx σ' H'
 | .brk=>∃ σ' H',Inv X pins σ' H' s'/\D.bk σ' H'
 | .cont=>∃ σ' H',Inv X pins σ' H' s'/\D.ct σ' H'
 | .ret u=>∃ v σ' H',Inv X pins σ' H' s'/\RelV v u/\D.rt v H'
def PE (X:Cx) (e:Expr) (t:TE):Prop :=
 ∀ (pins:List (Addr×Obj)) (s:Shared) (σ:St) (H:Hp) (Q:VK),Inv X pins σ H s->t σ H Q->wpAny (model X.prog X.w) X.A (eval e X.env) (EP X pins σ Q) X.xe s
def PT (X:Cx) (e:Expr) (t:TT):Prop :=
 ∀ (pins:List (Addr×Obj)) (s:Shared) (σ:St) (H:Hp) (Q:Bool->Hp->Prop),Inv X pins σ H s->t σ H Q->wpAny (model X.prog X.w) X.A (isTrue e X.env (eval e X.env)) (TP X pins σ Q) X.xe s
def PW (X:Cx) (e:Expr) (t:TT):Prop :=
 ∀ (whole:Sem Value) (pins:List (Addr×Obj)) (s:Shared) (σ:St) (H:Hp) (Q:Bool->Hp->Prop),Inv X pins σ H s->t σ H Q->wpAny (model X.prog X.w) X.A (isTrue e X.env whole) (TP X pins σ Q) X.xe s
theorem PW.pt {X:Cx}{e:Expr}{t:TT}(h:PW X e t):PT X e t:=h _
def PA (X:Cx) (es:List Expr) (t:TA):Prop :=
 ∀ (pos:Pos) (pins:List (Addr×Obj)) (s:Shared) (σ:St) (H:Hp) (Q:List V->Hp->Prop),Inv X pins σ H s->t σ H Q->wpAny (model X.prog X.w) X.A (spliced (backTo pos (starEach es X.env))) (AP X pins σ Q) X.xe s
def PS (X:Cx) (st:Stmt) (t:TS):Prop :=
 ∀ (pins:List (Addr×Obj)) (s:Shared) (σ:St) (H:Hp) (D:Ends),Inv X pins σ H s->t D σ H->wpAny (model X.prog X.w) X.A (exec st X.env) (SP X pins D) X.xe s
def PSs (X:Cx) (st:List Stmt) (t:TS):Prop :=
 ∀ (pins:List (Addr×Obj)) (s:Shared) (σ:St) (H:Hp) (D:Ends),Inv X pins σ H s->t D σ H->wpAny (model X.prog X.w) X.A (execs st X.env) (SP X pins D) X.xe s
theorem thn {α:Type}{t:Sem α}{Q Q':α->Shared->Prop}{M:Model}{A:Around}{E:Value->Shared->Prop}{s:Shared}(h:wpAny M A t Q E s) (hQ:∀ a s,Q a s->Q' a s):wpAny M A t Q' E s:=wpAny_mono h hQ fun _ _ x=>x
end L2
namespace L2
open PySem PySem.Spec PyProof.Rows
section
variable {X:Cx}
def ypn (i:Nat):TE:=fun σ H Q=>∃ v,σ[i]?=some (some v)/\Q v H
def tC (v:V):TE:=fun _ H Q=>Q v H
theorem yiB {i:Nat}{x:Str}{pos:Pos}(hN:X.N[i]?=some x) (hv:Vis X.env.scope x) (hd:(x == ("__debug__":Str))=false:=by decide) (hcd:(x == ("__classdict__":Str))=false:=by decide):PE X (.Name x pos) (ypn i):=by
 intro pins s σ H Q I h
 obtain ⟨v,e,h⟩:=h
 obtain ⟨m,hn,hl⟩:=I.loc
 obtain ⟨u,r,l⟩:=hl i x v hN e hv
 have fin:EP X pins σ Q u s:=⟨v,H,I,r,h⟩
 rcases l with ⟨hk,hm⟩|⟨hk,c,hc,hcell⟩
 .exact wpAny_Name (wpAny_loadName_local I.ok.kind hk hn hm fin) hd
 .rcases hk with hk|hk
  .exact wpAny_Name (wpAny_loadName_cell I.ok.kind hk hc hcell fin) hd
  .exact wpAny_Name (wpAny_loadName_free I.ok.kind hk hc hcell fin hcd) hd
theorem yyp {i j pos}:PE X (.Constant (.int i) j pos) (tC (.int i)):=fun _ _ _ H _ I h=>wpAny_Constant_int ⟨.int i,H,I.tok _,⟨_,rfl⟩,h⟩
theorem yBv {b j pos}:PE X (.Constant (.bool b) j pos) (tC (.bl b)):=fun _ _ _ H _ I h=>Constant_bool ⟨.bl b,H,I,rfl,h⟩
theorem yyq {j pos}:PE X (.Constant .none j pos) (tC .non):=fun _ _ _ H _ I h=>Constant_none ⟨.non,H,I,rfl,h⟩
theorem yyr {x j pos}:PE X (.Constant (.str x) j pos) (tC (.str x)):=fun _ _ _ H _ I h=>Calls.Constant_str ⟨.str x,H,I.tok _,⟨_,rfl⟩,h⟩
def Gl (X:Cx) (x:Str):Prop:=X.env.kindOf x=some .globalImplicit
theorem yhh {E:Value->Shared->Prop}{pins:List (Addr×Obj)}{s:Shared}{σ:St}{H:Hp}{x:Str}{u:Value}{pos:Pos}{Q:Value->Shared->Prop}(I:Inv X pins σ H s) (hg:Gl X x) (hm:X.mg x=some u) (h:Q u s)
  (hd:(x == ("__debug__":Str))=false:=by decide):wpAny (model X.prog X.w) X.A (eval (.Name x pos) X.env) Q E s :=
 Calls.Name_function_global I.ok.kind hg (Calls.loadGlobal_global (by rw [I.ok.glob];exact I.mod.glob.keeps I.bk) hm h) hd
theorem yki {E:Value->Shared->Prop}{pins:List (Addr×Obj)}{s:Shared}{σ:St}{H:Hp}{x:Str}{u:Value}{pos:Pos}{Q:Value->Shared->Prop}(I:Inv X pins σ H s) (hg:Gl X x) (hm:X.mg x=none) (hv:bootBuiltins x=some u) (h:Q u s)
  (hn:x≠"__name__":=by decide) (hd:(x == ("__debug__":Str))=false:=by decide):wpAny (model X.prog X.w) X.A (eval (.Name x pos) X.env) Q E s:=by
 obtain ⟨mb,h1,h2⟩:=I.mod.blt
 exact Calls.Name_function_global I.ok.kind hg (Calls.loadGlobal_builtin (by rw [I.ok.glob];exact I.mod.glob.keeps I.bk) hm (by rw [I.ok.blt];exact h1.keeps I.bk) ((h2 x hn).trans hv) h) hd
theorem ylP {x:Str}{v:V}{u:Value}{pos:Pos}(hg:Gl X x) (hm:X.mg x=some u) (r:RelV v u) (hd:(x == ("__debug__":Str))=false:=by decide):PE X (.Name x pos) (tC v) :=
 fun _ _ _ H _ I h=>yhh I hg hm ⟨v,H,I,r,h⟩ hd
theorem yvG {x:Str}{v:V}{u:Value}{pos:Pos}(hg:Gl X x) (hm:X.mg x=none) (hv:bootBuiltins x=some u) (r:RelV v u) (hn:x≠"__name__":=by decide) (hd:(x == ("__debug__":Str))=false:=by decide):PE X (.Name x pos) (tC v) :=
 fun _ _ _ H _ I h=>yki I hg hm hv ⟨v,H,I,r,h⟩ hn hd
variable {a b:Expr}{ta tb:TE}{pos:Pos}
def PC (X:Cx) (op:CmpOp) (a b:Expr) (t:TE):Prop :=
 ∀ (pins:List (Addr×Obj)) (s:Shared) (σ:St) (H:Hp) (Q:VK),Inv X pins σ H s->t σ H Q ->
  wpAny (model X.prog X.w) X.A (eval a X.env) (fun v s₁=>wpAny (model X.prog X.w) X.A (eval b X.env) (fun u s₂=>wpAny (model X.prog X.w) X.A (compareOp op v u) (EP X pins σ Q) X.xe s₂) X.xe s₁) X.xe s
theorem yss (b:Expr) {op:CmpOp}(h:op≠.In) (h2:op≠.NotIn):behindInMarks op b=false:=by
 have e1:(op == CmpOp.In)=false:=by cases op<;>first|rfl|exact absurd rfl h
 have e2:(op == CmpOp.NotIn)=false:=by cases op<;>first|rfl|exact absurd rfl h2
 cases b<;>simp [behindInMarks,e1,e2]
def tB (t:TE):TT:=fun σ H Q=>t σ H fun x H1=>∃ c,x=.bl c/\Q c H1
theorem yys {op:CmpOp}{t:TE}(h:PC X op a b t) (h1:behindInMarks op b=false:=by first|exact yss _ (by decide) (by decide)|rfl):PT X (.Compare a [op] [b] pos) (tB t):=by
 intro pins s σ H Q I hw
 refine wpAny_isTrue_Compare1 (thn (h pins s σ H _ I hw) fun v s1 h1=>thn h1 fun u s2 h2=>thn h2 fun c s3 ⟨x,H1,I1,r1,q1⟩=>?_) h1
 obtain ⟨d,rfl,q⟩:=q1
 cases r1
 exact wpAny_truthy_bool ⟨H1,I1,q⟩
theorem yyt {e:Expr}{t:TE}(h:PE X e t) (he:∀ whole,isTrue e X.env whole=(do let v <- whole;standAt e.pos;holding [v] (truthy v)):=by intro _;rfl):PT X e (tB t):=by
 intro pins s σ H Q I hw
 refine isTrue_plain (thn (h pins s σ H _ I hw) fun v s1 ⟨x,H1,I1,r1,q1⟩=>?_) (he _)
 obtain ⟨d,rfl,q⟩:=q1
 cases r1
 exact wpAny_truthy_bool ⟨H1,I1,q⟩
variable {tA tB':TT}{rest:List Expr}
def yDx (t u:TT):TT:=fun σ H Q=>t σ H fun c H1=>if c=true then u σ H1 Q else Q false H1
def tOr (t u:TT):TT:=fun σ H Q=>t σ H fun c H1=>if c=true then Q true H1 else u σ H1 Q
def yBw (t:TT):TT:=fun σ H Q=>t σ H fun c H1=>Q (!c) H1
theorem yvH (ha:PT X a tA):PW X (.BoolOp .And [a] pos) tA:=by
 intro wh pins s σ H Q I h
 refine isTrue_and (thn (ha pins s σ H Q I h) fun c s1 e=>?_)
 cases c with
 | true=>exact isTrue_and_nil e
 | false=>exact e
theorem yyu (ha:PT X a tA):PW X (.BoolOp .Or [a] pos) tA:=by
 intro wh pins s σ H Q I h
 refine isTrue_or (thn (ha pins s σ H Q I h) fun c s1 e=>?_)
 cases c with
 | false=>exact isTrue_or_nil e
 | true=>exact e
theorem yyv (ha:PT X a tA) (hb:PW X (.BoolOp .And (b::rest) pos) tB'):PW X (.BoolOp .And (a::b::rest) pos) (yDx tA tB'):=by
 intro wh pins s σ H Q I h
 refine isTrue_and (thn (ha pins s σ H _ I h) fun c s1 ⟨H1,I1,q1⟩=>?_)
 cases c with
 | true=>exact hb wh pins s1 σ H1 Q I1 q1
 | false=>exact ⟨H1,I1,q1⟩
theorem yBx (ha:PT X a tA) (hb:PW X (.BoolOp .Or (b::rest) pos) tB'):PW X (.BoolOp .Or (a::b::rest) pos) (tOr tA tB'):=by
 intro wh pins s σ H Q I h
 refine isTrue_or (thn (ha pins s σ H _ I h) fun c s1 ⟨H1,I1,q1⟩=>?_)
 cases c with
 | true=>exact ⟨H1,I1,q1⟩
 | false=>exact hb wh pins s1 σ H1 Q I1 q1
theorem yyw (ha:PT X a tA):PT X (.UnaryOp .Not a pos) (yBw tA):=by
 intro pins s σ H Q I h
 exact isTrue_not (ha pins s σ H (fun c H1=>Q (!c) H1) I h)
def yyx (ta tb:TE):TE:=fun σ H Q=>ta σ H fun x H1=>∃ c,x=.bl c/\if c=true then tb σ H1 Q else Q (.bl false) H1
def yyy (ta:TE):TE:=fun σ H Q=>ta σ H fun x H1=>∃ c,x=.bl c/\Q (.bl (!c)) H1
theorem yyz {op} {t:TE}(h:PE X a t):PE X (.BoolOp op [a] pos) t:=fun pins s σ H Q I hw=>BoolOp_one (h pins s σ H Q I hw)
theorem yyA (ha:PE X a ta) (hb:PE X (.BoolOp .And (b::rest) pos) tb):PE X (.BoolOp .And (a::b::rest) pos) (yyx ta tb):=by
 intro pins s σ H Q I h
 refine BoolOp_and (thn (ha pins s σ H _ I h) fun v s1 ⟨x,H1,I1,r1,q1⟩=>?_)
 obtain ⟨c,rfl,q1⟩:=q1
 cases r1
 refine wpAny_truthy_bool ?_
 cases c with
 | true=>exact hb pins s1 σ H1 Q I1 q1
 | false=>exact ⟨.bl false,H1,I1,rfl,q1⟩
theorem yyB (ha:PE X a ta):PE X (.UnaryOp .Not a pos) (yyy ta):=by
 intro pins s σ H Q I h
 refine UnaryOp_ (thn (ha pins s σ H _ I h) fun v s1 ⟨x,H1,I1,r1,q1⟩=>?_)
 obtain ⟨c,rfl,q1⟩:=q1
 cases r1
 exact not_of (wpAny_truthy_bool ⟨.bl (!c),H1,I1,rfl,q1⟩)
def tIf (t:TT) (ta tb:TE):TE:=fun σ H Q=>t σ H fun c H1=>if c=true then ta σ H1 Q else tb σ H1 Q
theorem yst {c:Expr}(hc:PT X c tA) (ha:PE X a ta) (hb:PE X b tb):PE X (.IfExp c a b pos) (tIf tA ta tb):=by
 intro pins s σ H Q I h
 refine wpAny_IfExp (thn (hc pins s σ H _ I h) fun d s1 ⟨H1,I1,q1⟩=>?_)
 cases d with
 | true=>exact ha pins s1 σ H1 Q I1 q1
 | false=>exact hb pins s1 σ H1 Q I1 q1
end
end L2
namespace L2
open PySem PySem.Spec PyProof.Rows
def SqL (K:PySem.W.Frag) (H:Hp) (a:Addr) (xs:List V):Prop :=
 Rd H a (.lst xs) \/
  ∃ (o:Obj) (its:Array Value) (n:Nat),K.lookup a=some o/\o.cls=.type "list"/\o.dict=none/\o.data=.seq its n/\its.size<=sizeLine/\Vals xs its.toList
def SqT (K:PySem.W.Frag) (H:Hp) (a:Addr) (xs:List V):Prop :=
 Rd H a (.tup xs) \/
  ∃ (o:Obj) (its:Array Value) (n:Nat),K.lookup a=some o/\o.cls=.type "tuple"/\o.data=.seq its n/\its.size<=sizeLine/\Vals xs its.toList
noncomputable def yEm:Value->Option V
 | .none=>some .non
 | .bool b=>some (.bl b)
 | .int i _=>some (.int i)
 | .str x _=>some (.str x)
 | .bytes b _=>some (.byt b)
 | .float b _=>some (.flt b)
 | .ref a=>some (.ref a)
 | .type n=>some (.ty n)
 | _=>none
theorem RelV.abs {x:V}{u:Value}(r:RelV x u):yEm u=some x:=by
 cases x with
 | non=>cases r;rfl
 | bl _=>cases r;rfl
 | int _=>obtain ⟨t,rfl⟩:=r;rfl
 | str _=>obtain ⟨t,rfl⟩:=r;rfl
 | byt _=>obtain ⟨t,rfl⟩:=r;rfl
 | flt _=>obtain ⟨t,rfl⟩:=r;rfl
 | ref _=>cases r;rfl
 | ty _=>cases r;rfl
theorem RelV.inj {x y:V}{u:Value}(r:RelV x u) (q:RelV y u):x=y:=Option.some.inj (r.abs.symm.trans q.abs)
theorem Vals.inj:∀ {xs ys:List V}{us:List Value},Vals xs us->Vals ys us->xs=ys
 | _,_,_,.nil,.nil=>rfl
 | _,_,_,.cons r t,.cons r' t'=>by rw [r.inj r',Vals.inj t t']
section
variable {X:Cx}{pins:List (Addr×Obj)}{σ:St}{H:Hp}{s:Shared}{a:Addr}{xs ys:List V}
theorem SqL.of {K:PySem.W.Frag}(h:H a=some (.lst xs)):SqL K H a xs:=.inl (.inl h)
theorem SqT.of {K:PySem.W.Frag}(h:H a=some (.tup xs)):SqT K H a xs:=.inl (.inl h)
theorem Inv.list (I:Inv X pins σ H s) (h:SqL X.K H a xs):∃ its:List Value,Vals xs its/\PlainL s.heap a its.toArray/\xs.length<=sizeLine:=by
 rcases h with h|⟨o,its,n,hk,hc,hd,hs,hz,r⟩
 .obtain ⟨z,its,n,r,e⟩:=h.ok I.hok
  exact ⟨its,r,⟨_,n,e,rfl,rfl,rfl⟩,z⟩
 .refine ⟨its.toList,r,⟨o,n,I.kIn a o hk,hc,hd,by simpa using hs⟩,?_⟩
  have e:=r.length
  simp only [Array.length_toList] at e
  omega
theorem Inv.tuple (I:Inv X pins σ H s) (h:SqT X.K H a xs):∃ its:List Value,Vals xs its/\IsTup s.heap a its.toArray/\xs.length<=sizeLine:=by
 rcases h with h|⟨o,its,n,hk,hc,hs,hz,r⟩
 .obtain ⟨z,its,r,p⟩:=h.ok I.hok
  exact ⟨its,r,p,z⟩
 .refine ⟨its.toList,r,⟨o,I.kIn a o hk,hc,n,by simpa using hs⟩,?_⟩
  have e:=r.length
  simp only [Array.length_toList] at e
  omega
theorem Inv.list_inj (I:Inv X pins σ H s) (h:SqL X.K H a xs) (h':SqL X.K H a ys):xs=ys:=by
 obtain ⟨its,r,⟨o,n,e,_,_,d⟩,_⟩:=I.list h
 obtain ⟨its',r',⟨o',n',e',_,_,d'⟩,_⟩:=I.list h'
 rw [e] at e';cases e'
 rw [d] at d'
 injection d' with d1 _
 have:its=its':=by simpa using congrArg Array.toList d1
 subst this
 exact r.inj r'
end
abbrev Cx.wish (X:Cx) (E:Value->Shared->Prop):Cx:={ X with xe:=E }
abbrev Cx.nox (X:Cx):Cx:=X.wish fun _ _=>False
theorem Cx.Ok.wish {X:Cx}(ok:X.Ok) (E:Value->Shared->Prop):(X.wish E).Ok :=
 ⟨ok.mod,ok.kind,ok.glob,ok.blt,ok.above,ok.inj,ok.has,ok.cab,ok.hd,ok.frames,ok.stk,ok.exf,ok.bs,ok.bsz,ok.noex,ok.exfs,ok.funs,ok.frf⟩
theorem Cx.Ok.unwish {X:Cx}{E:Value->Shared->Prop}(ok:(X.wish E).Ok):X.Ok :=
 ⟨ok.mod,ok.kind,ok.glob,ok.blt,ok.above,ok.inj,ok.has,ok.cab,ok.hd,ok.frames,ok.stk,ok.exf,ok.bs,ok.bsz,ok.noex,ok.exfs,ok.funs,ok.frf⟩
section
variable {X:Cx}{pins:List (Addr×Obj)}{σ:St}{H:Hp}{s:Shared}{E:Value->Shared->Prop}
theorem Inv.wish (I:Inv X pins σ H s) (E:Value->Shared->Prop):Inv (X.wish E) pins σ H s:=⟨I.ok.wish E,I.os,I.bare,I.base,I.loc,I.cell,I.free,I.freeC,I.pin,I.hok,I.len⟩
theorem Inv.unwish (I:Inv (X.wish E) pins σ H s):Inv X pins σ H s:=⟨I.ok.unwish,I.os,I.bare,I.base,I.loc,I.cell,I.free,I.freeC,I.pin,I.hok,I.len⟩
theorem SP.unwish {D:Ends}{f:Flow}{s':Shared}(h:SP (X.wish E) pins D f s'):SP X pins D f s':=by
 cases f with
 | next=>obtain ⟨σ',H',I,q⟩:=h;exact ⟨σ',H',I.unwish,q⟩
 | brk=>obtain ⟨σ',H',I,q⟩:=h;exact ⟨σ',H',I.unwish,q⟩
 | cont=>obtain ⟨σ',H',I,q⟩:=h;exact ⟨σ',H',I.unwish,q⟩
 | ret u=>obtain ⟨v,σ',H',I,r,q⟩:=h;exact ⟨v,σ',H',I.unwish,r,q⟩
theorem PSs.nox {st:List Stmt}{t:TS}(h:PSs X.nox st t):PSs X st t:=fun pins s σ H D I hw =>
 wpAny_mono (h pins s σ H D (I.wish _) hw) (fun _ _ q=>q.unwish) fun _ _ z=>False.elim z
end
section
variable {X:Cx}{st:Stmt}{rest:List Stmt}{t u:TS}{e:Expr}{te:TE}{pos:Pos}
def yyC:TS:=fun D σ H=>D.nx σ H
def yBy (t u:TS):TS:=fun D σ H=>t { D with nx:=u D } σ H
theorem yvI:PSs X [] yyC:=fun _ _ σ H _ I h=>wpAny_execs_nil ⟨σ,H,I,h⟩
theorem ynt (h1:PS X st t) (h2:PSs X rest u):PSs X (st::rest) (yBy t u):=by
 intro pins s σ H D I h
 refine wpAny_execs_cons (thn (h1 pins s σ H { D with nx:=u D } I h) fun f s1 q=>?_)
 cases f with
 | next =>
  obtain ⟨σ',H',I',q⟩:=q
  exact h2 pins s1 σ' H' D I' q
 | ret v=>exact q
 | brk=>exact q
 | cont=>exact q
theorem ypv (h1:PS X st t):PSs X [st] t:=by
 intro pins s σ H D I h
 refine wpAny_execs_cons (thn (h1 pins s σ H D I h) fun f s1 q=>?_)
 cases f with
 | next=>exact wpAny_execs_nil q
 | ret v=>exact q
 | brk=>exact q
 | cont=>exact q
theorem Inv.quiet {pins:List (Addr×Obj)}{σ:St}{H:Hp}{s:Shared}(I:Inv X pins σ H s):interactive X.env=false:=by simp [interactive,I.ok.kind]
def ypw (te:TE):TS:=fun D σ H=>te σ H fun _ H1=>D.nx σ H1
theorem yjd (he:PE X e te) (hs:swapsWith e none pos.line X.env=pure false:=by rfl):PS X (.Expr e pos) (ypw te):=by
 intro pins s σ H D I h
 exact wpAny_Expr_any (thn (he pins s σ H _ I h) fun v s1 ⟨x,H1,I1,r1,q1⟩=>⟨σ,H1,I1,q1⟩) I.quiet hs
def yDy (te:TE):TS:=fun D σ H=>te σ H D.rt
theorem yyD (he:PE X e te):PS X (.Return (some e) pos) (yDy te):=by
 intro pins s σ H D I h
 exact wpAny_Return_some (thn (he pins s σ H _ I h) fun v s1 ⟨x,H1,I1,r1,q1⟩=>⟨x,σ,H1,I1,r1,q1⟩)
def yDz (c:TT) (t u:TS):TS:=fun D σ H=>c σ H fun b H1=>if b=true then t D σ H1 else u D σ H1
theorem yBz {c:Expr}{a b:List Stmt}{tc:TT}(hc:PT X c tc) (ha:PSs X a t) (hb:PSs X b u):PS X (.If c a b pos) (yDz tc t u):=by
 intro pins s σ H D I h
 refine wpAny_If (thn (hc pins s σ H _ I h) fun d s1 ⟨H1,I1,q1⟩=>?_)
 cases d with
 | true=>exact ha pins s1 σ H1 D I1 q1
 | false=>exact hb pins s1 σ H1 D I1 q1
def yuJ:TS:=fun _ _ _=>False
theorem ysu:PS X st yuJ:=fun _ _ _ _ _ _ h=>h.elim
end
abbrev TG:=V->St->Hp->(St->Hp->Prop)->Prop
def PG (X:Cx) (target:Expr) (t:TG):Prop :=
 ∀ (pins:List (Addr×Obj)) (s:Shared) (σ:St) (H:Hp) (v:V) (u:Value) (Q:St->Hp->Prop),Inv X pins σ H s->RelV v u->t v σ H Q ->
  wpAny (model X.prog X.w) X.A (assign target X.env u) (fun _ s'=>∃ σ' H',Inv X pins σ' H' s'/\Q σ' H') X.xe s
abbrev yBA:=V->V->V->Hp->(Hp->Prop)->Prop
def yDA (X:Cx) (t:yBA):Prop :=
 ∀ (pins:List (Addr×Obj)) (s:Shared) (σ:St) (H:Hp) (o i v:V) (ov iv u:Value) (Q:Hp->Prop),Inv X pins σ H s->RelV o ov->RelV i iv->RelV v u->t o i v H Q ->
  wpAny (model X.prog X.w) X.A (setItem ov iv u) (fun _ s'=>∃ H',Inv X pins σ H' s'/\Q H') X.xe s
section
variable {X:Cx}{pos:Pos}
def yoz (i:Nat):TG:=fun v σ H Q=>Q (σ.set i (some v)) H
theorem ylQ {i:Nat}{x:Str}(hN:X.N.Nodup) (hi:X.N[i]?=some x) (hx:Loc X.env.scope x) (hf:X.fn x=true\/X.env.scope.names.lookup x=some .local:=by first|exact .inl rfl|exact .inr rfl|assumption):PG X (.Name x pos) (yoz i):=by
 intro pins s σ H v u Q I r h
 exact wpAny_assign_Name (yns I hN hi hx r (fun s' I'=>⟨_,H,I',h⟩) hf)
def yDB (to ti:TE) (t:yBA):TG:=fun v σ H Q=>to σ H fun o H1=>ti σ H1 fun i H2=>t o i v H2 fun H3=>Q σ H3
theorem yyE {o i:Expr}{to ti:TE}{t:yBA}(ho:PE X o to) (hi:PE X i ti) (hs:yDA X t)
  (ha:∀ v,assign (.Subscript o i pos) X.env v=(do
   let ov <- holding [v] (eval o X.env)
   let iv <- holding [v,ov] (eval i X.env)
   standAt pos
   holding [v,ov,iv] (setItem ov iv v)
   release [v,ov,iv] []):=by intro _;rfl):PG X (.Subscript o i pos) (yDB to ti t):=by
 intro pins s σ H v u Q I r h
 rw [ha]
 refine wpAny_bind (wpAny_holding (thn (ho pins s σ H _ I h) fun ov s1 ⟨x,H1,I1,r1,q1⟩=>?_))
 refine wpAny_bind (wpAny_holding (thn (hi pins s1 σ H1 _ I1 q1) fun iv s2 ⟨y,H2,I2,r2,q2⟩=>?_))
 refine wpAny_bind (wpAny_standAt (wpAny_bind (wpAny_holding (thn (hs pins s2 σ H2 x y v ov iv u _ I2 r1 r2 r q2) fun _ s3 ⟨H3,I3,q3⟩=>?_))))
 exact wpAny_release ⟨σ,H3,I3,q3⟩
def yuK (te:TE) (g:TG):TS:=fun D σ H=>te σ H fun x H1=>g x σ H1 D.nx
theorem yyF {tg e:Expr}{te:TE}{g:TG}(he:PE X e te) (hg:PG X tg g) (hs:swapsWithSole [tg] e pos.line X.env=pure false:=by rfl) (hw:swappedStores [tg] e X.env=pure none:=by rfl)
  (h1:(assignEach [tg] X.env).map (·.2)=[assign tg X.env]:=by rfl):PS X (.Assign [tg] e pos) (yuK te g):=by
 intro pins s σ H D I h
 refine wpAny_Assign_stores (thn (he pins s σ H _ I h) fun v s1 ⟨x,H1,I1,r1,q1⟩=>?_) hs hw
 rw [h1]
 exact thn (hg pins s1 σ H1 x v _ I1 r1 q1) fun _ s2 q=>q
theorem yuL {i:Nat}{x:Str}{e:Expr}{te:TE}{pos':Pos}(hN:X.N.Nodup) (hi:X.N[i]?=some x) (hx:Loc X.env.scope x) (he:PE X e te) (hs:swapsWith e (some (.Name x pos')) pos.line X.env=pure false:=by rfl) (hf:X.fn x=true\/X.env.scope.names.lookup x=some .local:=by first|exact .inl rfl|exact .inr rfl|assumption) :
  PS X (.Assign [.Name x pos'] e pos) (yuK te (yoz i)):=by
 intro pins s σ H D I h
 refine wpAny_Assign_Name (thn (he pins s σ H _ I h) fun v s1 ⟨y,H1,I1,r1,q1⟩=>?_) hs
 exact yns I1 hN hi hx r1 (fun s2 I2=>⟨_,H1,I2,q1⟩) hf
end
section
variable {X:Cx}{pos:Pos}
noncomputable def yuM (c:TT) (tb:TS):TS:=fun D σ H=>∃ W:Nat->St->Hp->Prop,(∃ m,W m σ H)/\∀ m σ H,W m σ H ->
 c σ H fun b H1=>if b=true then ∃ N:St->Hp->Prop,(∀ σ' H',N σ' H'->∃ m',m'<m/\W m' σ' H')/\tb { D with nx:=N,ct:=N,bk:=D.nx } σ H1 else D.nx σ H1
theorem ysv {c:Expr}{body:List Stmt}{tc:TT}{tb:TS}(hp:PassesOwn (model X.prog X.w) X.A X.env X.xe) (hc:PT X c tc) (hb:PSs X body tb):PS X (.While c body [] pos) (yuM tc tb):=by
 intro pins s σ H D I h
 obtain ⟨W,⟨m0,w0⟩,turn⟩:=h
 refine wpAny_While (codeAny_whileLoop (fun n s'=>∃ σ' H',Inv X pins σ' H' s'/\W n σ' H') ?_ m0 ⟨σ,H,I,w0⟩)
 rintro n s1 ⟨σ1,H1,I1,w1⟩
 refine wpAny_passesOwn hp (thn (hc pins s1 σ1 H1 _ I1 (turn n σ1 H1 w1)) fun b s2 ⟨H2,I2,q2⟩=>?_)
 cases b with
 | true =>
  obtain ⟨N,hN,q2⟩:=q2
  rw [if_pos rfl]
  refine wpAny_passesOwn hp (thn (hb pins s2 σ1 H2 _ I2 q2) fun f s3 q3=>?_)
  cases f with
  | next =>
   obtain ⟨σ3,H3,I3,n3⟩:=q3
   obtain ⟨m',hm,w3⟩:=hN σ3 H3 n3
   exact ⟨m',hm,σ3,H3,I3,w3⟩
  | cont =>
   obtain ⟨σ3,H3,I3,n3⟩:=q3
   obtain ⟨m',hm,w3⟩:=hN σ3 H3 n3
   exact ⟨m',hm,σ3,H3,I3,w3⟩
  | brk=>exact q3
  | ret v=>exact q3
 | false =>
  rw [if_neg Bool.false_ne_true]
  exact wpAny_execs_nil ⟨σ1,H2,I2,q2⟩
end
structure It where
 go:Nat->Hp->Prop
 yld:Nat->Hp->V->Hp->Prop
 stop:Nat->Hp->Prop
noncomputable def ysm (X:Cx) (pins:List (Addr×Obj)) (H:Hp) (b:Addr):Prop :=
 H b=none/\b≠X.env.locals/\b∉X.fs/\(b∈X.ex\/X.s₀.heap.objs.size<=b)/\(∀ x c,X.env.cells.lookup x=some c->c≠b)/\∀ p∈X.pn++pins,p.1≠b
theorem Inv.fpOk {X:Cx}{pins:List (Addr×Obj)}{σ:St}{H H':Hp}{s:Shared}{b:Addr}(I:Inv X pins σ H s) (hb:s.heap.objs.size<=b) (hn:H' b=none):ysm X pins H' b:=by
 refine ⟨hn,Nat.ne_of_gt (lt_of_lt_of_le I.lt hb),I.nofs hb,.inr (Nat.le_trans I.sz hb),fun x c e z=>?_,fun p hp z=>?_⟩
 .obtain ⟨v,q⟩:=I.cell x c e
  exact absurd (lt_of_lt_of_le q.lt (by rw [z];exact hb)) (lt_irrefl _)
 .exact absurd (lt_of_lt_of_le (Heap.lt_size (I.pin p hp).1) (by rw [z];exact hb)) (lt_irrefl _)
structure Turn (P:Program) (w:World) (K:PySem.W.Frag) (tg:Expr) (J:It) (fp:List Addr) (it:Addr) (tn:Nat->Heap->Prop):Prop where
 mem:it∈fp
 obj:∀ i h,tn i h->∀ b∈fp,∃ o,h.get? b=some o/\∀ v,o.data≠.cell v
 keep:∀ i h h',tn i h->(∀ b∈fp,∀ o,h.get? b=some o->h'.get? b=some o)->tn i h'
 item:∀ (X:Cx),X.prog=P->X.w=w->X.K=K->X.calm=true->∀ (i:Nat) (pins:List (Addr×Obj)) (s:Shared) (σ:St) (H:Hp) (E:Value->Shared->Prop),Inv X pins σ H s->(∀ b∈fp,ysm X pins H b)->tn i s.heap->J.go i H ->
  wpAny (model P w) X.A (pyNext (.ref it)) (fun r s1=>∃ u,r=some u /\
   wpAny (model P w) X.A (letOwnedTupleGo tg (.ref it) u) (fun _ s2=>∃ x H',Inv X pins σ H' s2/\RelV x u/\J.yld i H x H'/\tn (i+1) s2.heap/\∀ b∈fp,H' b=none) E s1) E s
 done:∀ (X:Cx),X.prog=P->X.w=w->X.K=K->X.calm=true->∀ (i:Nat) (pins:List (Addr×Obj)) (s:Shared) (σ:St) (H:Hp) (E:Value->Shared->Prop),Inv X pins σ H s->(∀ b∈fp,ysm X pins H b)->tn i s.heap->J.stop i H ->
  wpAny (model P w) X.A (pyNext (.ref it)) (fun r s1=>r=none/\Inv X pins σ H s1) E s
 self:∀ (A:Around) (i:Nat) (s:Shared) (Q:Value->Shared->Prop) (E:Value->Shared->Prop),tn i s.heap->Q (.ref it) s->wpAny (model P w) A (pyIter (.ref it)) Q E s
abbrev TI:=St->Hp->(It->Hp->Prop)->Prop
def PIE (X:Cx) (pins:List (Addr×Obj)) (σ:St) (tg:Expr) (R:It->Hp->Prop) (itv:Value) (s2:Shared):Prop :=
 ∃ (it:Addr) (fp:List Addr) (tn:Nat->Heap->Prop) (J:It) (H':Hp),itv=.ref it/\Inv X pins σ H' s2/\Turn X.prog X.w X.K tg J fp it tn/\tn 0 s2.heap/\(∀ b∈fp,ysm X pins H' b)/\R J H'
def PI (X:Cx) (tg iter:Expr) (wi:TI):Prop :=
 ∀ (pins:List (Addr×Obj)) (s:Shared) (σ:St) (H:Hp) (R:It->Hp->Prop),Inv X pins σ H s->wi σ H R ->
  wpAny (model X.prog X.w) X.A (eval iter X.env) (fun v s1=>wpAny (model X.prog X.w) X.A (pyIter v) (PIE X pins σ tg R) X.xe s1) X.xe s
theorem ypx {M:Model}{A:Around}{E:Value->Shared->Prop}{s:Shared}{tg:Expr}{it:Addr}{u:Value}{o:Obj}{n:String}{vs:Array Value}{Q:Unit->Shared->Prop}(ho:s.heap.get? it=some o) (hc:o.cls=.type n) (hd:o.data=.fields vs)
    (hn:["enumerate","zip","dict_itemiterator","dict_reverseitemiterator","odict_iterator","itertools.zip_longest","itertools.pairwise"].contains n=false) (hQ:Q () s):wpAny M A (letOwnedTupleGo tg (.ref it) u) Q E s:=by
  unfold letOwnedTupleGo
  cases tg<;>first
    | exact wpAny_pure hQ
    | (cases u<;>first
        | exact wpAny_pure hQ
        | (refine wpAny_bind (wpAny_load ho ?_)
           rw [hc,hd]
           show wpAny M A (if (["enumerate","zip","dict_itemiterator","dict_reverseitemiterator","odict_iterator","itertools.zip_longest","itertools.pairwise"].contains n && vs[0]? == some (rawInt _))=true then _ else _) Q E s
           rw [if_neg (by intro h;rw [hn,Bool.false_and] at h;cases h)]
           exact wpAny_pure hQ))
def Itl (K:PySem.W.Frag) (a:Addr):It :=
 ⟨fun i H=>∃ xs x,SqL K H a xs/\xs[i]?=some x,fun i H x H'=>H'=H/\∀ xs,SqL K H a xs->xs[i]?=some x,fun i H=>∃ xs,SqL K H a xs/\xs.length<=i⟩
def Itr (lo:Int) (n:Nat):It:=⟨fun i _=>i<n,fun i H x H'=>H'=H/\x=.int (lo+i),fun i _=>n<=i⟩
theorem ypy {P:Program}{w:World}{K:PySem.W.Frag}{tg:Expr}(a it:Addr):Turn P w K tg (Itl K a) [it] it (fun i h=>h.IsListIter it a i) where
 mem:=by simp
 obj:=fun i h st b hb=>by
  have e:b=it:=by simpa using hb
  subst e
  obtain ⟨o,e,c,d⟩:=st
  exact ⟨o,e,fun v z=>by rw [d] at z;cases z⟩
 keep:=fun i h h' st k=>st.at fun o e=>k it (by simp) o e
 item:=by
  intro X hP hw hK hc i pins s σ H E I hf st hg
  subst hP hw hK
  obtain ⟨xs,x,hq,hx⟩:=hg
  obtain ⟨its,rv,p,hz⟩:=I.list hq
  obtain ⟨u,hu,ru⟩:=rv.get hx
  obtain ⟨f0,f1,f2,f3,f4,f5⟩:=hf it (by simp)
  refine wpAny_pyNext_list_item st p.isList (x:=u) (by simpa using hu) fun h' st' sb=>?_
  have I1:Inv X pins σ H { s with heap:=h' }:=I.turned (t':=s.toks) (fun b o hb e=>(sb.2 b hb).trans e) f0 f1 f3 f4 f5
  obtain ⟨o,e,c,d⟩:=id st'
  exact ⟨u,rfl,ypx (s:={ s with heap:=h' }) e c d (by decide) ⟨x,H,I1,ru,⟨rfl,fun ys hy=>by rw [I.list_inj hy hq];exact hx⟩,st',fun b hb=>(hf b hb).1⟩⟩
 done:=by
  intro X hP hw hK hc i pins s σ H E I hf st hg
  subst hP hw hK
  obtain ⟨xs,hq,hx⟩:=hg
  obtain ⟨its,rv,p,hz⟩:=I.list hq
  obtain ⟨f0,f1,f2,f3,f4,f5⟩:=hf it (by simp)
  have hl:=rv.length
  exact wpAny_pyNext_list_end (I.ok.hd hc) st p.isList (by simp;omega) fun h' eb=>⟨rfl,I.turned (t':=s.toks) (fun b o hb e=>eb b o hb e) f0 f1 f3 f4 f5⟩
 self:=fun _ _ _ _ _ st h=>wpAny_pyIter_listiter st h
theorem yoA {P:Program}{w:World}{K:PySem.W.Frag}{tg:Expr}(it:Addr) (lo:Int) (n:Nat):Turn P w K tg (Itr lo n) [it] it (fun i h=>IsRangeIter h it (lo+(i:Nat)*1) ((n:Int)-(i:Nat)) 1) where
 mem:=by simp
 obj:=fun i h st b hb=>by
  have e:b=it:=by simpa using hb
  subst e
  exact ⟨_,st,fun v z=>by
   have z':Data.fields _=Data.cell v:=z
   cases z'⟩
 keep:=fun i h h' st k=>k it (by simp) _ st
 item:=by
  intro X hP hw hK hc i pins s σ H E I hf st hg
  subst hP hw hK
  obtain ⟨f0,f1,f2,f3,f4,f5⟩:=hf it (by simp)
  have W:=Walks.range (prog:=X.prog) (w:=X.w) (I.ok.hd hc) it lo 1 n
  refine W.item i s _ _ hg st fun v h' tk hv st' kk=>?_
  obtain ⟨t,rfl⟩:=hv
  have I1:Inv X pins σ H { s with heap:=h',toks:=tk }:=I.turned (fun b o hb e=>kk b o (by simpa using hb) e) f0 f1 f3 f4 f5
  refine ⟨_,rfl,ypx (s:={ s with heap:=h',toks:=tk }) (n:="range_iterator") st' rfl rfl (by decide) ⟨.int (lo+i),H,I1,⟨t,?_⟩,⟨rfl,rfl⟩,st',fun b hb=>(hf b hb).1⟩⟩
  rw [Int.mul_one]
 done:=by
  intro X hP hw hK hc i pins s σ H E I hf st hg
  subst hP hw hK
  obtain ⟨f0,f1,f2,f3,f4,f5⟩:=hf it (by simp)
  exact wpAny_pyNext_range_end (I.ok.hd hc) st (by have:n<=i:=hg;omega) fun h' eb=>⟨rfl,I.turned (t':=s.toks) (fun b o hb e=>eb b o hb e) f0 f1 f3 f4 f5⟩
 self:=fun _ _ _ _ _ st h=>wpAny_pyIter_rangeiter st h
end L2
namespace L2
open PySem PySem.Spec PyProof.Rows
section
variable {X:Cx}{tg:Expr}
def ysw (K:PySem.W.Frag) (tl:TE):TI:=fun σ H R=>tl σ H fun x H1=>∃ a,x=.ref a/\(∃ xs,SqL K H1 a xs)/\R (Itl K a) H1
theorem ylR {l:Expr}{tl:TE}(hl:PE X l tl):PI X tg l (ysw X.K tl):=by
 intro pins s σ H R I h
 refine thn (hl pins s σ H _ I h) fun v s1 ⟨x,H1,I1,r1,q1⟩=>?_
 obtain ⟨a,e,⟨xs,hq⟩,q⟩:=q1
 subst e
 cases r1
 obtain ⟨its,rv,p,hz⟩:=I1.list hq
 refine wpAny_pyIter_list p.isList ?_
 refine ⟨s1.heap.objs.size,[s1.heap.objs.size],_,_,H1,rfl,I1.kept (t':=s1.toks) fun b o e=>Heap.get?_push_of_some _ e,ypy a _,⟨_,Heap.get?_push_size _ rfl,rfl,rfl⟩,fun b hb=>?_,q⟩
 have e:b=s1.heap.objs.size:=by simpa using hb
 subst e
 exact I1.fpOk (Nat.le_refl _) (I1.hok.fresh (Nat.le_refl _))
theorem ysx {pins:List (Addr×Obj)}{σ:St}{H:Hp}{s:Shared}{R:It->Hp->Prop}{E:Value->Shared->Prop}{lo hi:Int}{t u v:Tok}{tk:Nat}(I:Inv X pins σ H s) (h1:-(2 ^ 62)<=lo) (h2:lo<2 ^ 62) (h3:-(2 ^ 62)<=hi) (h4:hi<2 ^ 62)
  (q:R (Itr lo (hi-lo).toNat) H):wpAny (model X.prog X.w) X.A (pyIter (.ref s.heap.objs.size)) (PIE X pins σ tg R) E { s with heap:=s.heap.push { cls:=.type "range",data:=.fields #[.int lo t,.int hi u,.int 1 v] },toks:=tk }:=by
 refine wpAny_pyIter_range (IsRange.new ..) (small_one h1 h2 h3 h4) ?_
 have I1:Inv X pins σ H { s with heap:=s.heap.push { cls:=.type "range",data:=.fields #[.int lo t,.int hi u,.int 1 v] },toks:=tk }:=I.kept fun b o e=>Heap.get?_push_of_some _ e
 refine ⟨(s.heap.push { cls:=.type "range",data:=.fields #[.int lo t,.int hi u,.int 1 v] }).objs.size,[(s.heap.push { cls:=.type "range",data:=.fields #[.int lo t,.int hi u,.int 1 v] }).objs.size],_,_,H,rfl,
  I1.kept (t':=tk) fun b o e=>Heap.get?_push_of_some _ e,yoA _ lo (hi-lo).toNat,?_,fun b hb=>?_,q⟩
 .have e1:lo+((0:Nat):Int)*1=lo:=by simp
  have e2:(((hi-lo).toNat:Nat):Int)-((0:Nat):Int)=Builtin.Range.rangeSize lo hi 1:=by rw [rangeSize_one];split<;>omega
  show IsRangeIter _ _ (lo+((0:Nat):Int)*1) ((((hi-lo).toNat:Nat):Int)-((0:Nat):Int)) 1
  rw [e1,e2]
  exact Heap.get?_push_size _ rfl
 .have e:b=(s.heap.push { cls:=.type "range",data:=.fields #[.int lo t,.int hi u,.int 1 v] }).objs.size:=by simpa using hb
  subst e
  exact I1.fpOk (Nat.le_refl _) (I1.hok.fresh (Nat.le_refl _))
def yyG (ta:TA):TI:=fun σ H R=>ta σ H fun vs H1=>∃ j:Int,vs=[.int j]/\-(2 ^ 62)<=j/\j<2 ^ 62/\R (Itr 0 j.toNat) H1
theorem ypz {a:Expr}{ta:TA}{p pos:Pos}(hg:Gl X "range") (hm:X.mg "range" = none) (ha:PA X [a] ta) (hs:starEach [a] X.env=[(false,eval a X.env)]:=by rfl):PI X tg (.Call (.Name "range" p) [a] [] pos) (yyG ta):=by
 intro pins s σ H R I h
 refine Call_ (yki I hg hm boot_range (PyProof.Rows.callWith_type1 (thn (ha pos pins s σ H _ I h) fun us s1 ⟨vs,H1,I1,r1,q1⟩=>?_) hs rfl))
 obtain ⟨j,e,q1,q2,q⟩:=q1
 subst e
 cases r1 with
 | cons r rr =>
  cases rr
  obtain ⟨t,rfl⟩:=r
  exact call_range_1 (ysx I1 (by omega) (by omega) q1 q2 (by simpa using q))
noncomputable def yBk (wi:TI) (g:TG) (tb:TS):TS:=fun D σ H=>wi σ H fun J H1=>∃ W:Nat->Nat->St->Hp->Prop,(∃ m,W 0 m σ H1)/\∀ i m σ H,W i m σ H ->
 (J.stop i H/\D.nx σ H)\/(J.go i H/\∃ N:St->Hp->Prop,(∀ σ' H',N σ' H'->∃ m',m'<m/\W (i+1) m' σ' H')/\∀ x H',J.yld i H x H'->g x σ H' fun σ2 H2=>tb { D with nx:=N,ct:=N,bk:=D.nx } σ2 H2)
def ynu (fp:List Addr) (h:Heap):List (Addr×Obj):=fp.filterMap fun b=>(h.get? b).map fun o=>(b,o)
theorem ycU {fp:List Addr}{h:Heap}{b:Addr}{o:Obj}(hb:b∈fp) (e:h.get? b=some o):(b,o)∈ynu fp h:=List.mem_filterMap.mpr ⟨b,hb,by rw [e];rfl⟩
theorem ypA {fp:List Addr}{h:Heap}{p:Addr×Obj}(hp:p∈ynu fp h):p.1∈fp/\h.get? p.1=some p.2:=by
 obtain ⟨b,hb,e⟩:=List.mem_filterMap.mp hp
 cases q:h.get? b with
 | none=>rw [q] at e;cases e
 | some o =>
  rw [q] at e
  have e':(b,o)=p:=Option.some.inj e
  subst e'
  exact ⟨hb,q⟩
theorem Inv.pinned {pins:List (Addr×Obj)}{σ:St}{H:Hp}{s:Shared}{fp:List Addr}(I:Inv X pins σ H s) (hf:∀ b∈fp,ysm X pins H b) (ho:∀ b∈fp,∃ o,s.heap.get? b=some o/\∀ v,o.data≠.cell v):Inv X (pins++ynu fp s.heap) σ H s :=
 I.pins_of fun p hp=>(List.mem_append.mp hp).elim (fun z=>I.pin p (mem_append_right _ z)) fun z=>by
  obtain ⟨hb,e⟩:=ypA z
  obtain ⟨f0,f1,f2,_⟩:=hf p.1 hb
  obtain ⟨o,e',d⟩:=ho p.1 hb
  rw [e] at e';cases e'
  exact ⟨e,f0,f1,f2,d⟩
theorem Inv.unpinned {pins pl:List (Addr×Obj)}{σ:St}{H:Hp}{s:Shared}(I:Inv X (pins++pl) σ H s):Inv X pins σ H s:=I.pins_of fun p hp=>I.pin p (mem_append_right _ (mem_append_left _ hp))
theorem ypB {iter:Expr}{body:List Stmt}{wi:TI}{g:TG}{tb:TS}{pos:Pos}(hp:PassesOwn (model X.prog X.w) X.A X.env X.xe) (hc:X.calm=true) (hi:PI X tg iter wi) (hg:PG X tg g) (hb:PSs X body tb)
  (hs:∀ x,foldedSetIterable iter X.env x=pure x:=by intro _;rfl):PS X (.For tg iter body [] pos) (yBk wi g tb):=by
 intro pins s σ H D I h
 refine wpAny_For (thn (hi pins s σ H _ I h) fun v s1 h1=>thn h1 fun itv s2 h2=>?_) hs
 obtain ⟨it,fp,tn,J,H2,e,I2,T,st2,f2,W,⟨m0,w0⟩,turn⟩:=h2
 subst e
 have stat:∀ {H':Hp},(∀ b∈fp,H' b=none)->∀ b∈fp,ysm X pins H' b:=fun hn b hb=>⟨hn b hb,(f2 b hb).2⟩
 refine codeAny_forLoop_any (fun n s'=>∃ i σ' H',Inv X pins σ' H' s'/\tn i s'.heap/\(∀ b∈fp,H' b=none)/\W i n σ' H') ?_ m0 ⟨0,σ,H2,I2,st2,fun b hb=>(f2 b hb).1,w0⟩
 rintro n s3 ⟨i,σ3,H3,I3,st3,fr3,w3⟩
 rcases turn i n σ3 H3 w3 with ⟨stop,qn⟩|⟨go,N,hN,step⟩
 .refine wpAny_passesOwn hp (thn (T.done X rfl rfl rfl hc i pins s3 σ3 H3 X.xe I3 (stat fr3) st3 stop) fun r s4 ⟨hr,I4⟩=>?_)
  subst hr
  exact wpAny_execs_nil ⟨σ3,H3,I4,qn⟩
 .refine wpAny_passesOwn hp (thn (T.item X rfl rfl rfl hc i pins s3 σ3 H3 X.xe I3 (stat fr3) st3 go) fun r s4 ⟨u,hr,h4⟩=>?_)
  subst hr
  refine wpAny_passesOwn hp (thn h4 fun _ s5 ⟨x,H5,I5,r5,y5,st5,fr5⟩=>?_)
  have I5':=I5.pinned (stat fr5) (T.obj _ _ st5)
  refine wpAny_passesOwn hp (thn (hg _ s5 σ3 H5 x u _ I5' r5 (step x H5 y5)) fun _ s6 ⟨σ6,H6,I6,q6⟩=>?_)
  refine wpAny_passesOwn hp (thn (hb _ s6 σ6 H6 _ I6 q6) fun f s7 q7=>?_)
  have again:∀ {σ7:St}{H7:Hp},Inv X (pins++ynu fp s5.heap) σ7 H7 s7->N σ7 H7->∃ m,m<n/\∃ i σ' H',Inv X pins σ' H' s7/\tn i s7.heap/\(∀ b∈fp,H' b=none)/\W i m σ' H':=fun {σ7 H7} I7 n7=>by
   obtain ⟨m',hm,w7⟩:=hN σ7 H7 n7
   refine ⟨m',hm,i+1,σ7,H7,I7.unpinned,T.keep _ _ _ st5 fun b hb o e=>(I7.pin (b,o) (mem_append_right _ (mem_append_right _ (ycU hb e)))).1,fun b hb=>?_,w7⟩
   obtain ⟨o,e,d⟩:=T.obj _ _ st5 b hb
   exact (I7.pin (b,o) (mem_append_right _ (mem_append_right _ (ycU hb e)))).2.1
  cases f with
  | next=>obtain ⟨σ7,H7,I7,n7⟩:=q7;exact again I7 n7
  | cont=>obtain ⟨σ7,H7,I7,n7⟩:=q7;exact again I7 n7
  | brk=>obtain ⟨σ7,H7,I7,q7⟩:=q7;exact ⟨σ7,H7,I7.unpinned,q7⟩
  | ret v=>obtain ⟨x7,σ7,H7,I7,r7,q7⟩:=q7;exact ⟨x7,σ7,H7,I7.unpinned,r7,q7⟩
end
end L2
namespace L2
open PySem PySem.Spec PyProof.Rows
abbrev R2:=V->V->Hp->VK->Prop
def OpR (X:Cx) (f:Value->Value->Sem Value) (r:R2):Prop :=
 ∀ (pins:List (Addr×Obj)) (s:Shared) (σ:St) (H:Hp) (x y:V) (v u:Value) (Q:VK),Inv X pins σ H s->RelV x v->RelV y u->r x y H Q ->
  wpAny (model X.prog X.w) X.A (f v u) (EP X pins σ Q) X.xe s
def UnR (X:Cx) (f:Value->Sem Value) (r:V->Hp->VK->Prop):Prop :=
 ∀ (pins:List (Addr×Obj)) (s:Shared) (σ:St) (H:Hp) (x:V) (v:Value) (Q:VK),Inv X pins σ H s->RelV x v->r x H Q ->
  wpAny (model X.prog X.w) X.A (f v) (EP X pins σ Q) X.xe s
def yfk (X:Cx) (f:Value) (r:List V->Hp->VK->Prop):Prop :=
 ∀ (pins:List (Addr×Obj)) (s:Shared) (σ:St) (H:Hp) (xs:List V) (us:List Value) (Q:VK),Inv X pins σ H s->Vals xs us->r xs H Q ->
  wpAny (model X.prog X.w) X.A (call f us) (EP X pins σ Q) X.xe s
def tOp (r:R2) (ta tb:TE):TE:=fun σ H Q=>ta σ H fun x H1=>tb σ H1 fun y H2=>r x y H2 Q
def tUn (r:V->Hp->VK->Prop) (ta:TE):TE:=fun σ H Q=>ta σ H fun x H1=>r x H1 Q
def rI (C:Int->Int->Prop) (g:Int->Int->V):R2:=fun x y H Q=>∃ i j,x=.int i/\y=.int j/\C i j/\Q (g i j) H
def rI0 (g:Int->Int->V):R2:=fun x y H Q=>∃ i j,x=.int i/\y=.int j/\Q (g i j) H
def rU (g:Int->V):V->Hp->VK->Prop:=fun x H Q=>∃ i,x=.int i/\Q (g i) H
section
variable {X:Cx}{a b c:Expr}{ta tb tc:TE}{pos:Pos}
theorem yBB (ha:PE X a ta) (hb:PE X b tb) {pins:List (Addr×Obj)}{s:Shared}{σ:St}{H:Hp}{R:V->V->Hp->Prop}(I:Inv X pins σ H s)
  (h:ta σ H fun x H1=>tb σ H1 fun y H2=>R x y H2) {Q:Value->Shared->Prop}{f:Value->Value->Sem Value}
  (hf:∀ v u s2 x y H2,Inv X pins σ H2 s2->RelV x v->RelV y u->R x y H2->wpAny (model X.prog X.w) X.A (f v u) Q X.xe s2) :
  wpAny (model X.prog X.w) X.A (eval a X.env) (fun v s₁=>wpAny (model X.prog X.w) X.A (eval b X.env) (fun u s₂=>wpAny (model X.prog X.w) X.A (f v u) Q X.xe s₂) X.xe s₁) X.xe s:=by
 refine thn (ha pins s σ H _ I h) fun v s1 ⟨x,H1,I1,r1,q1⟩=>?_
 refine thn (hb pins s1 σ H1 _ I1 q1) fun u s2 ⟨y,H2,I2,r2,q2⟩=>?_
 exact hf v u s2 x y H2 I2 r1 r2 q2
theorem yyH {op:Operator}{r:R2}(ho:OpR X (binaryOp op) r) (ha:PE X a ta) (hb:PE X b tb):PE X (.BinOp a op b pos) (tOp r ta tb):=by
 intro pins s σ H Q I h
 exact wpAny_BinOp (yBB ha hb I h fun v u s2 x y H2 I2 rx ry q=>ho pins s2 σ H2 x y v u Q I2 rx ry q)
theorem yBC {op:UnaryOp}{r:V->Hp->VK->Prop}(ho:UnR X (unaryOp op) r) (ha:PE X a ta):PE X (.UnaryOp op a pos) (tUn r ta):=by
 intro pins s σ H Q I h
 exact UnaryOp_ (thn (ha pins s σ H _ I h) fun v s1 ⟨x,H1,I1,r1,q1⟩=>ho pins s1 σ H1 x v Q I1 r1 q1)
theorem opI {f:Value->Value->Sem Value}{C:Int->Int->Prop}{g:Int->Int->Int}
  (rule:∀ (i j:Int) (t u:Tok) (s:Shared) (Q:Value->Shared->Prop) (E:Value->Shared->Prop),C i j->Q (.int (g i j) s.toks) { s with toks:=s.toks+1 }->wpAny (model X.prog X.w) X.A (f (.int i t) (.int j u)) Q E s) :
  OpR X f (rI C fun i j=>.int (g i j)):=by
 intro pins s σ H x y v u Q I rx ry h
 obtain ⟨i,j,rfl,rfl,hc,q⟩:=h
 obtain ⟨t,rfl⟩:=rx
 obtain ⟨t',rfl⟩:=ry
 exact rule i j t t' s _ _ hc ⟨.int (g i j),H,I.tok _,⟨_,rfl⟩,q⟩
theorem yDC {f:Value->Value->Sem Value}{g:Int->Int->Int}
  (rule:∀ (i j:Int) (t u:Tok) (s:Shared) (Q:Value->Shared->Prop) (E:Value->Shared->Prop),Q (.int (g i j) s.toks) { s with toks:=s.toks+1 }->wpAny (model X.prog X.w) X.A (f (.int i t) (.int j u)) Q E s) :
  OpR X f (rI0 fun i j=>.int (g i j)):=by
 intro pins s σ H x y v u Q I rx ry h
 obtain ⟨i,j,rfl,rfl,q⟩:=h
 obtain ⟨t,rfl⟩:=rx
 obtain ⟨t',rfl⟩:=ry
 exact rule i j t t' s _ _ ⟨.int (g i j),H,I.tok _,⟨_,rfl⟩,q⟩
theorem yBl {f:Value->Value->Sem Value}{g:Int->Int->Bool}
  (rule:∀ (i j:Int) (t u:Tok) (s:Shared) (Q:Value->Shared->Prop) (E:Value->Shared->Prop),Q (.bool (g i j)) s->wpAny (model X.prog X.w) X.A (f (.int i t) (.int j u)) Q E s) :
  OpR X f (rI0 fun i j=>.bl (g i j)):=by
 intro pins s σ H x y v u Q I rx ry h
 obtain ⟨i,j,rfl,rfl,q⟩:=h
 obtain ⟨t,rfl⟩:=rx
 obtain ⟨t',rfl⟩:=ry
 exact rule i j t t' s _ _ ⟨.bl (g i j),H,I,rfl,q⟩
def yDD (i j:Int):Prop:=0<j/\j<1073741824
def yBD (i j:Int):Prop:=0<=j/\j<=1000000/\i.natAbs<2 ^ 64
def CMul (i j:Int):Prop:=(-(2 ^ 64)<i/\i<2 ^ 64)\/(-(2 ^ 64)<j/\j<2 ^ 64)
theorem CMul.ok {i j:Int}(h:CMul i j):IntMulOk i j:=by
 rcases h with ⟨h1,h2⟩|⟨h1,h2⟩
 .exact .of_left (intBits_le_64 h1 h2)
 .exact .of_right (intBits_le_64 h1 h2)
theorem yba:OpR X (binaryOp .Add) (rI0 fun i j=>.int (i+j)):=yDC fun _ _ _ _ _ _ _ q=>add_int q
theorem yhi:OpR X (binaryOp .Sub) (rI0 fun i j=>.int (i-j)):=yDC fun _ _ _ _ _ _ _ q=>sub_int q
theorem ynv:OpR X (binaryOp .Mult) (rI CMul fun i j=>.int (i*j)):=opI fun _ _ _ _ _ _ _ hc q=>mul_int q hc.ok
theorem yfl:OpR X (binaryOp .FloorDiv) (rI yDD fun i j=>.int (i/j)):=opI fun i j _ _ _ _ _ hc q=>by
 have h1:(0:Int)<j:=hc.1
 have h2:j<1073741824:=hc.2
 exact floordiv_int (by omega) (by rw [Int.fdiv_eq_ediv_of_nonneg i (by omega)];exact q) (.inl (PyProof.noPylong_small (by omega)))
theorem ycE:OpR X (binaryOp .Mod) (rI (fun _ j=>0<j) fun i j=>.int (i%j)):=opI fun i j _ _ _ _ _ hc q=>by
 have h1:(0:Int)<j:=hc
 exact mod_int' (by omega) (by rw [Int.fmod_eq_emod_of_nonneg i (by omega)];exact q)
theorem yuN:OpR X (binaryOp .Pow) (rI yBD fun i j=>.int (i ^ j.toNat)):=opI fun _ _ _ _ _ _ _ hc q=>pow_int_small hc.1 hc.2.1 hc.2.2 q
theorem unI {f:Value->Sem Value}{g:Int->Int}
  (rule:∀ (i:Int) (t:Tok) (s:Shared) (Q:Value->Shared->Prop) (E:Value->Shared->Prop),Q (.int (g i) s.toks) { s with toks:=s.toks+1 }->wpAny (model X.prog X.w) X.A (f (.int i t)) Q E s) :
  UnR X f (rU fun i=>.int (g i)):=by
 intro pins s σ H x v Q I rx h
 obtain ⟨i,rfl,q⟩:=h
 obtain ⟨t,rfl⟩:=rx
 exact rule i t s _ _ ⟨.int (g i),H,I.tok _,⟨_,rfl⟩,q⟩
theorem ykj:UnR X (unaryOp .USub) (rU fun i=>.int (-i)):=unI fun _ _ _ _ _ q=>neg_int q
end
noncomputable def yuO:V->V->Bool
 | .non,.non=>true|.non,.int _=>true|.int _,.non=>true|.non,.bl _=>true|.bl _,.non=>true|.non,.str _=>true|.str _,.non=>true
 | .int _,.int _=>true|.bl _,.bl _=>true|.str _,.str _=>true|.byt _,.byt _=>true
 | .int _,.str _=>true|.str _,.int _=>true|.bl _,.str _=>true|.str _,.bl _=>true
 | _,_=>false
def rEq:R2:=fun x y H Q=>yuO x y=true/\Q (.bl (decide (x=y))) H
def rNe:R2:=fun x y H Q=>yuO x y=true/\Q (.bl (!decide (x=y))) H
theorem ypC {i j:Int}:decide (V.int i=V.int j)=(i == j):=by
 rw [Bool.eq_iff_iff]
 simp
theorem yuP {i j:Bool}:decide (V.bl i=V.bl j)=(i == j):=by
 rw [Bool.eq_iff_iff]
 simp
theorem ypD {i j:Str}:decide (V.str i=V.str j)=(i == j):=by
 rw [Bool.eq_iff_iff]
 simp
theorem ypE {i j:Array UInt8}:decide (V.byt i=V.byt j)=(i.toList == j.toList):=by
 rw [Bool.eq_iff_iff]
 cases i
 cases j
 simp
section
variable {X:Cx}{a b c:Expr}{ta tb tc:TE}{pos:Pos}
theorem ybm {pins:List (Addr×Obj)}{σ:St}{H:Hp}{s:Shared}{Q:VK}{k k':Bool}(I:Inv X pins σ H s) (q:Q (.bl k) H) (e:k=k'):EP X pins σ Q (.bool k') s:=by
 subst e
 exact ⟨.bl k,H,I,rfl,q⟩
theorem yU:OpR X (compareOp .Eq) rEq:=by
 intro pins s σ H x y v u Q I rx ry h
 obtain ⟨hs,q⟩:=h
 cases x with
 | non =>
  cases rx
  cases y with
  | non=>cases ry;exact PySem.EqNone.eq_none_none (ybm I q (by simp))
  | bl j=>cases ry;exact PySem.EqNone.eq_none_bool (ybm I q (by simp))
  | int j=>obtain ⟨t',rfl⟩:=ry;exact PySem.EqNone.eq_none_int (ybm I q (by simp))
  | str j=>obtain ⟨t',rfl⟩:=ry;exact PySem.EqNone.eq_none_str (ybm I q (by simp))
  | _=>exact absurd (show false=true from hs) Bool.false_ne_true
 | bl i =>
  cases rx
  cases y with
  | non=>cases ry;exact PySem.EqNone.eq_bool_none (ybm I q (by simp))
  | bl j=>cases ry;exact eq_bool (ybm I q yuP)
  | str j=>obtain ⟨t',rfl⟩:=ry;exact PySem.EqMixed.eq_bool_str (ybm I q (by simp))
  | _=>exact absurd (show false=true from hs) Bool.false_ne_true
 | int i =>
  obtain ⟨t,rfl⟩:=rx
  cases y with
  | non=>cases ry;exact PySem.EqNone.eq_int_none (ybm I q (by simp))
  | int j=>obtain ⟨t',rfl⟩:=ry;exact eq_int (ybm I q ypC)
  | str j=>obtain ⟨t',rfl⟩:=ry;exact PySem.EqMixed.eq_int_str (ybm I q (by simp))
  | _=>exact absurd (show false=true from hs) Bool.false_ne_true
 | str i =>
  obtain ⟨t,rfl⟩:=rx
  cases y with
  | non=>cases ry;exact PySem.EqNone.eq_str_none (ybm I q (by simp))
  | bl j=>cases ry;exact PySem.EqMixed.eq_str_bool (ybm I q (by simp))
  | int j=>obtain ⟨t',rfl⟩:=ry;exact PySem.EqMixed.eq_str_int (ybm I q (by simp))
  | str j=>obtain ⟨t',rfl⟩:=ry;exact eq_str (ybm I q ypD)
  | _=>exact absurd (show false=true from hs) Bool.false_ne_true
 | byt i =>
  obtain ⟨t,rfl⟩:=rx
  cases y with
  | byt j=>obtain ⟨t',rfl⟩:=ry;exact PySem.W.eq_bytes (ybm I q ypE)
  | _=>exact absurd (show false=true from hs) Bool.false_ne_true
 | _=>cases y<;>exact absurd (show false=true from hs) Bool.false_ne_true
theorem yoB:OpR X (compareOp .NotEq) rNe:=by
 intro pins s σ H x y v u Q I rx ry h
 obtain ⟨hs,q⟩:=h
 cases x with
 | non =>
  cases rx
  cases y with
  | non=>cases ry;exact PySem.EqNone.ne_none_none (ybm I q (by simp))
  | bl j=>cases ry;exact PySem.EqNone.ne_none_bool (ybm I q (by simp))
  | int j=>obtain ⟨t',rfl⟩:=ry;exact PySem.EqNone.ne_none_int (ybm I q (by simp))
  | str j=>obtain ⟨t',rfl⟩:=ry;exact PySem.EqNone.ne_none_str (ybm I q (by simp))
  | _=>exact absurd (show false=true from hs) Bool.false_ne_true
 | bl i =>
  cases rx
  cases y with
  | non=>cases ry;exact PySem.EqNone.ne_bool_none (ybm I q (by simp))
  | bl j=>cases ry;exact ne_bool (ybm I q (congrArg not yuP))
  | str j=>obtain ⟨t',rfl⟩:=ry;exact PySem.EqMixed.ne_bool_str (ybm I q (by simp))
  | _=>exact absurd (show false=true from hs) Bool.false_ne_true
 | int i =>
  obtain ⟨t,rfl⟩:=rx
  cases y with
  | non=>cases ry;exact PySem.EqNone.ne_int_none (ybm I q (by simp))
  | int j=>obtain ⟨t',rfl⟩:=ry;exact ne_int (ybm I q (congrArg not ypC))
  | str j=>obtain ⟨t',rfl⟩:=ry;exact PySem.EqMixed.ne_int_str (ybm I q (by simp))
  | _=>exact absurd (show false=true from hs) Bool.false_ne_true
 | str i =>
  obtain ⟨t,rfl⟩:=rx
  cases y with
  | non=>cases ry;exact PySem.EqNone.ne_str_none (ybm I q (by simp))
  | bl j=>cases ry;exact PySem.EqMixed.ne_str_bool (ybm I q (by simp))
  | int j=>obtain ⟨t',rfl⟩:=ry;exact PySem.EqMixed.ne_str_int (ybm I q (by simp))
  | str j=>obtain ⟨t',rfl⟩:=ry;exact ne_str (ybm I q (congrArg not ypD))
  | _=>exact absurd (show false=true from hs) Bool.false_ne_true
 | byt i =>
  obtain ⟨t,rfl⟩:=rx
  cases y with
  | byt j=>obtain ⟨t',rfl⟩:=ry;exact PySem.W.ne_bytes (ybm I q (congrArg not ypE))
  | _=>exact absurd (show false=true from hs) Bool.false_ne_true
 | _=>cases y<;>exact absurd (show false=true from hs) Bool.false_ne_true
theorem ylS:OpR X (compareOp .Lt) (rI0 fun i j=>.bl (decide (i<j))):=yBl fun _ _ _ _ _ _ _ q=>lt_int q
theorem yik:OpR X (compareOp .LtE) (rI0 fun i j=>.bl (decide (i<=j))):=yBl fun _ _ _ _ _ _ _ q=>le_int q
theorem ysy:OpR X (compareOp .Gt) (rI0 fun i j=>.bl (decide (j<i))):=yBl fun _ _ _ _ _ _ _ q=>gt_int q
theorem yBE:OpR X (compareOp .GtE) (rI0 fun i j=>.bl (decide (j<=i))):=yBl fun _ _ _ _ _ _ _ q=>ge_int q
theorem ypF:OpR X (compareOp .In) (fun x y H Q=>∃ i j,x=.str i/\y=.str j/\Q (.bl (!(Builtin.Str.occurrences j i 0 j.length 1).isEmpty)) H):=by
 intro pins s σ H x y v u Q I rx ry h
 obtain ⟨i,j,rfl,rfl,q⟩:=h
 obtain ⟨t,rfl⟩:=rx
 obtain ⟨t',rfl⟩:=ry
 exact in_str (ybm I q rfl)
theorem ynw:OpR X (compareOp .Is) (fun x y H Q=>y=.non/\Q (.bl (decide (x=.non))) H):=by
 intro pins s σ H x y v u Q I rx ry h
 obtain ⟨rfl,q⟩:=h
 cases ry
 refine is_none_gen (ybm I q ?_)
 cases x<;>first
  | (cases rx;rfl)
  | (obtain ⟨t,rfl⟩:=rx;rfl)
theorem yvJ:OpR X (compareOp .IsNot) (fun x y H Q=>y=.non/\Q (.bl (!decide (x=.non))) H):=by
 intro pins s σ H x y v u Q I rx ry h
 obtain ⟨rfl,q⟩:=h
 cases ry
 refine isnot_none_gen (ybm I q ?_)
 cases x<;>first
  | (cases rx;rfl)
  | (obtain ⟨t,rfl⟩:=rx;rfl)
theorem ykk (b:Expr) {op:CmpOp}(h:op≠.In:=by decide) (h2:op≠.NotIn:=by decide):behindInMarks op b=false:=by
 have e1:(op == CmpOp.In)=false:=by cases op<;>first|rfl|exact absurd rfl h
 have e2:(op == CmpOp.NotIn)=false:=by cases op<;>first|rfl|exact absurd rfl h2
 cases b<;>simp [behindInMarks,e1,e2]
theorem yvK {op:CmpOp}{r:R2}(ho:OpR X (compareOp op) r) (ha:PE X a ta) (hb:PE X b tb) (hm:behindInMarks op b=false):PE X (.Compare a [op] [b] pos) (tOp r ta tb):=by
 intro pins s σ H Q I h
 exact wpAny_Compare1 (yBB ha hb I h fun v u s2 x y H2 I2 rx ry q=>ho pins s2 σ H2 x y v u Q I2 rx ry q) hm
def yvL (t:TE):TT:=fun σ H Q=>t σ H fun x H'=>∃ k,x=.bl k/\Q k H'
theorem yvM {op:CmpOp}{r:R2}(ho:OpR X (compareOp op) r) (ha:PE X a ta) (hb:PE X b tb) (hm:behindInMarks op b=false):PT X (.Compare a [op] [b] pos) (yvL (tOp r ta tb)):=by
 intro pins s σ H Q I h
 refine wpAny_isTrue_Compare1 (thn (ha pins s σ H _ I h) fun v s1 ⟨x,H1,I1,r1,q1⟩=>thn (hb pins s1 σ H1 _ I1 q1) fun u s2 ⟨y,H2,I2,r2,q2⟩ =>
  thn (ho pins s2 σ H2 x y v u _ I2 r1 r2 q2) fun c s3 ⟨z,H3,I3,r3,k,e,q3⟩=>?_) hm
 subst e
 cases r3
 exact wpAny_truthy_bool ⟨H3,I3,q3⟩
noncomputable def ypG (r r':R2) (ta tb tc:TE):TE:=fun σ H Q=>ta σ H fun x H1=>tb σ H1 fun y H2=>r x y H2 fun z H3=>∃ k,z=.bl k /\
 (if k=true then tc σ H3 fun w' H4=>r' y w' H4 Q else Q (.bl false) H3)
theorem ysz {op op':CmpOp}{r r':R2}(ho:OpR X (compareOp op) r) (ho':OpR X (compareOp op') r') (ha:PE X a ta) (hb:PE X b tb) (hc:PE X c tc)
  (hm:lastMarks [op,op'] [b,c]=false:=by with_unfolding_all rfl):PE X (.Compare a [op,op'] [b,c] pos) (ypG r r' ta tb tc):=by
 intro pins s σ H Q I h
 refine Compare_chain (thn (ha pins s σ H _ I h) fun v s1 ⟨x,H1,I1,r1,q1⟩=>chain_link (thn (hb pins s1 σ H1 _ I1 q1) fun u s2 ⟨y,H2,I2,r2,q2⟩ =>
  thn (ho pins s2 σ H2 x y v u _ I2 r1 r2 q2) fun d s3 ⟨z,H3,I3,r3,k,e,q3⟩=>?_)) hm
 subst e
 cases r3
 refine wpAny_truthy_bool ?_
 cases k with
 | false=>exact ite_ff ⟨.bl false,H3,I3,rfl,q3⟩
 | true=>exact ite_tt (chain_last (thn (hc pins s3 σ H3 _ I3 q3) fun w' s4 ⟨z',H4,I4,r4,q4⟩=>ho' pins s4 σ H4 y z' u w' Q I4 r2 r4 q4))
theorem ysA {op op':CmpOp}{r r':R2}(ho:OpR X (compareOp op) r) (ho':OpR X (compareOp op') r') (ha:PE X a ta) (hb:PE X b tb) (hc:PE X c tc)
  (hm:lastMarks [op,op'] [b,c]=false:=by with_unfolding_all rfl):PT X (.Compare a [op,op'] [b,c] pos) (yvL (ypG r r' ta tb tc)):=by
 intro pins s σ H Q I h
 refine isTrue_chain (thn (ha pins s σ H _ I h) fun v s1 ⟨x,H1,I1,r1,q1⟩=>test_link (thn (hb pins s1 σ H1 _ I1 q1) fun u s2 ⟨y,H2,I2,r2,q2⟩ =>
  thn (ho pins s2 σ H2 x y v u _ I2 r1 r2 q2) fun d s3 ⟨z,H3,I3,r3,k,e,q3⟩=>?_)) hm
 subst e
 cases r3
 refine wpAny_truthy_bool ?_
 cases k with
 | false =>
  obtain ⟨k',e',q'⟩:=q3
  cases e'
  exact ite_ff ⟨H3,I3,q'⟩
 | true =>
  refine ite_tt (test_last (thn (hc pins s3 σ H3 _ I3 q3) fun w' s4 ⟨z',H4,I4,r4,q4⟩=>thn (ho' pins s4 σ H4 y z' u w' _ I4 r2 r4 q4) fun d' s5 ⟨z2,H5,I5,r5,k2,e2,q5⟩=>?_))
  subst e2
  cases r5
  exact wpAny_truthy_bool ⟨H5,I5,q5⟩
theorem yiC:(sizeLine:Nat)<2 ^ 63:=by rw [sizeLine_eq];decide
theorem ybQ:OpR X (binaryOp .Add) (fun x y H Q=>∃ i j,x=.str i/\y=.str j/\i.length+j.length<=sizeLine/\Q (.str (i++j)) H):=by
 intro pins s σ H x y v u Q I rx ry h
 obtain ⟨i,j,rfl,rfl,hz,q⟩:=h
 obtain ⟨t,rfl⟩:=rx
 obtain ⟨t',rfl⟩:=ry
 exact add_str (fun t' tk=>⟨.str (i++j),H,I.tok _,⟨_,rfl⟩,q⟩) hz
theorem vals1 {x:V}{us:List Value}(r:Vals [x] us):∃ u,us=[u]/\RelV x u:=by
 cases r with
 | cons r1 r2=>cases r2;exact ⟨_,rfl,r1⟩
theorem vals2 {x y:V}{us:List Value}(r:Vals [x,y] us):∃ u w',us=[u,w']/\RelV x u/\RelV y w':=by
 cases r with
 | cons r1 r2 =>
  cases r2 with
  | cons r3 r4=>cases r4;exact ⟨_,_,rfl,r1,r3⟩
theorem ycF:yfk X (.type "str") (fun xs H Q=>∃ i,xs=[.int i]/\i.natAbs.log2<1920/\Q (.str (toString i)) H):=by
 intro pins s σ H xs us Q I r h
 obtain ⟨i,rfl,hz,q⟩:=h
 obtain ⟨u,rfl,t,rfl⟩:=vals1 r
 exact PySem.P.str_of_int hz ⟨.str _,H,I.tok _,⟨_,rfl⟩,q⟩
end
end L2
namespace L2
open PySem PySem.Spec PyProof.Rows
structure ObjM (h:Heap) (x dx C:Addr) (mA:Str->Option Value):Prop where
 obj:h.get? x=some (instObj C dx)
 ns:h.Ns1 dx mA
 ne:dx≠x
theorem ypH {h:Heap}{dx:Addr}{mA:Str->Option Value}(n:h.Ns1 dx mA):∃ od,h.get? dx=some od/\∀ name,PySem.W.lookIn name od=some (mA name):=by
 obtain ⟨o,es,ep,ho,hd,hk,_,hm⟩:=n
 refine ⟨o,ho,fun name=>?_⟩
 have e:=hm name
 unfold nsFind findBy at e
 rw [<- Array.find?_toList] at e
 unfold PySem.W.lookIn
 rw [hd]
 dsimp only
 split
 .rename_i y q
  rw [q] at e
  exact congrArg some e
 .rename_i q
  rw [q] at e
  have a:es.toList.any (·.refKey)=false:=by
   rw [List.any_eq_false]
   intro y hy
   obtain ⟨z,t,hkey⟩:=hk y (Array.mem_toList_iff.mp hy)
   simp [DictEntry.refKey,hkey]
  have a':¬ es.toList.any (·.refKey)=true:=by rw [a];exact Bool.false_ne_true
  rw [if_neg a']
  exact congrArg some e
theorem ObjM.look {h:Heap}{x dx C:Addr}{mA:Str->Option Value}(I:ObjM h x dx C mA):∃ od,PySem.W.InstAt h x (instObj C dx) C (some od)/\∀ name,PySem.W.lookIn name od=some (mA name) :=
 let ⟨od,ho,hl⟩:=ypH I.ns
 ⟨od,⟨I.obj,rfl,rfl,ho⟩,hl⟩
section
variable {prog:Program}{w:World}{A:Around}{E:Value->Shared->Prop}{s:Shared}{K:PySem.W.Frag}{x dx C f:Addr}{mA:Str->Option Value}{name:Str}{v:Value}
theorem yvN {expr:Bool}{Q:Value->Shared->Prop}(X:K.In s.heap) (I:ObjM s.heap x dx C mA) (hg:plainGet K C name=true) (hh:hasDictIn K C=true)
  (ha:findIn K (.ref C) name=some none) (hv:mA name=some v) (hv':PySem.W.handedIn v=true) (h:Q v { s with toks:=s.toks+1 }) :
  wpAny (model prog w) A (getAttr (.ref x) name expr) Q E s:=by
 obtain ⟨od,J,hl⟩:=I.look
 exact PySem.W.get_value X J (PySem.W.plainGet_of hg).1 (PySem.W.findObj_own hh ha rfl (by rw [hl,hv])) hv' h
theorem ysB {pl:Sem Bool}{Q:Value×List Value->Shared->Prop}(X:K.In s.heap) (I:ObjM s.heap x dx C mA) (hg:plainGet K C name=true)
  (hf:findIn K (.ref C) name=some (some (.ref f))) (ht:isFn K (.ref f)=true) (hv:mA name=none) (h:Q (.ref f,[.ref x]) s) :
  wpAny (model prog w) A (getMethod (.ref x) name pl) Q E s:=by
 obtain ⟨od,J,hl⟩:=I.look
 exact PySem.W.method_fn X J (PySem.W.plainGet_of hg).1 (PySem.W.plainGet_of hg).2 hf (beq_iff_eq.mp ht) (by show (PySem.W.lookIn name od).map (·.isSome)=some false;rw [hl,hv];rfl) h
theorem yvO {ns:List Str}{Q:Unit->Shared->Prop}(X:K.In s.heap) (I:ObjM s.heap x dx C mA)
  (hs:findIn K (.ref C) "__setattr__" = some (some (.builtin "object.__setattr__"))) (hp:PySem.W.plainOver K C=true) (ht:PySem.W.takerIn K C name=some none) (hh:hasDictIn K C=true)
  (hw:PySem.Within mA ns) (hsz:ns.length<=sizeLine)
  (h:∀ h',ObjM h' x dx C (fun y=>if y=name then some v else mA y)->Heap.SameBut dx s.heap h'->Q () { s with heap:=h',toks:=s.toks+2 }) :
  wpAny (model prog w) A (setAttr (.ref x) name v) Q E s:=by
 obtain ⟨od,J,hl⟩:=I.look
 refine PySem.W.set_plain X J hs (PySem.W.osa_open (s:={ s with toks:=s.toks+1 }) (r:=none) X J hp ht fun b=>?_)
 obtain ⟨cd,hc,hd'⟩:=PySem.W.any_some hh
 have hx:s.heap.get? x=some ⟨.ref C,some dx,.plain,#[]⟩:=I.obj
 refine wpAny_bind (wpAny_pure (wpAny_bind (wpAny_bind (wpAny_loadPart hx (wpAny_bind (PySem.W.Looks.here (s:={ s with toks:=s.toks+1 }) (PySem.W.looks_clsIn X hc) ?_))))))
 rw [hd']
 refine wpAny_pure (a:=some dx) (wpAny_bind (wpAny_pure (wpAny_bind ?_)))
 refine wpAny_nsSet1 (s:={ s with toks:=s.toks+1 }) I.ns fun h' hn2 hs2=>?_
 obtain ⟨oD,esD,epD,hoD,hdD,hcD⟩:=hn2.count (PySem.Within.cons name v hw)
 refine wpAny_bind (wpAny_lookBehind hoD (by rw [hdD];exact pastItsLine_dict (Nat.le_trans hcD (by rw [length_cons];omega))) ?_)
 exact wpAny_pure (h _ ⟨(hs2.2 _ (Ne.symm I.ne)).trans I.obj,hn2,I.ne⟩ hs2)
theorem ysC {R:Result->Shared->Prop}{vs:List Value}{kw:List (Str×Value)}(X:K.In s.heap) (hm:makesIn K C=true)
  (hi:findIn K (.ref C) "__init__" = some (some (.ref f))) (hf:typeIn K (.ref f)=some (.type "function"))
  (h:codeAny (model prog w) (A.under (.builtin "type.__call__" ⟨.ref C::vs,kw⟩)) (.call (.ref f) ⟨.ref (s.heap.objs.size+1)::vs,kw⟩) (PySem.W.InitBack (s.heap.objs.size+1) R)
   { s with heap:=(s.heap.push emptyDict).push (instObj C s.heap.objs.size) }) :
  codeAny (model prog w) A (.call (.ref C) ⟨vs,kw⟩) R s:=by
 obtain ⟨hh,g,d,t,os⟩:=s
 exact PySem.W.make_core (PySem.W.makes_of X hm) (PySem.W.looks_findIn X hi) (fun self=>PySem.W.bind_fn X self hf) (.inl rfl) h
end
def yiD (f:Str) (v:V):List (Str×V)->List (Str×V)
 | []=>[(f,v)]
 | (g,x)::r=>if g=f then (g,v)::r else (g,x)::yiD f v r
theorem yhj (f g:Str) (v:V):∀ fs:List (Str×V),(yiD f v fs).lookup g=if g=f then some v else fs.lookup g
 | []=>by
  show List.lookup g [(f,v)]=_
  by_cases h:g=f
  .have hb:(g == f)=true:=beq_iff_eq.mpr h
   simp only [List.lookup,hb,if_pos h]
  .have hb:(g == f)=false:=beq_eq_false_iff_ne.mpr h
   simp only [List.lookup,hb,if_neg h]
 | (k,x)::r=>by
  have ih:=yhj f g v r
  rw [show yiD f v ((k,x)::r)=(if k=f then (k,v)::r else (k,x)::yiD f v r) from rfl]
  by_cases hk:k=f
  .rw [if_pos hk]
   by_cases h:g=k
   .have hb:(g == k)=true:=beq_iff_eq.mpr h
    simp only [List.lookup,hb,if_pos (h.trans hk)]
   .have hb:(g == k)=false:=beq_eq_false_iff_ne.mpr h
    simp only [List.lookup,hb,if_neg (fun e:g=f=>h (e.trans hk.symm))]
  .rw [if_neg hk]
   by_cases h:g=k
   .have hb:(g == k)=true:=beq_iff_eq.mpr h
    simp only [List.lookup,hb,if_neg (fun e:g=f=>hk (h.symm.trans e))]
   .have hb:(g == k)=false:=beq_eq_false_iff_ne.mpr h
    simp only [List.lookup,hb]
    exact ih
theorem yhk (f:Str) (v:V):∀ fs:List (Str×V),f∈(yiD f v fs).map (·.1)/\∀ g,g∈fs.map (·.1)->g∈(yiD f v fs).map (·.1)
 | []=>⟨by simp [yiD],fun g h=>by simp at h⟩
 | (k,x)::r=>by
  obtain ⟨i1,i2⟩:=yhk f v r
  rw [show yiD f v ((k,x)::r)=(if k=f then (k,v)::r else (k,x)::yiD f v r) from rfl]
  by_cases hk:k=f
  .rw [if_pos hk]
   subst hk
   exact ⟨by simp,fun g h=>by simpa using h⟩
  .rw [if_neg hk]
   refine ⟨?_,fun g h=>?_⟩
   .rw [map_cons]
    exact mem_cons_of_mem _ i1
   .rw [map_cons] at h ⊢
    rcases mem_cons.mp h with e|e
    .exact mem_cons.mpr (.inl e)
    .exact mem_cons_of_mem _ (i2 g e)
theorem yhl (f:Str) (v:V):∀ fs:List (Str×V),(yiD f v fs).length<=fs.length+1
 | []=>by simp [yiD]
 | (k,x)::r=>by
  have ih:=yhl f v r
  rw [show yiD f v ((k,x)::r)=(if k=f then (k,v)::r else (k,x)::yiD f v r) from rfl]
  by_cases hk:k=f
  .rw [if_pos hk,length_cons,length_cons];omega
  .rw [if_neg hk,length_cons,length_cons];omega
theorem RelO.some_of {v:V}{o:Option Value}(r:RelO (some v) o):∃ u,o=some u/\RelV v u:=by
 cases o with
 | none=>exact (show False from r).elim
 | some u=>exact ⟨u,rfl,r⟩
theorem RelO.none_of {o:Option Value}(r:RelO none o):o=none:=by
 cases o with
 | none=>rfl
 | some u=>exact (show False from r).elim
theorem ypI {v:V}{u:Value}(r:RelV v u):PySem.W.handedIn u=true:=by
 cases v with
 | non=>cases (show u=Value.none from r);rfl
 | bl b=>cases (show u=Value.bool b from r);rfl
 | int i=>obtain ⟨t,e⟩:=(show ∃ t,u=Value.int i t from r);cases e;rfl
 | str x=>obtain ⟨t,e⟩:=(show ∃ t,u=Value.str x t from r);cases e;rfl
 | byt b=>obtain ⟨t,e⟩:=(show ∃ t,u=Value.bytes b t from r);cases e;rfl
 | flt b=>obtain ⟨t,e⟩:=(show ∃ t,u=Value.float b t from r);cases e;rfl
 | ref a=>cases (show u=Value.ref a from r);rfl
 | ty n=>cases (show u=Value.type n from r);rfl
section
variable {P:Program}{w:World}{H H':Hp}{h h':Heap}{a C dx:Addr}{fs fs':List (Str×V)}
theorem yje (hok:HOk P w H h) (e:H a=some (.ins C dx fs)):∃ mA,ObjM h a dx C mA/\(∀ f,RelO (fs.lookup f) (mA f))/\PySem.Within mA (fs.map (·.1))/\fs.length<=1000/\H dx=some (.own a):=by
 obtain ⟨d,z,ne,ob,mA,n,r,q⟩:=(show ObjOk P w H h a (.ins C dx fs) from hok a _ e)
 exact ⟨mA,⟨ob,n,ne⟩,r,q,z,d⟩
end
structure Cls (K:PySem.W.Frag) (C:Addr):Prop where
 pg:plainGet K C Str.empty=true
 hd:hasDictIn K C=true
 po:PySem.W.plainOver K C=true
 sa:findIn K (.ref C) "__setattr__" = some (some (.builtin "object.__setattr__"))
theorem Cls.get {K:PySem.W.Frag}{C:Addr}(c:Cls K C) (f:Str):plainGet K C f=true:=c.pg
def NoAttr (K:PySem.W.Frag) (C:Addr) (f:Str):Prop:=findIn K (.ref C) f=some none
theorem NoAttr.taker {K:PySem.W.Frag}{C:Addr}{f:Str}(n:NoAttr K C f):PySem.W.takerIn K C f=some none:=by
 unfold PySem.W.takerIn
 rw [show findIn K (.ref C) f=some none from n]
 rfl
structure Meth (K:PySem.W.Frag) (C:Addr) (m:Str) (f:Addr):Prop where
 at_:findIn K (.ref C) m=some (some (.ref f))
 fn:isFn K (.ref f)=true
 kp:keepIn K (.ref f)=true
section
variable {X:Cx}{pins:List (Addr×Obj)}{σ:St}{H:Hp}{s:Shared}{a C dx:Addr}{fs:List (Str×V)}{f:Str}{v:V}{A:Around}{E:Value->Shared->Prop}
theorem yoC {b:Bool}{Q:Value->Shared->Prop}(I:Inv X pins σ H s) (e:H a=some (.ins C dx fs)) (c:Cls X.K C) (n:NoAttr X.K C f) (l:fs.lookup f=some v)
  (h:∀ u s',Inv X pins σ H s'->RelV v u->Q u s'):wpAny (model X.prog X.w) A (getAttr (.ref a) f b) Q E s:=by
 obtain ⟨mA,O,r,_,_,_⟩:=yje I.hok e
 obtain ⟨u,hu,ru⟩:=RelO.some_of (v:=v) (o:=mA f) (by rw [<- l];exact r f)
 exact yvN I.kIn O (c.get f) c.hd n hu (ypI ru) (h u _ (I.tok _) ru)
theorem ygi {m:Str}{g:Addr}{pl:Sem Bool}{Q:Value×List Value->Shared->Prop}(I:Inv X pins σ H s) (e:H a=some (.ins C dx fs)) (c:Cls X.K C) (k:Meth X.K C m g) (l:fs.lookup m=none)
  (h:Q (.ref g,[.ref a]) s):wpAny (model X.prog X.w) A (getMethod (.ref a) m pl) Q E s:=by
 obtain ⟨mA,O,r,_,_,_⟩:=yje I.hok e
 have hn:mA m=none:=RelO.none_of (by rw [<- l];exact r m)
 exact ysB I.kIn O (c.get m) k.at_ k.fn hn h
theorem yoD {y:V}{u:Value}{Q:Unit->Shared->Prop}(I:Inv X pins σ H s) (e:H a=some (.ins C dx fs)) (c:Cls X.K C) (n:NoAttr X.K C f) (hl:fs.length<1000) (ry:RelV y u)
  (h:∀ s',Inv X pins σ (upd H a (.ins C dx (yiD f y fs))) s'->Q () s'):wpAny (model X.prog X.w) A (setAttr (.ref a) f u) Q E s:=by
 obtain ⟨mA,O,r,wi,_,ho⟩:=yje I.hok e
 have hz:(fs.map (·.1)).length<=sizeLine:=by rw [length_map,sizeLine_eq];omega
 refine yvO I.kIn O c.sa c.po n.taker c.hd wi hz fun h' O' sb=>h _ ?_
 have hd:∃ o,h'.get? dx=some o:=let ⟨o,_,_,e',_⟩:=O'.ns;⟨o,e'⟩
 refine I.write (x:=a) (e:=dx) (by rw [e];exact True.intro) (.inr ho) (fun b q hb z=>(sb.2 b hb).trans z) hd ?_
 refine ⟨by rw [yL O.ne];exact ho,?_,O.ne,O'.obj,_,O'.ns,fun g=>?_,fun g hg=>?_⟩
 .have:=yhl f y fs;omega
 .show RelO ((yiD f y fs).lookup g) (if g=f then some u else mA g)
  rw [yhj]
  by_cases q:g=f
  .rw [if_pos q,if_pos q];exact ry
  .rw [if_neg q,if_neg q];exact r g
 .by_cases q:g=f
  .rw [q];exact (yhk f y fs).1
  .refine (yhk f y fs).2 g (wi g fun z=>hg ?_)
   show (if g=f then some u else mA g)=none
   rw [if_neg q];exact z
theorem Inv.made (I:Inv X pins σ H s):Inv X pins σ (upd (upd H s.heap.objs.size (.own (s.heap.objs.size+1))) (s.heap.objs.size+1) (.ins C s.heap.objs.size []))
  { s with heap:=(s.heap.push emptyDict).push (instObj C s.heap.objs.size) }:=by
 have e1:(s.heap.push emptyDict).get? s.heap.objs.size=some emptyDict:=Heap.get?_push_size s.heap rfl
 have e2:((s.heap.push emptyDict).push (instObj C s.heap.objs.size)).get? (s.heap.objs.size+1)=some (instObj C s.heap.objs.size):=by
  have:=Heap.get?_push_size (s.heap.push emptyDict) (o:=instObj C s.heap.objs.size) rfl
  rwa [Heap.size_push] at this
 have e3:(s.heap.push emptyDict).Ns s.heap.objs.size (fun _=>none):=⟨emptyDict,#[],_,e1,rfl,(fun e he=>absurd he (by simp)),fun _=>rfl⟩
 have I1:=I.laid (a:=s.heap.objs.size) (o:=.own (s.heap.objs.size+1)) (h':=s.heap.push emptyDict) (t':=s.toks) (fun b u q=>Heap.get?_push_of_some _ q) (Nat.le_refl _) ⟨_,e1⟩
 refine I1.laid (a:=s.heap.objs.size+1) (o:=.ins C s.heap.objs.size []) (t':=s.toks) (fun b u q=>Heap.get?_push_of_some _ q) (le_of_eq (Heap.size_push _ _)) ?_
 have ne:s.heap.objs.size≠s.heap.objs.size+1:=ne_of_lt (Nat.lt_succ_self _)
 refine ⟨by rw [yL ne,yD],zero_le _,ne,e2,fun _=>none,(Heap.Ns1.of_empty e3).at fun o q=>Heap.get?_push_of_some _ q,fun _=>True.intro,fun y hy=>absurd rfl hy⟩
theorem yvP {prog:Program}{w:World}{env:Env}{e:Expr}{f:Str}{pos:Pos}{s:Shared}{Q:Value->Shared->Prop}(hb:attributeBase e f env (eval e env)=eval e env)
  (h:wpAny (model prog w) A (eval e env) (fun o s₁=>wpAny (model prog w) A (getAttr o f true) Q E s₁) E s):wpAny (model prog w) A (eval (.Attribute e f pos) env) Q E s :=
 Attribute_any_ h (by rw [arm_eval_Attribute,hb])
end
noncomputable def yDE (K:PySem.W.Frag) (ta:TE) (f:Str):TE:=fun σ H Q=>ta σ H fun x H1=>∃ a C dx fs v,x=.ref a/\H1 a=some (.ins C dx fs)/\Cls K C/\NoAttr K C f/\fs.lookup f=some v/\Q v H1
noncomputable def yBF (K:PySem.W.Frag) (ta tv:TE) (f:Str):TS:=fun D σ H=>tv σ H fun y H1=>ta σ H1 fun x H2=>∃ a C dx fs,x=.ref a/\H2 a=some (.ins C dx fs)/\Cls K C/\NoAttr K C f/\fs.length<1000 /\
 D.nx σ (upd H2 a (.ins C dx (yiD f y fs)))
section
variable {X:Cx}{o e value:Expr}{f:Str}{pos pos' tpos:Pos}{ta tv:TE}
theorem yyI (he:PE X e ta) (hb:attributeBase e f X.env (eval e X.env)=eval e X.env):PE X (.Attribute e f pos) (yDE X.K ta f):=by
 intro pins s σ H Q I h
 refine yvP hb (thn (he pins s σ H _ I h) fun u s1 ⟨x,H1,I1,rx,a,C,dx,fs,v,ex,ea,c,n,l,q⟩=>?_)
 subst ex
 obtain rfl:u=Value.ref a:=rx
 exact yoC I1 ea c n l fun u' s2 I2 ru=>⟨v,H1,I2,ru,q⟩
theorem yuQ (ha:PE X o ta) (hv:PE X value tv) (hs:swapsWith value (some (.Attribute o f pos')) pos.line X.env=pure false):PS X (.Assign [.Attribute o f pos'] value pos) (yBF X.K ta tv f):=by
 intro pins s σ H D I h
 refine plainObj_wpAny_Assign_Attribute (thn (hv pins s σ H _ I h) fun u s1 ⟨y,H1,I1,ry,q⟩=>thn (ha pins s1 σ H1 _ I1 q) fun ov s2 ⟨x,H2,I2,rx,a,C,dx,fs,ex,ea,c,n,l,q2⟩=>?_) hs
 subst ex
 obtain rfl:ov=Value.ref a:=rx
 exact yoD I2 ea c n l ry fun s3 I3=>⟨σ,_,I3,q2⟩
end
section
variable {X:Cx}{pins:List (Addr×Obj)}{σ:St}{H:Hp}{s:Shared}{A:Around}{E:Value->Shared->Prop}{Q:Value->Shared->Prop}{c:Value}{b:Bool}
inductive ynx (K:PySem.W.Frag) (H:Hp):V->Value->Prop where
 | non:ynx K H .non (.type "NoneType")
 | bl (x:Bool):ynx K H (.bl x) (.type "bool")
 | int (i:Int):ynx K H (.int i) (.type "int")
 | str (x:Str):ynx K H (.str x) (.type "str")
 | flt (x:UInt64):ynx K H (.flt x) (.type "float")
 | lst {a:Addr}{xs:List V}(e:H a=some (.lst xs)):ynx K H (.ref a) (.type "list")
 | frz {a:Addr}{o:Obj}{xs:List V}(e:H a=some (.frz o (.lst xs))):ynx K H (.ref a) (.type "list")
 | tup {a:Addr}{xs:List V}(e:H a=some (.tup xs)):ynx K H (.ref a) (.type "tuple")
 | kt {a:Addr}{o:Obj}(e:K.lookup a=some o) (c:o.cls=.type "tuple"):ynx K H (.ref a) (.type "tuple")
 | dK {a:Addr}{kvs:List (Key×V)}(e:H a=some (.dK kvs)):ynx K H (.ref a) (.type "dict")
 | dT {a:Addr}{kvs:List (List Key×V)}(e:H a=some (.dT kvs)):ynx K H (.ref a) (.type "dict")
 | ins {a C dx:Addr}{fs:List (Str×V)}(e:H a=some (.ins C dx fs)) (cl:Cls K C) (ha:findIn K (.ref C) "__class__" = some (some (.builtin "object.__class__")))
   (hn:PySem.W.specialIn K (.builtin "object.__class__") "__get__" = some (some (.builtin "getset_descriptor.__get__"))) (htk:PySem.W.takesIn K (.builtin "object.__class__")=some true)
   (hm:mroIn K C (.type "object")=some true):ynx K H (.ref a) (.ref C)
theorem ypJ {x:V}{u t:Value}(I:Inv X pins σ H s) (rx:RelV x u) (ty:ynx X.K H x t) (e:PySem.W.kitOne X.K t c=some b) (h:∀ tk,Q (.bool b) { s with toks:=tk }) :
  wpAny (model X.prog X.w) A (call (.builtin "isinstance") [u,c]) Q E s:=by
 cases ty with
 | non=>cases (show u=Value.none from rx);exact kia_one PySem.W.kitx_none I.kIn True.intro e (fun z=>nomatch z) h
 | bl y=>cases (show u=Value.bool y from rx);exact kia_one PySem.W.kitx_bool I.kIn True.intro e (fun z=>nomatch z) h
 | int i=>obtain ⟨t,q⟩:=(show ∃ t,u=Value.int i t from rx);cases q;exact kia_one PySem.W.kitx_int I.kIn True.intro e (fun z=>nomatch z) h
 | str y=>obtain ⟨t,q⟩:=(show ∃ t,u=Value.str y t from rx);cases q;exact kia_one PySem.W.kitx_str I.kIn True.intro e (fun z=>nomatch z) h
 | flt y=>obtain ⟨t,q⟩:=(show ∃ t,u=Value.float y t from rx);cases q;exact kia_one PySem.W.kitx_float I.kIn True.intro e (fun z=>nomatch z) h
 | @lst a xs ea =>
  cases (show u=Value.ref a from rx)
  obtain ⟨_,_,n,_,h1⟩:=(show ObjOk X.prog X.w H s.heap a (.lst xs) from I.hok a _ ea)
  exact kia_one PySem.W.kitx_list I.kIn ⟨_,h1,rfl⟩ e (fun z=>nomatch z) h
 | @frz a ob xs ea =>
  cases (show u=Value.ref a from rx)
  obtain ⟨_,_,_,n,_,h1⟩:=(show ObjOk X.prog X.w H s.heap a (.frz ob (.lst xs)) from I.hok a _ ea)
  exact kia_one PySem.W.kitx_list I.kIn ⟨_,h1,rfl⟩ e (fun z=>nomatch z) h
 | @tup a xs ea =>
  cases (show u=Value.ref a from rx)
  obtain ⟨_,_,_,p⟩:=(show ObjOk X.prog X.w H s.heap a (.tup xs) from I.hok a _ ea)
  obtain ⟨o,h1,h2,_⟩:=p
  exact kia_one PySem.W.kitx_tuple I.kIn ⟨o,h1,h2⟩ e (fun z=>nomatch z) h
 | @kt a ob ek ck =>
  cases (show u=Value.ref a from rx)
  exact kia_one PySem.W.kitx_tuple I.kIn ⟨ob,I.kIn a ob ek,ck⟩ e (fun z=>nomatch z) h
 | @dK a kvs ea =>
  cases (show u=Value.ref a from rx)
  obtain ⟨_,_,vs,_,p⟩:=(show ObjOk X.prog X.w H s.heap a (.dK kvs) from I.hok a _ ea)
  obtain ⟨o,es,ep,h1,h2,_⟩:=p
  exact kia_one PySem.W.kitx_dict I.kIn ⟨o,h1,h2.1⟩ e (fun z=>nomatch z) h
 | @dT a kvs ea =>
  cases (show u=Value.ref a from rx)
  obtain ⟨_,_,xs,_,o,es,ep,h1,h2,_⟩:=(show ObjOk X.prog X.w H s.heap a (.dT kvs) from I.hok a _ ea)
  exact kia_one PySem.W.kitx_dict I.kIn ⟨o,h1,h2.1⟩ e (fun z=>nomatch z) h
 | @ins a C dx fs ea cl ha hn htk hm =>
  cases (show u=Value.ref a from rx)
  obtain ⟨mA,O,_⟩:=yje I.hok ea
  obtain ⟨od,J,_⟩:=O.look
  exact kia_one (PySem.W.kitx_own (cl.get _) cl.hd ha hn htk hm) I.kIn J e (fun z=>nomatch z) h
end
end L2
namespace L2
open PySem PySem.Spec PyProof.Rows
structure Room (k:Nat) (A:Around):Prop where
 hd:A.handled=none
 dp:A.depth+3*k+5<recursionLimit
 un:A.units+16*k+200<cLine
theorem Room.mono {j k:Nat}{A:Around}(r:Room k A) (h:j<=k):Room j A:=⟨r.hd,by have:=r.dp;omega,by have:=r.un;omega⟩
theorem Room.deeper {k:Nat}{A:Around}(r:Room (k+1) A) (env:Env):Room k (A.deeper env) :=
 ⟨r.hd,by have:=r.dp;show A.depth+1+3*k+5<_;omega,by have:=r.un;show A.units+3+16*k+200<_;omega⟩
theorem yoE {A:Around}{C:Addr}{us:List Value}{kw:List (Str×Value)}:(A.under (.builtin "type.__call__" ⟨.ref C::us,kw⟩)).depth=A.depth+1:=by
 first|rfl|simp [Around.under,Code.weight,Code.isCreation,Code.isGuard,Code.isCaller,Code.frames,Code.isFrame,guardIds]
theorem yoF {A:Around}{C:Addr}{us:List Value}{kw:List (Str×Value)}:(A.under (.builtin "type.__call__" ⟨.ref C::us,kw⟩)).units=A.units+1:=by
 first|rfl|simp [Around.under,Code.cUnits,Code.frames,Code.isFrame]
theorem Room.make {k:Nat}{A:Around}(r:Room (k+1) A) (C:Addr) (us:List Value) (kw:List (Str×Value)):Room k (A.under (.builtin "type.__call__" ⟨.ref C::us,kw⟩)) :=
 ⟨r.hd,by have:=r.dp;rw [yoE];omega,by have:=r.un;rw [yoF];omega⟩
theorem Room.depth {k:Nat}{A:Around}(r:Room k A):A.depth<recursionLimit:=by have:=r.dp;omega
theorem Room.units {k:Nat}{A:Around}(r:Room k A):A.units+64<cLine:=by have:=r.un;omega
def ysD:TA:=fun _ H Q=>Q [] H
def ylT (ta:TE) (tr:TA):TA:=fun σ H Q=>ta σ H fun x H1=>tr σ H1 fun xs H2=>Q (x::xs) H2
section
variable {X:Cx}{e:Expr}{es:List Expr}{te:TE}{t:TA}{pos:Pos}
theorem yiE:PA X [] ysD:=fun _ _ _ _ H Q I h=>Calls.spliced_nil ⟨[],H,I,.nil,h⟩
theorem yfm (ha:PE X e te) (hr:PA X es t) (hs:starEach (e::es) X.env=(false,eval e X.env)::starEach es X.env:=by rfl):PA X (e::es) (ylT te t):=by
 intro pos pins s σ H Q I h
 rw [hs]
 show wpAny _ _ (spliced ((false,eval e X.env)::backTo pos (starEach es X.env))) _ _ s
 refine Calls.spliced_cons (thn (ha pins s σ H _ I h) fun u s1 ⟨x,H1,I1,r1,q1⟩=>?_)
 exact thn (hr pos pins s1 σ H1 _ I1 q1) fun us s2 ⟨xs,H2,I2,r2,q2⟩=>⟨x::xs,H2,I2,.cons r1 r2,q2⟩
def yDF (t:TA):TE:=fun σ H Q=>t σ H fun xs H1=>xs.length<=sizeLine/\∀ p,H1 p=none->Q (.ref p) (upd H1 p (.tup xs))
def yDG (t:TA):TE:=fun σ H Q=>t σ H fun xs H1=>xs.length<=sizeLine/\∀ p,H1 p=none->Q (.ref p) (upd H1 p (.lst xs))
theorem yyJ {x1} (h:PA X es t):PE X (.Tuple es x1 pos) (yDF t):=by
 intro pins s σ H Q I hq
 refine wpAny_Tuple_spliced (thn (h pos pins s σ H _ I hq) fun us s1 ⟨xs,H1,I1,r,z,q⟩=>⟨by rw [<- r.length];exact z,?_⟩)
 have hf:H1 s1.heap.objs.size=none:=I1.hok.fresh (Nat.le_refl _)
 refine ⟨.ref s1.heap.objs.size,upd H1 s1.heap.objs.size (.tup xs),I1.laid (t':=s1.toks) (fun b u e=>Heap.get?_push_of_some _ e) (Nat.le_refl _) ?_,rfl,q _ hf⟩
 exact ⟨z,us,r,⟨_,Heap.get?_push_size _ rfl,rfl,_,rfl⟩⟩
theorem yyK (h:PA X es t):PE X (.List es pos) (yDG t):=by
 intro pins s σ H Q I hq
 refine wpAny_List_spliced (thn (h pos pins s σ H _ I hq) fun us s1 ⟨xs,H1,I1,r,z,q⟩=>⟨by rw [<- r.length];exact z,?_⟩)
 have hf:H1 s1.heap.objs.size=none:=I1.hok.fresh (Nat.le_refl _)
 refine ⟨.ref s1.heap.objs.size,upd H1 s1.heap.objs.size (.lst xs),I1.laid (t':=s1.toks) (fun b u e=>Heap.get?_push_of_some _ e) (Nat.le_refl _) ?_,rfl,q _ hf⟩
 exact ⟨z,us,0,r,Heap.get?_push_size _ rfl⟩
end
abbrev Sp:=List V->Hp->VK->XK->Prop
abbrev CXT:=List Env->Hp->Shared->XK->Value->Shared->Prop
structure Env0 (P:Program) (w:World) (K:PySem.W.Frag) (mg:Str->Option Value) (base:Heap) (A:Around) (outer:List Env) (s:Shared) (H:Hp):Prop where
 frames:A.frames=some outer
 mod:Mod K mg base
 bs:∀ b o,base.get? b=some o->s.heap.get? b=some o/\H b=none
 bsz:base.objs.size<=s.heap.objs.size
 funs:s.heap.FunFrames base outer
 frf:∀ b∈frs outer,H b=none
 hok:HOk P w H s.heap
 bare:AllBare s.gens
def CE (outer:List Env) (P:Program) (w:World) (H:Hp) (s:Shared) (Q:VK) (u:Value) (s':Shared):Prop :=
 ∃ v H',s'.os=s.os/\AllBare s'.gens/\Un (frs outer) [] H H' s.heap s'.heap/\HOk P w H' s'.heap/\RelV v u/\Q v H'
def CR (CX:CXT) (outer:List Env) (P:Program) (w:World) (H:Hp) (s:Shared) (Q:VK) (E:XK) (r:Result) (s':Shared):Prop :=
 match r with
 | .ok (.ret u)=>CE outer P w H s Q u s'
 | .ok _=>False
 | .error e=>CX outer H s E e s'
structure FnOk (P:Program) (w:World) (K:PySem.W.Frag) (mg:Str->Option Value) (base:Heap) (CX:CXT) (k:Nat) (f:Addr) (fd:FuncData) (ps:List Str) (sp:Sp):Prop where
 len:∀ vs H Q E,sp vs H Q E->vs.length=ps.length
 run:∀ (A:Around) (outer:List Env) (s:Shared) (H:Hp) (args:Args) (us:List Value) (vs:List V) (Q:VK) (E:XK),Room k A->Env0 P w K mg base A outer s H->BindsTo s fd args (ps.zip us)->Vals vs us->sp vs H Q E ->
  codeAny (model P w) A (.call (.ref f) args) (CR CX outer P w H s Q E) s
theorem FnOk.mono {P:Program}{w:World}{K:PySem.W.Frag}{mg:Str->Option Value}{base:Heap}{CX:CXT}{j k:Nat}{f:Addr}{fd:FuncData}{ps:List Str}{sp:Sp}(F:FnOk P w K mg base CX j f fd ps sp) (h:j<=k) :
  FnOk P w K mg base CX k f fd ps sp:=⟨F.len,fun A outer s H args us vs Q E hr=>F.run A outer s H args us vs Q E (hr.mono h)⟩
theorem FnOk.imp {P:Program}{w:World}{K:PySem.W.Frag}{mg:Str->Option Value}{base:Heap}{CX:CXT}{k:Nat}{f:Addr}{fd:FuncData}{ps:List Str}{sp sp':Sp}(F:FnOk P w K mg base CX k f fd ps sp)
  (h:∀ vs H Q E,sp' vs H Q E->sp vs H Q E):FnOk P w K mg base CX k f fd ps sp' :=
 ⟨fun vs H Q E q=>F.len vs H Q E (h _ _ _ _ q),fun A outer s H args us vs Q E hr he hb hv hs=>F.run A outer s H args us vs Q E hr he hb hv (h _ _ _ _ hs)⟩
theorem Env0.make {P:Program}{w:World}{K:PySem.W.Frag}{mg:Str->Option Value}{base:Heap}{A:Around}{outer:List Env}{s:Shared}{H:Hp}(e:Env0 P w K mg base A outer s H) (C:Addr) (us:List Value) (kw:List (Str×Value)) :
  Env0 P w K mg base (A.under (.builtin "type.__call__" ⟨.ref C::us,kw⟩)) outer s H:=⟨by first|exact e.frames|(simpa [Around.under,Code.envs,Code.isFrame,pushEnvs] using e.frames),e.mod,e.bs,e.bsz,e.funs,e.frf,e.hok,e.bare⟩
section
variable {X:Cx}{pins:List (Addr×Obj)}{σ:St}{H:Hp}{s s':Shared}
theorem Inv.env0 (I:Inv X pins σ H s):Env0 X.prog X.w X.K X.mg X.base X.A X.stack s H :=
 ⟨I.ok.frames,I.ok.mod,I.bs,Nat.le_trans I.ok.bsz I.sz,I.stack,I.stkFree,I.hok,I.bare⟩
theorem Inv.after {Q:VK}{u:Value}(I:Inv X pins σ H s) (h:CE X.stack X.prog X.w H s Q u s'):EP X pins σ Q u s':=by
 obtain ⟨v,H',os,bare,un,hok,r,q⟩:=h
 obtain ⟨hh,g,d,t,os'⟩:=s'
 obtain rfl:os'=s.os:=os
 exact ⟨v,H',I.call (h':=hh) (g':=g) (d':=d) (t':=t) (ch:=[]) un hok bare (fun b z=>absurd z (by simp)),r,q⟩
end
def ysE (sp:Sp) (dvs:List V) (E:XK) (t:TA):TE:=fun σ H Q=>t σ H fun vs H1=>sp (vs++dvs) H1 Q E
noncomputable def yvQ (C:Addr) (m:Str) (sp:Sp) (dvs:List V) (E:XK) (ta:TE) (t:TA):TE:=fun σ H Q=>ta σ H fun x H1=>∃ a dx fs,x=.ref a/\H1 a=some (.ins C dx fs)/\fs.lookup m=none /\
 t σ H1 fun vs H2=>sp (x::(vs++dvs)) H2 Q E
noncomputable def ysF (C:Addr) (sp:Sp) (dvs:List V) (E:XK) (t:TA):TE:=fun σ H Q=>t σ H fun vs H1=>∀ x dx,H1 x=none->H1 dx=none->dx≠x ->
 sp (.ref x::(vs++dvs)) (upd (upd H1 dx (.own x)) x (.ins C dx [])) (fun v H2=>v=.non/\Q (.ref x) H2) E
noncomputable def Binds (K:PySem.W.Frag) (fd:FuncData) (ps:List Str) (ds:List Value):Prop :=
 ∀ (s:Shared) (us:List Value),K.In s.heap->(us++ds).length=ps.length->BindsTo s fd ⟨us,[]⟩ (ps.zip (us++ds))
theorem Binds.all {K:PySem.W.Frag}{fd:FuncData}{ps:List Str}(h:∀ us:List Value,us.length=ps.length->bindArgs fd ⟨us,[]⟩=pure (ps.zip us)):Binds K fd ps []:=fun s us _ hl=>by
 rw [append_nil] at hl ⊢
 exact .of_eq (h us hl)
noncomputable def yfD (CX:CXT) (X:Cx) (E:XK):Prop:=∀ (pins:List (Addr×Obj)) (σ:St) (H:Hp) (s:Shared) (e:Value) (s':Shared),Inv X pins σ H s->CX X.stack H s E e s'->X.xe e s'
section
variable {X:Cx}{CX:CXT}{k:Nat}{f C:Addr}{fd:FuncData}{ps:List Str}{sp:Sp}{dvs:List V}{ds:List Value}{E:XK}{x m:Str}{p pos apos:Pos}{e o:Expr}{es:List Expr}{ta:TE}{t:TA}
theorem ykl {pins:List (Addr×Obj)}{σ:St}{H:Hp}{s:Shared}{Q:VK}{us:List Value}{vs:List V}(F:FnOk X.prog X.w X.K X.mg X.base CX k f fd ps sp) (hr:Room k X.A) (hb:Binds X.K fd ps ds) (hd:Vals dvs ds) (hx:yfD CX X E)
  (I:Inv X pins σ H s) (r:Vals vs us) (h:sp (vs++dvs) H Q E):wpAny (model X.prog X.w) X.A (call (.ref f) us) (EP X pins σ Q) X.xe s:=by
 have r2:Vals (vs++dvs) (us++ds):=r.append hd
 have hl:(us++ds).length=ps.length:=by rw [<- r2.length];exact F.len _ _ _ _ h
 refine wpAny_call (codeAny_mono (F.run X.A X.stack s H ⟨us,[]⟩ (us++ds) (vs++dvs) Q E hr I.env0 (hb s us I.kIn hl) r2 h) fun r s' hq=>?_)
 cases r with
 | error e=>exact hx pins σ H s e s' I hq
 | ok fl =>
  cases fl with
  | ret u=>exact I.after hq
  | next=>exact False.elim hq
  | brk=>exact False.elim hq
  | cont=>exact False.elim hq
theorem yvR (F:FnOk X.prog X.w X.K X.mg X.base CX k f fd ps sp) (hr:Room k X.A) (hg:Gl X x) (hm:X.mg x=some (.ref f)) (hk:keepIn X.K (.ref f)=true) (hb:Binds X.K fd ps ds) (hd:Vals dvs ds) (hx:yfD CX X E)
  (ha:PA X (e::es) t) (hdb:(x == ("__debug__":Str))=false:=by decide) (he:starEach (e::es) X.env=(false,eval e X.env)::starEach es X.env:=by rfl) (hpl:(backTo pos (starEach es X.env)).any (·.1)=false:=by rfl) :
  PE X (.Call (.Name x p) (e::es) [] pos) (ysE sp dvs E t):=by
 intro pins s σ H Q I h
 refine wpAny_Call_Name_kw (yhh I hg hm ?_ hdb)
 refine PySem.W.callWith_K (h₀:=X.base) I.ok.mod.kin hk (thn (ha pos pins s σ H _ I h) fun us s1 ⟨vs,H1,I1,r,q⟩=>⟨I1.kIn,?_⟩) he hpl
 exact ykl F hr hb hd hx I1 r q
theorem yvS {pl:Sem Bool}(he:PE X o ta) (c:Cls X.K C) (hm:Meth X.K C m f) (F:FnOk X.prog X.w X.K X.mg X.base CX k f fd ps sp) (hr:Room k X.A) (hb:Binds X.K fd ps ds) (hd:Vals dvs ds) (hx:yfD CX X E) (ha:PA X (e::es) t)
  (hst:starEach (e::es) X.env=(false,eval e X.env)::starEach es X.env:=by rfl) (hpl:(backTo pos (starEach es X.env)).any (·.1)=false:=by rfl)
  (ht:eval (.Call (.Attribute o m apos) (e::es) [] pos) X.env=(do
   let ov <- eval o X.env
   standAt apos.atName
   let (f,first) <- holding [ov] (getMethod ov m pl)
   callWith pos f first (backTo pos (starEach (e::es) X.env)) (backToKw pos (keywordEach [] X.env))):=by rfl) :
  PE X (.Call (.Attribute o m apos) (e::es) [] pos) (yvQ C m sp dvs E ta t):=by
 intro pins s σ H Q I h
 refine PySem.W.methodCall_KW (pl:=pl) (thn (he pins s σ H _ I h) fun u s1 ⟨x,H1,I1,rx,a,dx,fs,ex,ea,l,q⟩=>?_) ht
 subst ex
 obtain rfl:u=Value.ref a:=rx
 refine ygi I1 ea c hm l ?_
 refine PySem.W.callWith_K (first:=[.ref a]) (h₀:=X.base) I.ok.mod.kin hm.kp (thn (ha pos pins s1 σ H1 _ I1 q) fun us s2 ⟨vs,H2,I2,r,q2⟩=>⟨I2.kIn,?_⟩) hst hpl
 exact ykl (us:=.ref a::us) (vs:=.ref a::vs) F hr hb hd hx I2 (.cons rfl r) q2
theorem ysG {pl:Sem Bool}(he:PE X o ta) (c:Cls X.K C) (hm:Meth X.K C m f) (F:FnOk X.prog X.w X.K X.mg X.base CX k f fd ps sp) (hr:Room k X.A) (hb:Binds X.K fd ps ds) (hd:Vals dvs ds) (hx:yfD CX X E)
  (ht:eval (.Call (.Attribute o m apos) [] [] pos) X.env=(do
   let ov <- eval o X.env
   standAt apos.atName
   let (f,first) <- holding [ov] (getMethod ov m pl)
   callWith pos f first (backTo pos (starEach [] X.env)) (backToKw pos (keywordEach [] X.env))):=by rfl) :
  PE X (.Call (.Attribute o m apos) [] [] pos) (yvQ C m sp dvs E ta ysD):=by
 intro pins s σ H Q I h
 refine PySem.W.methodCall_KW (pl:=pl) (thn (he pins s σ H _ I h) fun u s1 ⟨x,H1,I1,rx,a,dx,fs,ex,ea,l,q⟩=>?_) ht
 subst ex
 obtain rfl:u=Value.ref a:=rx
 refine ygi I1 ea c hm l ?_
 exact PySem.W.callWith_K0 (first:=[.ref a]) I1.kIn hm.kp (ykl (us:=[.ref a]) (vs:=[.ref a]) F hr hb hd hx I1 (.cons rfl .nil) q)
structure Mk (K:PySem.W.Frag) (C f:Addr):Prop where
 makes:makesIn K C=true
 init:findIn K (.ref C) "__init__" = some (some (.ref f))
 fn:isFn K (.ref f)=true
 kp:keepIn K (.ref C)=true
theorem yny {pins:List (Addr×Obj)}{σ:St}{H:Hp}{s:Shared}{Q:VK}{us:List Value}{vs:List V}(M:Mk X.K C f) (F:FnOk X.prog X.w X.K X.mg X.base CX k f fd ps sp) (hr:Room (k+1) X.A) (hb:Binds X.K fd ps ds) (hd:Vals dvs ds)
  (hx:yfD CX X E) (I:Inv X pins σ H s) (r:Vals vs us)
  (h:∀ x dx,H x=none->H dx=none->dx≠x->sp (.ref x::(vs++dvs)) (upd (upd H dx (.own x)) x (.ins C dx [])) (fun v H2=>v=.non/\Q (.ref x) H2) E) :
  wpAny (model X.prog X.w) X.A (call (.ref C) us) (EP X pins σ Q) X.xe s:=by
 have hq:=h (s.heap.objs.size+1) s.heap.objs.size (I.hok.fresh (Nat.le_succ _)) (I.hok.fresh (Nat.le_refl _)) (ne_of_lt (Nat.lt_succ_self _))
 have I2:=Inv.made (C:=C) I
 have r2:Vals (V.ref (s.heap.objs.size+1)::(vs++dvs)) (Value.ref (s.heap.objs.size+1)::(us++ds)):=.cons rfl (r.append hd)
 have hl:(Value.ref (s.heap.objs.size+1)::us++ds).length=ps.length:=by
  have e:=r2.length
  rw [F.len _ _ _ _ hq] at e
  exact e.symm
 refine wpAny_call (ysC (f:=f) I.kIn M.makes M.init (beq_iff_eq.mp M.fn) (codeAny_mono (F.run _ X.stack _ _ ⟨Value.ref (s.heap.objs.size+1)::us,[]⟩ (Value.ref (s.heap.objs.size+1)::(us++ds)) _ _ E (hr.make C us [])
  (I2.env0.make C us []) (hb _ (Value.ref (s.heap.objs.size+1)::us) I2.kIn hl) r2 hq) fun r s' hq'=>?_))
 cases r with
 | error e=>exact hx pins σ _ _ e s' I2 hq'
 | ok fl =>
  cases fl with
  | ret u =>
   obtain ⟨v,H',I3,rv,ev,q3⟩:=I2.after hq'
   subst ev
   exact ⟨rv,⟨V.ref (s.heap.objs.size+1),H',I3,rfl,q3⟩⟩
  | next=>exact False.elim hq'
  | brk=>exact False.elim hq'
  | cont=>exact False.elim hq'
theorem ypK (M:Mk X.K C f) (F:FnOk X.prog X.w X.K X.mg X.base CX k f fd ps sp) (hr:Room (k+1) X.A) (hg:Gl X x) (hm:X.mg x=some (.ref C)) (hb:Binds X.K fd ps ds) (hd:Vals dvs ds) (hx:yfD CX X E)
  (ha:PA X (e::es) t) (hdb:(x == ("__debug__":Str))=false:=by decide) (he:starEach (e::es) X.env=(false,eval e X.env)::starEach es X.env:=by rfl) (hpl:(backTo pos (starEach es X.env)).any (·.1)=false:=by rfl) :
  PE X (.Call (.Name x p) (e::es) [] pos) (ysF C sp dvs E t):=by
 intro pins s σ H Q I h
 refine wpAny_Call_Name_kw (yhh I hg hm ?_ hdb)
 refine PySem.W.callWith_K (h₀:=X.base) I.ok.mod.kin M.kp (thn (ha pos pins s σ H _ I h) fun us s1 ⟨vs,H1,I1,r,q⟩=>⟨I1.kIn,?_⟩) he hpl
 exact yny M F hr hb hd hx I1 r q
theorem ysH (M:Mk X.K C f) (F:FnOk X.prog X.w X.K X.mg X.base CX k f fd ps sp) (hr:Room (k+1) X.A) (hg:Gl X x) (hm:X.mg x=some (.ref C)) (hb:Binds X.K fd ps ds) (hd:Vals dvs ds) (hx:yfD CX X E)
  (hdb:(x == ("__debug__":Str))=false:=by decide):PE X (.Call (.Name x p) [] [] pos) (ysF C sp dvs E ysD):=by
 intro pins s σ H Q I h
 refine wpAny_Call_Name_kw (yhh I hg hm ?_ hdb)
 exact PySem.W.callWith_K0 I.kIn M.kp (yny (us:=[]) M F hr hb hd hx I .nil h)
end
section
variable {X:Cx}{CX:CXT}{k:Nat}{f C:Addr}{fd:FuncData}{ps ks:List Str}{sp:Sp}{E:XK}{x m:Str}{p pos apos kpos:Pos}{e o:Expr}{es:List Expr}{kws:List Keyword}{te ta:TE}{t tk:TA}{nm:Option Str}
variable {g:List Value->List Value->List Value}{gV:List V->List V->List V}
end
structure yei (N P:List Str) (sc:Scope):Prop where
 kind:sc.kind=.function
 co:sc.isCoroutine=false
 gen:sc.isGenerator=false
 nd:N.Nodup
 pre:N.take P.length=P
 par:∀ x∈P,sc.names.lookup x=some .local \/ sc.names.lookup x=some .cell
 nofree:∀ y∈sc.names,y.2≠.free
theorem ykm {kindOf:Str->Option NameKind}{x:Str}:∀ {binds:List (Str×Value)}{m:Str->Option Value},(∀ v,(x,v)∉binds)->bindL kindOf binds m x=m x
 | [],_,_=>rfl
 | (n,v)::r,m,h=>by
  unfold bindL
  rw [ykm fun w hw=>h w (mem_cons_of_mem _ hw)]
  split
  .have:x≠n:=by rintro rfl;exact h v mem_cons_self
   simp [this]
  .rfl
theorem ykn {kindOf:Str->Option NameKind}{x:Str}:∀ {binds:List (Str×Value)}{m:Str->Option Value},(∀ v,(x,v)∉binds)->bindC kindOf binds m x=m x
 | [],_,_=>rfl
 | (n,v)::r,m,h=>by
  unfold bindC
  rw [ykn fun w hw=>h w (mem_cons_of_mem _ hw)]
  split
  .rfl
  .have:x≠n:=by rintro rfl;exact h v mem_cons_self
   simp [this]
theorem yko {kindOf:Str->Option NameKind}{x:Str}{v:Value}:∀ {P:List Str}{vs:List Value}{i:Nat}{m:Str->Option Value},P.Nodup->P[i]?=some x->vs[i]?=some v->kindOf x=some .local ->
  bindL kindOf (P.zip vs) m x=some v
 | [],_,_,_,_,h,_,_=>by simp at h
 | _::_,[],_,_,_,_,h,_=>by simp at h
 | p::P,w::vs,0,m,nd,h1,h2,hk=>by
  simp at h1 h2;subst h1;subst h2
  show bindL kindOf ((p,w)::P.zip vs) m p=_
  unfold bindL
  rw [ykm fun v hv=>(List.nodup_cons.mp nd).1 (of_mem_zip hv).1,if_pos hk]
  simp
 | p::P,w::vs,i+1,m,nd,h1,h2,hk=>by
  show bindL kindOf ((p,w)::P.zip vs) m x=_
  unfold bindL
  exact yko (i:=i) (List.nodup_cons.mp nd).2 (by simpa using h1) (by simpa using h2) hk
theorem ykp {kindOf:Str->Option NameKind}{x:Str}{v:Value}:∀ {P:List Str}{vs:List Value}{i:Nat}{m:Str->Option Value},P.Nodup->P[i]?=some x->vs[i]?=some v->kindOf x≠some .local ->
  bindC kindOf (P.zip vs) m x=some v
 | [],_,_,_,_,h,_,_=>by simp at h
 | _::_,[],_,_,_,_,h,_=>by simp at h
 | p::P,w::vs,0,m,nd,h1,h2,hk=>by
  simp at h1 h2;subst h1;subst h2
  show bindC kindOf ((p,w)::P.zip vs) m p=_
  unfold bindC
  rw [ykn fun v hv=>(List.nodup_cons.mp nd).1 (of_mem_zip hv).1,if_neg hk]
  simp
 | p::P,w::vs,i+1,m,nd,h1,h2,hk=>by
  show bindC kindOf ((p,w)::P.zip vs) m x=_
  unfold bindC
  exact ykp (i:=i) (List.nodup_cons.mp nd).2 (by simpa using h1) (by simpa using h2) hk
def start (N:List Str) (vs:List V):St:=vs.map some++replicate (N.length-vs.length) none
noncomputable def ysI (CX:CXT) (P:Program) (w:World) (K:PySem.W.Frag) (mg:Str->Option Value) (base:Heap) (N:List Str) (qual:Str) (scope:Scope) (f:Addr) (cd:Value) (A:Around) (outer:List Env) (s:Shared) (H:Hp) (E:XK):Cx where
 prog:=P
 w:=w
 K:=K
 mg:=mg
 base:=base
 A:=A.deeper (envOfC qual scope s.heap.objs.size f cd)
 N:=N
 s₀:=s
 H₀:=H
 env:=envOfC qual scope s.heap.objs.size f cd
 outer:=outer
 stack:=envOfC qual scope s.heap.objs.size f cd::outer
 ex:=[]
 calm:=true
 fn:=fun _=>true
 pn:=[]
 xe:=fun e s'=>wpAny (model P w) (A.deeper (envOfC qual scope s.heap.objs.size f cd)) (leaving (envOfC qual scope s.heap.objs.size f cd) e) (fun _ s''=>CX outer H s E e s'') (fun e' s''=>CX outer H s E e' s'') s'
theorem ynz {sc:Scope}{n:Nat}{x:Str}(h:sc.names.lookup x=some .cell):∃ c,(cellsFrom n sc.names []).lookup x=some c:=by
 have q:=PySem.W.cellsFrom_some sc.names n [] (.inl h)
 exact Option.isSome_iff_exists.mp q
theorem ypL {CX:CXT}{P:Program}{w:World}{K:PySem.W.Frag}{mg:Str->Option Value}{base:Heap}{N ps:List Str}{qual:Str}{scope:Scope}{f:Addr}{cd:Value}{A:Around}{outer:List Env}{s s1:Shared}{H:Hp}{E:XK}{us:List Value}{vs:List V}
  (S:yei N ps scope) (hd:A.handled=none) (e0:Env0 P w K mg base A outer s H) (hl:vs.length=ps.length) (r:Vals vs us)
  (x:InCallC s s.heap.objs.size (bindL (envOfC qual scope s.heap.objs.size f cd).kindOf (ps.zip us) fun _=>none) (cellsFrom (s.heap.objs.size+1) scope.names []) (bindC (envOfC qual scope s.heap.objs.size f cd).kindOf (ps.zip us) fun _=>none) s1) :
  Inv (ysI CX P w K mg base N qual scope f cd A outer s H E) [] (start N vs) H s1:=by
 have hpl:ps.length<=N.length:=by have:=congrArg length S.pre;rw [List.length_take] at this;omega
 obtain ⟨h1,tk,rfl,hk⟩:=x.done
 have noA:∀ b:Addr,b∉(ysI CX P w K mg base N qual scope f cd A outer s H E).ex:=fun b z=>absurd (show b∈([]:List Addr) from z) (by simp)
 refine ⟨⟨e0.mod,S.kind,rfl,rfl,Nat.le_refl _,fun y z c h1 h2=>?_,fun y hy=>?_,fun y c _ h=>?_,fun _=>hd,Around.frames_deeper e0.frames,.inr ⟨rfl,rfl⟩,fun b z=>absurd z (noA b),e0.bs,e0.bsz,fun b _ _=>noA b,fun b z=>absurd z (noA b),e0.funs,e0.frf⟩,
  rfl,e0.bare,Un.kept hk,⟨_,x.toInCall.ns,fun i y v h1 h2 h3=>?_⟩,fun y c h=>⟨_,x.cell y c h⟩,e0.hok.fresh (Nat.le_refl _),fun y c h=>?_,fun p hp=>absurd (show p∈([]:List (Addr×Obj)) from hp) (by simp),e0.hok.kept hk,?_⟩
 .exact name_of_addr x.apart (PySem.mem_of_lookup h1) (PySem.mem_of_lookup h2)
 .have hy:scope.names.lookup y=some .cell\/scope.names.lookup y=some .free:=hy
  rcases hy with hy|hy
  .exact ynz hy
  .exact absurd rfl (S.nofree _ (PySem.mem_of_lookup hy))
 .exact le_of_lt (x.above y c (PySem.mem_of_lookup h))
 .have hi:i<vs.length:=by
   unfold start at h2
   by_cases hi:i<vs.length
   .exact hi
   .rw [getElem?_append_right (by simpa using hi)] at h2
    rw [getElem?_replicate] at h2
    split at h2<;>cases h2
  have ha:vs[i]?=some v:=by
   unfold start at h2
   rw [getElem?_append_left (by simpa using hi),getElem?_map] at h2
   cases e:vs[i]? with
   | none=>rw [e] at h2;cases h2
   | some a=>rw [e] at h2;cases h2;rfl
  obtain ⟨u,hu,rv⟩:=r.get ha
  have hp:ps[i]?=some y:=by
   rw [<- S.pre,List.getElem?_take_of_lt (by omega)];exact h1
  have ndP:ps.Nodup:=by rw [<- S.pre];exact S.nd.sublist (List.take_sublist _ _)
  refine ⟨u,rv,?_⟩
  rcases S.par y (mem_of_getElem? hp) with k|k
  .exact .inl ⟨k,yko ndP hp hu k⟩
  .obtain ⟨c,e⟩:=ynz (n:=s.heap.objs.size+1) k
   refine .inr ⟨.inl k,c,e,?_⟩
   have q:=x.cell y c e
   rw [ykp ndP hp hu (by show scope.names.lookup y≠_;rw [k];decide)] at q
   exact q
 .exact e0.hok.fresh (le_of_lt (x.above y c (PySem.mem_of_lookup h)))
 .unfold start
  show _=N.length
  rw [length_append,length_map,List.length_replicate]
  omega
theorem yBG {CX:CXT}{P:Program}{w:World}{K:PySem.W.Frag}{mg:Str->Option Value}{base:Heap}{k:Nat}{f:Addr}{name qual:Str}{params:Arguments}{body:List Stmt}{scope:Scope}{dV kV doc pm cdv ct oc:Value}{an od:Option Addr}
  {osl:Array (Option Value)}{N ps:List Str}{sp:Sp}(lk:K.lookup f=some ⟨oc,od,.func (fnOf name qual params body scope dV kV doc pm an cdv ct),osl⟩) (hcd:codeIn K cdv qual=true) (S:yei N ps scope)
  (len:∀ vs H Q E,sp vs H Q E->vs.length=ps.length)
  (hbody:∀ (A:Around) (outer:List Env) (s:Shared) (H:Hp) (vs:List V) (Q:VK) (E:XK),Room k (A.deeper (envOfC qual scope s.heap.objs.size f cdv))->sp vs H Q E ->
   ∃ t,PSs (ysI CX P w K mg base N qual scope f cdv A outer s H E) body t/\t { nx:=fun _ H'=>Q .non H',rt:=Q } (start N vs) H) :
  FnOk P w K mg base CX (k+1) f (fnOf name qual params body scope dV kV doc pm an cdv ct) ps sp:=by
 refine ⟨len,fun A outer s H args us vs Q E hr e0 hb r hsp=>?_⟩
 have hl:=len _ _ _ _ hsp
 have KX:K.In s.heap:=e0.mod.kin.keeps fun b o e=>(e0.bs b o e).1
 have lim:s.heap.NoLimit:=e0.mod.nolimit.keeps fun b o e=>(e0.bs b o e).1
 have hkind:∀ y∈ps.zip us,scope.names.lookup y.1=some .local \/ (scope.names.lookup y.1=some .cell/\((cellsFrom (s.heap.objs.size+1) scope.names []).lookup y.1).isSome=true):=fun ⟨n,v⟩ hy=>by
  rcases S.par n (of_mem_zip hy).1 with q|q
  .exact .inl q
  .exact .inr ⟨q,PySem.W.cellsFrom_some _ _ _ (.inl q)⟩
 refine codeAny_call_function hr.depth (KX _ _ lk) rfl S.co S.gen rfl (PySem.W.codeRec_of KX hcd) (hb _ _ _ _ ?_)
 refine wpAny_newFunctionEnv_cells S.kind hkind fun env he s1 x=>?_
 subst he
 refine ⟨lim.keeps x.toInCall.keep,codeAny_func ?_⟩
 obtain ⟨t,ht,hq⟩:=hbody A outer s H vs Q E (hr.deeper _) hsp
 have I:Inv (ysI CX P w K mg base N qual scope f cdv A outer s H E) [] (start N vs) H s1:=ypL S hr.hd e0 hl r x
 refine wpAny_mono (ht [] s1 (start N vs) H _ I hq) (fun fl s' hs=>?_) fun e s' hs=>hs
 have fin:∀ {σ':St}{H':Hp}{v:V}{u:Value},Inv (ysI CX P w K mg base N qual scope f cdv A outer s H E) [] σ' H' s'->RelV v u->Q v H'->CE outer P w H s Q u s' :=
  fun {σ' H' v u} J rv q=>⟨v,H',J.os,J.bare,J.base,J.hok,rv,q⟩
 cases fl with
 | ret u =>
  obtain ⟨v,σ',H',J,rv,q⟩:=hs
  exact fin J rv q
 | next =>
  obtain ⟨σ',H',J,q⟩:=hs
  exact fin (v:=V.non) (u:=Value.none) J rfl q
 | brk =>
  obtain ⟨_,_,_,q⟩:=hs
  exact False.elim q
 | cont =>
  obtain ⟨_,_,_,q⟩:=hs
  exact False.elim q
end L2
namespace L2
open PySem PySem.Spec PyProof.Rows
section
variable {X:Cx}{x:Str}{p pos:Pos}{e:Expr}{es:List Expr}{t:TA}{id T:String}{r:List V->Hp->VK->Prop}
def tCB (r:List V->Hp->VK->Prop) (t:TA):TE:=fun σ H Q=>t σ H fun vs H1=>r vs H1 Q
theorem yjf (hc:yfk X (.builtin id) r) (hg:Gl X x) (hm:X.mg x=none) (hv:bootBuiltins x=some (.builtin id)) (ha:PA X (e::es) t) (hn:x≠"__name__":=by decide) (hdb:(x == ("__debug__":Str))=false:=by decide)
  (he:starEach (e::es) X.env=(false,eval e X.env)::starEach es X.env:=by rfl) (hpl:(backTo pos (starEach es X.env)).any (·.1)=false:=by rfl):PE X (.Call (.Name x p) (e::es) [] pos) (tCB r t):=by
 intro pins s σ H Q I h
 refine wpAny_Call_Name_kw (yki I hg hm hv ?_ hn hdb)
 exact PyProof.Rows.callWith_builtin1 (thn (ha pos pins s σ H _ I h) fun us s1 ⟨vs,H1,I1,r1,q1⟩=>hc pins s1 σ H1 vs us Q I1 r1 q1) he hpl
theorem ykq (hc:yfk X (.type T) r) (hg:Gl X x) (hm:X.mg x=none) (hv:bootBuiltins x=some (.type T)) (ha:PA X (e::es) t) (hn:x≠"__name__":=by decide) (hdb:(x == ("__debug__":Str))=false:=by decide)
  (he:starEach (e::es) X.env=(false,eval e X.env)::starEach es X.env:=by rfl) (hpl:(backTo pos (starEach es X.env)).any (·.1)=false:=by rfl):PE X (.Call (.Name x p) (e::es) [] pos) (tCB r t):=by
 intro pins s σ H Q I h
 refine wpAny_Call_Name_kw (yki I hg hm hv ?_ hn hdb)
 exact PyProof.Rows.callWith_type1 (thn (ha pos pins s σ H _ I h) fun us s1 ⟨vs,H1,I1,r1,q1⟩=>hc pins s1 σ H1 vs us Q I1 r1 q1) he hpl
end
end L2
namespace HT
open PySem PyProof.Rows
section
open PySem.SeqAt
open PySem.AutoSeq1 (wpAny_loadPart')
open PySem.MeetsSeq PySem.MeetsSeq2 PySem.MeetsSeq3
end
section
variable {prog:Program}{w:World}{A:Around}{E:Value->Shared->Prop}{s:Shared}
def sIx (n d:Nat):Option Int->Nat
 | none=>d
 | some v=>if v<0 then (v+(n:Int)).toNat else min v.toNat n
end
end HT
namespace L2
open PySem PySem.Spec PyProof.Rows
abbrev TO:=St->Hp->(Option Int->Hp->Prop)->Prop
noncomputable def PO (X:Cx) (e:Option Expr) (t:TO):Prop :=
 ∀ (pins:List (Addr×Obj)) (s:Shared) (σ:St) (H:Hp) (Q:Option Int->Hp->Prop),Inv X pins σ H s->t σ H Q ->
  wpAny (model X.prog X.w) X.A (evalPart e X.env) (fun u s'=>∃ o H',Inv X pins σ H' s'/\IsPart u o/\Q o H') X.xe s
def ypM:TO:=fun _ H Q=>Q none H
def yyL (t:TE):TO:=fun σ H Q=>t σ H fun x H1=>∃ i,x=.int i/\Q (some i) H1
theorem intsAre_of {ns:List Int}:∀ {us:List Value},Vals (ns.map V.int) us->IntsAre us ns:=by
 induction ns with
 | nil=>intro us r;rw [map_nil] at r;cases r;exact .nil
 | cons n ns ih =>
  intro us r
  rw [map_cons] at r
  cases r with
  | cons r1 r2 =>
   obtain ⟨t,e⟩:=r1
   subst e
   exact .cons n t (ih r2)
section
variable {X:Cx}{e:Expr}{te:TE}{lo hi:Option Expr}{tl th:TO}{pos p2:Pos}
theorem yvT:PO X none ypM:=by
 intro pins s σ H Q I h
 rw [evalPart_none]
 exact wpAny_pure ⟨none,H,I,.none,h⟩
theorem yvU (h:PE X e te):PO X (some e) (yyL te):=by
 intro pins s σ H Q I hw
 rw [evalPart_some]
 refine thn (h pins s σ H _ I hw) fun u s1 ⟨x,H1,I1,r1,q1⟩=>?_
 obtain ⟨i,rfl,q⟩:=q1
 obtain ⟨t,rfl⟩:=r1
 exact ⟨some i,H1,I1,.int i t,q⟩
def SlR (X:Cx) (r:V->Option Int->Option Int->Hp->VK->Prop):Prop :=
 ∀ (pins:List (Addr×Obj)) (s:Shared) (σ:St) (H:Hp) (x:V) (v vl vu:Value) (lo hi:Option Int) (sl:Addr) (Q:VK),Inv X pins σ H s->RelV x v->s.heap.IsSliceOf sl vl vu .none->IsPart vl lo->IsPart vu hi->r x lo hi H Q ->
  ∃ T id,typeLookup (.type T) "__getitem__" = pure (some (.builtin id))/\s.TypeIs v T/\wpAny (model X.prog X.w) X.A (getItem v (.ref sl)) (EP X pins σ Q) X.xe s
noncomputable def tSl (r:V->Option Int->Option Int->Hp->VK->Prop) (te:TE) (tl th:TO):TE:=fun σ H Q=>te σ H fun x H1=>tl σ H1 fun l H2=>th σ H2 fun u H3=>r x l u H3 Q
theorem ysJ {r:V->Option Int->Option Int->Hp->VK->Prop}(hr:SlR X r) (he:PE X e te) (hl:PO X lo tl) (hu:PO X hi th):PE X (.Subscript e (.Slice lo hi none p2) pos) (tSl r te tl th):=by
 intro pins s σ H Q I h
 refine Subscript_ (thn (he pins s σ H _ I h) fun v s1 ⟨x,H1,I1,r1,q1⟩=>?_)
 refine wpAny_Slice (thn (hl pins s1 σ H1 _ I1 q1) fun vl s2 ⟨l,H2,I2,pl,q2⟩=>thn (hu pins s2 σ H2 _ I2 q2) fun vu s3 ⟨u,H3,I3,pu,q3⟩=>?_)
 rw [evalPart_none]
 refine wpAny_pure ?_
 have I4:Inv X pins σ H3 { s3 with heap:=s3.heap.push { cls:=.type "slice",data:=.fields #[vl,vu,.none] } }:=I3.kept (t':=s3.toks) fun b ob q=>Heap.get?_push_of_some _ q
 obtain ⟨T,id,hT,ht,hg⟩:=hr pins { s3 with heap:=s3.heap.push { cls:=.type "slice",data:=.fields #[vl,vu,.none] } } σ H3 x v vl vu l u s3.heap.objs.size Q I4 r1 (Heap.IsSliceOf.new ..) pl pu q3
 show wpAny (model X.prog X.w) X.A (subscriptTail e (.Slice lo hi none p2) v (.ref s3.heap.objs.size)) (EP X pins σ Q) X.xe { s3 with heap:=s3.heap.push { cls:=.type "slice",data:=.fields #[vl,vu,.none] } }
 exact tail_any (ops:=[.ref s3.heap.objs.size,v]) ht hT hg (by with_unfolding_all rfl)
noncomputable def yyM (xs:List V) (lo hi:Option Int):List V:=(xs.drop (HT.sIx xs.length 0 lo)).take (HT.sIx xs.length xs.length hi-HT.sIx xs.length 0 lo)
theorem ylU (xs:List V) (lo hi:Option Int):(yyM xs lo hi).length<=xs.length:=by
 unfold yyM
 rw [List.length_take,length_drop]
 omega
end
end L2
namespace L2
open PySem PySem.Spec PyProof.Rows
noncomputable def ixN (n:Nat) (i:Int):Option Nat:=if 0<=i then (if i<n then some i.toNat else none) else if -(n:Int)<=i then some (i+n).toNat else none
def atI {α:Type}(xs:List α) (i:Int):Option α:=(ixN xs.length i).bind fun j=>xs[j]?
theorem ypN {n:Nat}{i:Int}{j:Nat}(h:ixN n i=some j):seqIndex? i n=some j/\j<n/\-(n:Int)<=i/\i<n:=by
 unfold ixN at h
 by_cases h0:0<=i
 .rw [if_pos h0] at h
  by_cases h1:i<n
  .rw [if_pos h1] at h
   have e:i.toNat=j:=Option.some.inj h
   exact ⟨by rw [seqIndex_of h0 h1,e],by omega,by omega,h1⟩
  .rw [if_neg h1] at h;cases h
 .rw [if_neg h0] at h
  by_cases h1:-(n:Int)<=i
  .rw [if_pos h1] at h
   have e:(i+n).toNat=j:=Option.some.inj h
   exact ⟨by rw [seqIndex_neg (by omega) h1,e],by omega,h1,by omega⟩
  .rw [if_neg h1] at h;cases h
theorem ylV {α:Type}{xs:List α}{i:Int}{v:α}(h:atI xs i=some v):∃ j,seqIndex? i xs.length=some j/\xs[j]?=some v/\j<xs.length/\-(xs.length:Int)<=i/\i<xs.length:=by
 unfold atI at h
 cases e:ixN xs.length i with
 | none=>rw [e] at h;cases h
 | some j =>
  rw [e] at h
  obtain ⟨h1,h2,h3,h4⟩:=ypN e
  exact ⟨j,h1,h,h2,h3,h4⟩
theorem ydw {α:Type}{xs:List α}{j:Nat}{v:α}(h:xs[j]?=some v):atI xs (j:Int)=some v:=by
 have hj:j<xs.length:=(List.getElem?_eq_some_iff.mp h).1
 have e:ixN xs.length (j:Int)=some j:=by
  unfold ixN
  rw [if_pos (by omega),if_pos (by omega)];simp
 unfold atI;rw [e];exact h
def ypO (b:Expr):Prop:=∀ o i,subscripted b false o i=operate [o,i] (getItem o i)
def IxR (X:Cx) (r:R2):Prop :=
 ∀ (value slice:Expr) (pins:List (Addr×Obj)) (s:Shared) (σ:St) (H:Hp) (x y:V) (v u:Value) (Q:VK),Inv X pins σ H s->RelV x v->RelV y u->r x y H Q ->
  subscripted slice false v u=operate [v,u] (getItem v u)->wpAny (model X.prog X.w) X.A (subscriptTail value slice v u) (EP X pins σ Q) X.xe s
def MtR (X:Cx) (id:String) (r:V->List V->Hp->VK->Prop):Prop :=
 ∀ (pins:List (Addr×Obj)) (s:Shared) (σ:St) (H:Hp) (x:V) (xs:List V) (v:Value) (us:List Value) (Q:VK),Inv X pins σ H s->RelV x v->Vals xs us->r x xs H Q ->
  wpAny (model X.prog X.w) X.A (call (.builtin id) (v::us)) (EP X pins σ Q) X.xe s
section
variable {X:Cx}{a b:Expr}{ta tb:TE}{pos:Pos}
theorem yBH {r:R2}(hr:IxR X r) (ha:PE X a ta) (hb:PE X b tb) (hs:ypO b):PE X (.Subscript a b pos) (tOp r ta tb):=by
 intro pins s σ H Q I h
 exact Subscript_ (yBB ha hb I h fun v u s2 x y H2 I2 rx ry q=>hr a b pins s2 σ H2 x y v u Q I2 rx ry q (hs _ _))
def yDH (K:PySem.W.Frag):R2:=fun x y H Q=>∃ p xs i v,x=.ref p/\y=.int i/\SqL K H p xs/\atI xs i=some v/\Q v H
def yDI (K:PySem.W.Frag):R2:=fun x y H Q=>∃ p xs i v,x=.ref p/\y=.int i/\SqT K H p xs/\atI xs i=some v/\Q v H
def yDJ:R2:=fun x y H Q=>∃ z i c,x=.str z/\y=.int i/\z.length<=sizeLine/\atI z.cps.toList i=some c/\Q (.str ⟨#[c]⟩) H
theorem ybc:IxR X (yDH X.K):=by
 intro value slice pins s σ H x y v u Q I rx ry h hs
 obtain ⟨p,xs,i,z,rfl,rfl,hq,he,q⟩:=h
 cases rx
 obtain ⟨t,rfl⟩:=ry
 obtain ⟨its,r,pl,hz⟩:=I.list hq
 obtain ⟨j,h1,h2,h3,h4,h5⟩:=ylV he
 obtain ⟨w,ew,rw'⟩:=r.get h2
 have hl:=r.length
 have hn:=yiC
 have fin:EP X pins σ Q w s:=⟨z,H,I,rw',q⟩
 by_cases h0:0<=i
 .have hj:i.toNat=j:=by
   rw [seqIndex_of h0 h5] at h1
   exact Option.some.inj h1
  exact item_listR pl.isList h0 (by omega) (by rw [hj];simpa using ew) fin hs
 .have hj:(i+(its.toArray.size:Int)).toNat=j:=by
   rw [seqIndex_neg (by omega) h4] at h1
   rw [size_toArray,<- hl]
   exact Option.some.inj h1
  exact subscriptTail_builtinR (x:=w) pl.isList.typeIs slot_list_getitem.lookup
   (wpAny_getItem_list_neg (Q:=fun r s'=>r=w/\EP X pins σ Q r s') pl.isList (by omega) (by rw [size_toArray]<;>omega) (by omega) (by rw [hj];simpa using ew) ⟨rfl,fin⟩) hs
theorem yz:IxR X (yDI X.K):=by
 intro value slice pins s σ H x y v u Q I rx ry h hs
 obtain ⟨p,xs,i,z,rfl,rfl,hq,he,q⟩:=h
 cases rx
 obtain ⟨t,rfl⟩:=ry
 obtain ⟨its,r,pl,hz⟩:=I.tuple hq
 obtain ⟨j,h1,h2,h3,h4,h5⟩:=ylV he
 obtain ⟨w,ew,rw'⟩:=r.get h2
 have hl:=r.length
 have hn:=yiC
 have fin:EP X pins σ Q w s:=⟨z,H,I,rw',q⟩
 exact subscriptTail_builtinR (x:=w) pl.typeIs slot_tuple_getitem.lookup
  (getItem_tuple (j:=j) (Q:=fun r s'=>r=w/\EP X pins σ Q r s') pl (by omega) (by omega) (by rw [size_toArray,<- hl];exact h1) (by simpa using ew) ⟨rfl,fin⟩) hs
theorem yyN:IxR X yDJ:=by
 intro value slice pins s σ H x y v u Q I rx ry h hs
 obtain ⟨z,i,c,rfl,rfl,hz,he,q⟩:=h
 obtain ⟨t,rfl⟩:=rx
 obtain ⟨t',rfl⟩:=ry
 obtain ⟨j,h1,h2,h3,h4,h5⟩:=ylV he
 have hl:z.cps.toList.length=z.length:=by simp [Str.length]
 rw [hl] at h1 h4 h5
 have hn:=yiC
 exact tail_any (typeIs_str s z t) slot_str_getitem.lookup (getItem_str (c:=c) (by
  have e1:decide (i < -(2 ^ 63:Int))=false:=decide_eq_false (by omega)
  have e2:decide (i>=2 ^ 63)=false:=decide_eq_false (by omega)
  rw [e1,e2,Bool.or_false]) (by rw [h1];simpa using h2) ⟨.str ⟨#[c]⟩,H,I.tok _,⟨_,rfl⟩,q⟩) hs
theorem yoG (its:List Value) (n j:Nat) (u:Value):Obj.mapSeq (·.setIfInBounds j u) { cls:=.type "list",data:=.seq its.toArray n }={ cls:=.type "list",data:=.seq (its.set j u).toArray n }:=by
 simp [Obj.mapSeq]
theorem Inv.lst {pins:List (Addr×Obj)}{σ:St}{H:Hp}{s:Shared}{p:Addr}{xs:List V}(I:Inv X pins σ H s) (h:H p=some (.lst xs)) :
  ∃ (its:List Value) (n:Nat),Vals xs its/\s.heap.get? p=some { cls:=.type "list",data:=.seq its.toArray n }/\xs.length<=sizeLine:=by
 obtain ⟨z,its,n,r,e⟩:=I.hok p _ h
 exact ⟨its,n,r,e,z⟩
theorem Inv.lstUpd {pins:List (Addr×Obj)}{σ:St}{H:Hp}{s:Shared}{p:Addr}{xs ys:List V}{its its':List Value}{n n':Nat}{f:Obj->Obj}(I:Inv X pins σ H s) (h:H p=some (.lst xs))
  (ho:s.heap.get? p=some { cls:=.type "list",data:=.seq its.toArray n }) (hf:f { cls:=.type "list",data:=.seq its.toArray n }={ cls:=.type "list",data:=.seq its'.toArray n' }) (r:Vals ys its') (hz:ys.length<=sizeLine) (t:Nat) :
  Inv X pins σ (upd H p (.lst ys)) { s with heap:=s.heap.update p f,toks:=t }:=by
 have e:(s.heap.update p f).get? p=some { cls:=.type "list",data:=.seq its'.toArray n' }:=by
  rw [Heap.get?_update_self f ho (by rw [hf]<;>rfl),hf]
 refine I.write (x:=p) (e:=p) (by rw [h];trivial) (.inl rfl) (fun b u hb q=>(Heap.get?_update_other _ _ (Ne.symm hb)).trans q) ⟨_,e⟩ ?_
 exact ⟨hz,its',n',r,e⟩
def yyO:V->V->V->Hp->(Hp->Prop)->Prop:=fun o i v H Q=>∃ p xs k j,o=.ref p/\i=.int k/\H p=some (.lst xs)/\ixN xs.length k=some j/\Q (upd H p (.lst (xs.set j v)))
theorem set_list:yDA X yyO:=by
 intro pins s σ H o i v ov iv u Q I ro ri rv h
 obtain ⟨p,xs,k,j,rfl,rfl,hp,hj,q⟩:=h
 cases ro
 obtain ⟨t,rfl⟩:=ri
 obtain ⟨its,n,r,ho,hz⟩:=I.lst hp
 obtain ⟨h1,h2,h3,h4⟩:=ypN hj
 have hl:=r.length
 have hn:=yiC
 have I':Inv X pins σ (upd H p (.lst (xs.set j v))) { s with heap:=s.heap.update p (Obj.mapSeq (·.setIfInBounds j u)) } :=
  I.lstUpd hp ho (yoG its n j u) (r.set rv j) (by rw [length_set];exact hz) s.toks
 by_cases h0:0<=k
 .have hk:k.toNat=j:=by
   rw [seqIndex_of h0 h4] at h1
   exact Option.some.inj h1
  exact PySem.W.ki_setAt ho h0 (by omega) (by rw [size_toArray,<- hl];exact h4) (by rw [hk];exact ⟨_,I',q⟩)
 .have hk:(k+(its.toArray.size:Int)).toNat=j:=by
   rw [seqIndex_neg (by omega) h3] at h1
   rw [size_toArray,<- hl]
   exact Option.some.inj h1
  exact PySem.W.ki_setBack ho (by omega) (by rw [size_toArray,<- hl];exact h3) (by omega) (by rw [hk];exact ⟨_,I',q⟩)
theorem ykr (lo hi:Option Int) (n:Nat):(sliceBounds lo hi none n).1=((HT.sIx n 0 lo:Nat):Int)/\(sliceBounds lo hi none n).2.1=((HT.sIx n n hi:Nat):Int)/\(sliceBounds lo hi none n).2.2=1:=by
 refine ⟨?_,?_,rfl⟩
 .cases lo with
  | none=>simp [sliceBounds,HT.sIx]
  | some i =>
   simp only [sliceBounds,HT.sIx,Option.getD_none,show (1:Int)>0 by decide,if_true]
   by_cases h:i<0
   .simp only [h,if_true]<;>omega
   .simp only [h,if_false]<;>omega
 .cases hi with
  | none=>simp [sliceBounds,HT.sIx]
  | some i =>
   simp only [sliceBounds,HT.sIx,Option.getD_none,show (1:Int)>0 by decide,if_true]
   by_cases h:i<0
   .simp only [h,if_true]<;>omega
   .simp only [h,if_false]<;>omega
theorem yjg (its:List Value) (lo hi:Option Int):slicePick its.toArray lo hi none=((its.drop (HT.sIx its.length 0 lo)).take (HT.sIx its.length its.length hi-HT.sIx its.length 0 lo)).toArray:=by
 obtain ⟨h1,h2,h3⟩:=ykr lo hi its.toArray.size
 unfold slicePick
 rw [h1,h2,h3]
 simp only [sliceRange_one,pick_run,size_toArray]<;>rfl
def yDK (K:PySem.W.Frag):V->Option Int->Option Int->Hp->VK->Prop:=fun x lo hi H Q=>∃ a xs,x=.ref a/\SqL K H a xs/\∀ p,H p=none->Q (.ref p) (upd H p (.lst (yyM xs lo hi)))
theorem yvV:SlR X (yDK X.K):=by
 intro pins s σ H x v vl vu lo hi sl Q I rx hs pl pu h
 obtain ⟨a,xs,rfl,hx,q⟩:=h
 cases rx
 obtain ⟨its,r,ht,hz⟩:=I.list hx
 have hlen:=r.length
 refine ⟨"list",_,slot_list_getitem.lookup,ht.isList.typeIs,?_⟩
 refine wpAny_getItem_list_slice ht.isList hs pl pu .none (by simp) ?_ (by rw [size_toArray]<;>omega)
 rw [yjg,<- hlen]
 refine ⟨.ref s.heap.objs.size,_,I.laid (t':=s.toks) (o:=.lst (yyM xs lo hi)) (fun b ob q=>Heap.get?_push_of_some _ q) (Nat.le_refl _) ?_,rfl,q _ (I.hok.fresh (Nat.le_refl _))⟩
 exact ⟨Nat.le_trans (ylU xs lo hi) hz,_,0,(r.drop (HT.sIx xs.length 0 lo)).take (HT.sIx xs.length xs.length hi-HT.sIx xs.length 0 lo),Heap.get?_push_size _ rfl⟩
def yfE:V->Bool
 | .non=>true
 | .bl _=>true
 | .int _=>true
 | .str _=>true
 | _=>false
noncomputable def eqV:V->V->Bool
 | .non,.non=>true
 | .bl a,.bl b=>a == b
 | .bl a,.int b=>(if a then 1 else 0) == b
 | .int a,.bl b=>a == (if b then 1 else 0)
 | .int a,.int b=>a == b
 | .str a,.str b=>a == b
 | _,_=>false
theorem eqAt_V {A:Around}{s:Shared}{y x:V}{u v:Value}(ry:RelV y u) (rx:RelV x v) (fy:yfE y=true) (fx:yfE x=true):SeqAt.EqAt A s u v (eqV y x):=by
 cases y with
 | non =>
  cases ry
  cases x with
  | non=>cases rx;exact SeqAt.EqAt.same _
  | bl b=>cases rx;exact SeqAt.EqAt.none_bool b
  | int b=>obtain ⟨t,rfl⟩:=rx;exact SeqAt.EqAt.none_int b t
  | str b=>obtain ⟨t,rfl⟩:=rx;exact SeqAt.EqAt.none_str b t
  | _=>exact absurd (show false=true from fx) Bool.false_ne_true
 | bl a =>
  cases ry
  cases x with
  | non=>cases rx;exact SeqAt.EqAt.bool_none a
  | bl b=>cases rx;exact SeqAt.EqAt.bool_bool a b
  | int b=>obtain ⟨t,rfl⟩:=rx;exact SeqAt.EqAt.bool_int a b t
  | str b=>obtain ⟨t,rfl⟩:=rx;exact SeqAt.EqAt.bool_str a b t
  | _=>exact absurd (show false=true from fx) Bool.false_ne_true
 | int a =>
  obtain ⟨t',rfl⟩:=ry
  cases x with
  | non=>cases rx;exact SeqAt.EqAt.int_none a t'
  | bl b=>cases rx;exact SeqAt.EqAt.int_bool a t' b
  | int b=>obtain ⟨t,rfl⟩:=rx;exact SeqAt.EqAt.int_int a t' b t
  | str b=>obtain ⟨t,rfl⟩:=rx;exact SeqAt.EqAt.int_str a t' b t
  | _=>exact absurd (show false=true from fx) Bool.false_ne_true
 | str a =>
  obtain ⟨t',rfl⟩:=ry
  cases x with
  | non=>cases rx;exact SeqAt.EqAt.str_none a t'
  | bl b=>cases rx;exact SeqAt.EqAt.str_bool a t' b
  | int b=>obtain ⟨t,rfl⟩:=rx;exact SeqAt.EqAt.str_int a t' b t
  | str b=>obtain ⟨t,rfl⟩:=rx;exact SeqAt.EqAt.str_str a t' b t
  | _=>exact absurd (show false=true from fx) Bool.false_ne_true
 | _=>exact absurd (show false=true from fy) Bool.false_ne_true
def eqU (x:V) (u:Value):Bool:=match u with
 | .none=>eqV .non x
 | .bool b=>eqV (.bl b) x
 | .int i _=>eqV (.int i) x
 | .str z _=>eqV (.str z) x
 | _=>false
theorem yuR {x y:V}{u:Value}(r:RelV y u) (f:yfE y=true):eqU x u=eqV y x:=by
 cases y with
 | non=>cases r;rfl
 | bl b=>cases r;rfl
 | int i=>obtain ⟨t,rfl⟩:=r;rfl
 | str z=>obtain ⟨t,rfl⟩:=r;rfl
 | _=>exact absurd (show false=true from f) Bool.false_ne_true
theorem ylW {x:V}:∀ {xs:List V}{us:List Value},Vals xs us->xs.all yfE=true->us.any (eqU x)=xs.any fun y=>eqV y x
 | _,_,.nil,_=>rfl
 | y::xs,u::us,.cons r t,f=>by
  rw [List.all_cons,and_eq_true] at f
  rw [any_cons,any_cons,yuR r f.1,ylW t f.2]
theorem yjh {A:Around}{s:Shared}{x:V}{v:Value}(rx:RelV x v) (fx:yfE x=true):∀ {xs:List V}{us:List Value},Vals xs us->xs.all yfE=true->∀ u∈us,SeqAt.EqAt A s u v (eqU x u)
 | _,_,.nil,_=>fun u hu=>by cases hu
 | y::xs,u::us,.cons r t,f=>fun u' hu=>by
  rw [List.all_cons,and_eq_true] at f
  rcases mem_cons.mp hu with rfl|hu
  .rw [yuR r f.1];exact eqAt_V r rx f.1 fx
  .exact yjh rx fx t f.2 u' hu
def inV (x:V) (xs:List V):Bool:=xs.any fun y=>eqV y x
def rIn (K:PySem.W.Frag) (neg:Bool):R2:=fun x y H Q=>∃ p xs,y=.ref p/\(SqL K H p xs\/SqT K H p xs)/\yfE x=true/\xs.all yfE=true/\Q (.bl (if neg then !inV x xs else inV x xs)) H
theorem yhm:OpR X (compareOp .In) (rIn X.K false):=by
 intro pins s σ H x y v u Q I rx ry h
 obtain ⟨p,xs,rfl,hq,fx,fs,q⟩:=h
 cases ry
 rcases hq with hq|hq
 .obtain ⟨its,r,pl,hz⟩:=I.list hq
  refine SeqAt.in_listAt (eqU x) pl.isList (fun w hw=>yjh rx fx r fs w (by simpa using hw)) ⟨.bl _,H,I,rfl,?_⟩
  rw [show its.toArray.any (eqU x)=its.any (eqU x) by simp,ylW r fs]
  exact q
 .obtain ⟨its,r,pl,hz⟩:=I.tuple hq
  refine SeqAt.in_tupleAt (eqU x) pl (fun w hw=>yjh rx fx r fs w (by simpa using hw)) ⟨.bl _,H,I,rfl,?_⟩
  rw [show its.toArray.any (eqU x)=its.any (eqU x) by simp,ylW r fs]
  exact q
theorem yI:yfk X (.builtin "len") (fun xs H Q=>∃ p ys,xs=[.ref p]/\(SqL X.K H p ys\/SqT X.K H p ys)/\Q (.int ys.length) H):=by
 intro pins s σ H xs us Q I r h
 obtain ⟨p,ys,rfl,hq,q⟩:=h
 obtain ⟨u,rfl,rx⟩:=vals1 r
 cases rx
 have hn:=yiC
 rcases hq with hq|hq
 .obtain ⟨its,r',pl,hz⟩:=I.list hq
  have hlen:=r'.length
  exact Calls.call_len_list pl.isList (by simp only [size_toArray]<;>omega) ⟨.int ys.length,H,I.tok _,⟨s.toks+1,by rw [size_toArray,hlen]⟩,q⟩
 .obtain ⟨its,r',pl,hz⟩:=I.tuple hq
  have hlen:=r'.length
  exact len_tuple pl (by simp only [size_toArray]<;>omega) ⟨.int ys.length,H,I.tok _,⟨s.toks+1,by rw [size_toArray,hlen]⟩,q⟩
theorem ydG:yfk X (.builtin "len") (fun xs H Q=>∃ z,xs=[.str z]/\z.length<=sizeLine/\Q (.int z.length) H):=by
 intro pins s σ H xs us Q I r h
 obtain ⟨z,rfl,hz,q⟩:=h
 obtain ⟨u,rfl,t,rfl⟩:=vals1 r
 have hn:=yiC
 exact len_str (by omega) ⟨.int z.length,H,I.tok _,⟨_,rfl⟩,q⟩
theorem yM:yfk X (.type "list") (fun xs H Q=>∃ p ys,xs=[.ref p]/\(SqL X.K H p ys\/SqT X.K H p ys)/\∀ l,H l=none->Q (.ref l) (upd H l (.lst ys))):=by
 intro pins s σ H xs us Q I r h
 obtain ⟨p,ys,rfl,hq,q⟩:=h
 obtain ⟨u,rfl,rx⟩:=vals1 r
 cases rx
 have fin:∀ (its:List Value),Vals ys its->ys.length<=sizeLine->∀ (h':Heap) (c':Nat),(∀ b o',s.heap.get? b=some o'->h'.get? b=some o') ->
   h'.get? s.heap.objs.size=some { cls:=.type "list",dict:=none,data:=.seq its.toArray c',slots:=#[] }->EP X pins σ Q (.ref s.heap.objs.size) { s with heap:=h' }:=fun its r' hz h' c' kp e =>
  ⟨.ref s.heap.objs.size,_,I.laid (t':=s.toks) kp (Nat.le_refl _) (show ObjOk X.prog X.w _ h' _ (.lst ys) from ⟨hz,its,c',r',e⟩),rfl,q _ (I.hok.fresh (Nat.le_refl _))⟩
 rcases hq with hq|hq
 .obtain ⟨its,r',pl,hz⟩:=I.list hq
  have hlen:=r'.length
  obtain ⟨o,ho,hc,n,hd⟩:=pl.isList
  exact call_list_seq p (.inl rfl) ho hc hd (fun h' c' kp e=>fin its r' hz h' c' kp e) (by simp only [size_toArray]<;>omega)
 .obtain ⟨its,r',pl,hz⟩:=I.tuple hq
  have hlen:=r'.length
  obtain ⟨o,ho,hc,n,hd⟩:=pl
  exact call_list_seq p (.inr rfl) ho hc hd (fun h' c' kp e=>fin its r' hz h' c' kp e) (by simp only [size_toArray]<;>omega)
def tyV (K:PySem.W.Frag) (T:String) (x:V) (H:Hp):Prop:=match x with
 | .str _=>T = "str"
 | .int _=>T = "int"
 | .ref p=>(T = "list"/\∃ xs,SqL K H p xs)\/(T = "tuple"/\∃ o,K.lookup p=some o/\o.cls=.type "tuple"/\o.dict=none) \/
   (T = "dict"/\((∃ kvs,H p=some (.dK kvs))\/∃ kvs,H p=some (.dT kvs)))\/(T = "set"/\∃ S n,H p=some (.set S n))
 | _=>False
theorem yuS {pins:List (Addr×Obj)}{σ:St}{H:Hp}{s:Shared}{T:String}{x:V}{v:Value}(I:Inv X pins σ H s) (r:RelV x v) (ty:tyV X.K T x H) :
  s.TypeIs v T/\∀ a,v=.ref a->∃ ob,s.heap.get? a=some ob/\ob.dict=none:=by
 cases x with
 | str z =>
  obtain ⟨t,rfl⟩:=r
  cases (show T = "str" from ty)
  exact ⟨typeIs_str s z t,fun _ e=>nomatch e⟩
 | int i =>
  obtain ⟨t,rfl⟩:=r
  cases (show T = "int" from ty)
  exact ⟨typeIs_int s i t,fun _ e=>nomatch e⟩
 | ref p =>
  cases r
  rcases ty with ⟨rfl,xs,hq⟩|⟨rfl,o,hk,hc,hd⟩|⟨rfl,hk⟩|⟨rfl,S,n,hk⟩
  .obtain ⟨its,_,pl,_⟩:=I.list hq
   refine ⟨pl.isList.typeIs,fun a e=>?_⟩
   cases e
   obtain ⟨o,n,e,c,hd,_⟩:=pl
   exact ⟨o,e,hd⟩
  .refine ⟨⟨o,I.kIn p o hk,hc⟩,fun a e=>?_⟩
   cases e
   exact ⟨o,I.kIn _ o hk,hd⟩
  .have z:∃ o,s.heap.get? p=some o/\o.ExactDict:=by
    rcases hk with ⟨kvs,hk⟩|⟨kvs,hk⟩
    .obtain ⟨_,_,_,_,o,_,_,e,ex,_⟩:=I.hok p _ hk
     exact ⟨o,e,ex⟩
    .obtain ⟨_,_,_,_,o,_,_,e,ex,_⟩:=I.hok p _ hk
     exact ⟨o,e,ex⟩
   obtain ⟨o,e,ex⟩:=z
   refine ⟨⟨o,e,ex.1⟩,fun a e2=>?_⟩
   cases e2
   exact ⟨o,e,ex.2.1⟩
  .obtain ⟨o,_,_,_,e,ex,_⟩:=I.hok p _ hk
   refine ⟨⟨o,e,ex.1⟩,fun a e2=>?_⟩
   cases e2
   exact ⟨o,e,ex.2.1⟩
 | _=>exact False.elim ty
def yBI (K:PySem.W.Frag) (T:String) (r:V->List V->Hp->VK->Prop) (to:TE):TE:=fun σ H Q=>to σ H fun x H1=>tyV K T x H1/\r x [] H1 Q
def tBM (K:PySem.W.Frag) (T:String) (r:V->List V->Hp->VK->Prop) (to:TE) (t:TA):TE:=fun σ H Q=>to σ H fun x H1=>tyV K T x H1/\t σ H1 fun xs H2=>r x xs H2 Q
variable {o e:Expr}{es:List Expr}{to:TE}{t:TA}{name:Str}{apos cpos:Pos}{T id:String}{r:V->List V->Hp->VK->Prop}
theorem yuT (pa:PlainAttrs T) (slot:Slot T name id) (hty:typeOf (.builtin id)=pure (.type "method_descriptor")) (hm:MtR X id r) (ho:PE X o to)
  (hbase:attributeBase o name X.env (eval o X.env)=eval o X.env:=by rfl) (hline:(apos.endLine == cpos.line)=true:=by rfl):PE X (.Call (.Attribute o name apos) [] [] cpos) (yBI X.K T r to):=by
 intro pins s σ H Q I h
 refine wpAny_Call_method0_late hbase hline (thn (ho pins s σ H _ I h) fun v s1 ⟨x,H1,I1,r1,ty,q1⟩=>?_)
 obtain ⟨h1,h2⟩:=yuS I1 r1 ty
 exact ⟨T,id,pa,slot,hty,h1,h2,Calls.callWith_builtin rfl (PySem.evalArgs_none (hm pins s1 σ H1 x [] v [] Q I1 r1 .nil q1))⟩
theorem yvW (pa:PlainAttrs T) (slot:Slot T name id) (hty:typeOf (.builtin id)=pure (.type "method_descriptor")) (hm:MtR X id r) (ho:PE X o to) (ha:PA X (e::es) t)
  (hbase:attributeBase o name X.env (eval o X.env)=eval o X.env:=by rfl)
  (hfew:((backTo cpos (starEach (e::es) X.env)).all (fun x=>!x.1) && (backToKw cpos (keywordEach [] X.env)).all (fun x=>x.1.isSome)
   && decide ((e::es).length+([]:List Keyword).length+(if ([]:List Keyword).isEmpty then 0 else 1)<30))=true:=by rfl)
  (hline:(apos.endLine == cpos.line)=true:=by rfl) (hs:starEach (e::es) X.env=(false,eval e X.env)::starEach es X.env:=by rfl) (hplain:(backTo cpos (starEach es X.env)).any (·.1)=false:=by rfl) :
  PE X (.Call (.Attribute o name apos) (e::es) [] cpos) (tBM X.K T r to t):=by
 intro pins s σ H Q I h
 refine wpAny_Call_method_late hbase hfew hline rfl (thn (ho pins s σ H _ I h) fun v s1 ⟨x,H1,I1,r1,ty,q1⟩=>?_)
 obtain ⟨h1,h2⟩:=yuS I1 r1 ty
 refine ⟨T,id,pa,slot,hty,h1,h2,?_⟩
 have hA:=ha cpos pins s1 σ H1 _ I1 q1
 rw [hs] at hA ⊢
 refine Calls.callWith_builtin (by show (false || (backTo cpos (starEach es X.env)).any (·.1))=false;rw [hplain]<;>rfl) (Calls.evalArgs_plain ?_)
 exact thn hA fun us s2 ⟨vs,H2,I2,r2,q2⟩=>hm pins s2 σ H2 x vs v us Q I2 r1 r2 q2
end
end L2
namespace L2
open PySem PySem.Spec PyProof.Rows
def MtM (X:Cx) (id:String) (r:V->List V->Hp->VK->Prop):Prop :=
 ∀ (pins:List (Addr×Obj)) (s:Shared) (σ:St) (H:Hp) (x:V) (xs:List V) (v:Value) (us:List Value) (Q:VK),Inv X pins σ H s->RelV x v->Vals xs us->r x xs H Q ->
  wpAny (model X.prog X.w) X.A (call (.builtin id) (v::us)) (EP X pins σ Q) X.xe s
theorem Vals.one:∀ {x:V}{us:List Value},Vals [x] us->∃ u,us=[u]/\RelV x u
 | _,_,.cons r .nil=>⟨_,rfl,r⟩
theorem Vals.zero:∀ {us:List Value},Vals [] us->us=[]
 | _,.nil=>rfl
theorem Vals.dropLast {xs:List V}{us:List Value}(h:Vals xs us):Vals xs.dropLast us.dropLast:=by
 induction h with
 | nil=>exact .nil
 | cons r t ih =>
  cases t with
  | nil=>exact .nil
  | cons q t'=>exact .cons r ih
theorem Vals.rep {xs:List V}{us:List Value}(h:Vals xs us):∀ k:Nat,Vals (replicate k xs).flatten (replicate k us).flatten
 | 0=>.nil
 | k+1=>by
  rw [List.replicate_succ,List.replicate_succ,List.flatten_cons,List.flatten_cons]
  exact Vals.append h (Vals.rep h k)
theorem yoH {α:Type}(l:List α):l.eraseIdx (l.length-1)=l.dropLast:=by
 induction l with
 | nil=>rfl
 | cons a r ih =>
  cases r with
  | nil=>rfl
  | cons b r =>
   have e:(a::b::r).length-1=((b::r).length-1)+1:=by
    have h1:(a::b::r).length=r.length+2:=rfl
    have h2:(b::r).length=r.length+1:=rfl
    omega
   rw [e,List.eraseIdx_cons_succ,ih]
   all_goals rfl
theorem foldl_rep (its:List Value):∀ (k:Nat) (acc:List Value),
  List.foldl (fun x1 x2=>x1++x2) acc.toArray (replicate k its.toArray)=(acc++(replicate k its).flatten).toArray
 | 0,acc=>by simp
 | k+1,acc=>by
  have e:acc.toArray++its.toArray=(acc++its).toArray:=by simp
  have e2:(acc++its)++(replicate k its).flatten=acc++(replicate (k+1) its).flatten:=by
   rw [List.replicate_succ,List.flatten_cons,append_assoc]
  rw [<- e2,<- foldl_rep its k (acc++its),<- e,List.replicate_succ,List.foldl_cons]
section
variable {X:Cx}{pins:List (Addr×Obj)}{σ:St}{H:Hp}{s:Shared}{l b:Addr}{xs ys zs:List V}
theorem Inv.lset {its its':List Value}{n:Nat}{f:Array Value->Array Value}{t':Nat}(I:Inv X pins σ H s) (hH:H l=some (.lst xs))
  (e:s.heap.get? l=some { cls:=.type "list",data:=.seq its.toArray n }) (hf:f its.toArray=its'.toArray) (hv:Vals ys its') (hz:ys.length<=sizeLine) :
  Inv X pins σ (upd H l (.lst ys)) { s with heap:=s.heap.update l (Obj.mapSeq f),toks:=t' }:=by
 have q:=PySem.IsL.update e f
 rw [hf] at q
 refine I.write (x:=l) (e:=l) (by rw [hH];exact trivial) (.inl rfl) (fun b' u hb hu=>(Heap.get?_update_other s.heap (Obj.mapSeq f) (Ne.symm hb)).trans hu) ⟨_,q⟩ ?_
 exact ⟨hz,its',_,hv,q⟩
theorem Inv.lnew {its:List Value}{t':Nat}(I:Inv X pins σ H s) (hv:Vals ys its) (hz:ys.length<=sizeLine) :
  Inv X pins σ (upd H s.heap.objs.size (.lst ys)) { s with heap:=s.heap.push { cls:=.type "list",data:=.seq its.toArray },toks:=t' } :=
 I.laid (fun _ _ q=>Heap.get?_push_of_some _ q) (Nat.le_refl _) ⟨hz,its,0,hv,Heap.get?_push_size _ rfl⟩
theorem Inv.fresh (I:Inv X pins σ H s):H s.heap.objs.size=none:=I.hok.fresh (Nat.le_refl _)
theorem Inv.lstM (I:Inv X pins σ H s) (hH:H l=some (.lst xs)):xs.length<=sizeLine/\∃ (its:List Value) (n:Nat),Vals xs its/\xs.length=its.length/\s.heap.get? l=some { cls:=.type "list",data:=.seq its.toArray n }:=by
 obtain ⟨z,its,n,r,e⟩:=I.hok l _ hH
 exact ⟨z,its,n,r,r.length,e⟩
theorem ynA {n:Nat}(h:n<=sizeLine):Builtin.List.listTooLong n=false:=by
 unfold Builtin.List.listTooLong
 exact decide_eq_false (by omega)
end
section
variable {X:Cx}
noncomputable def ylX:V->List V->Hp->VK->Prop:=fun x vs H Q=>∃ l xs y,x=.ref l/\vs=[y]/\H l=some (.lst xs)/\xs.length<sizeLine/\Q .non (upd H l (.lst (xs++[y])))
theorem ydU:MtM X "list.append" ylX:=by
 intro pins s σ H x vs v us Q I rx rv h
 obtain ⟨l,xs,y,rfl,rfl,hH,hz,q⟩:=h
 cases rx
 obtain ⟨u,rfl,ru⟩:=rv.one
 obtain ⟨z,its,n,r,hl,e⟩:=I.lstM hH
 refine call_meets F.slot_list_append ⟨_,e,rfl⟩ F.entry_list_append (F.args_list_append_2 _ _) (PySem.list_append l its.toArray n u (by rw [size_toArray];omega)) ⟨e,?_⟩
 refine ⟨.non,_,I.lset (its':=its++[u]) hH e (by simp) (r.append (.cons ru .nil)) ?_,rfl,q⟩
 rw [length_append,List.length_singleton]
 omega
noncomputable def ypP:V->List V->Hp->VK->Prop:=fun x vs H Q=>∃ l b xs zs,x=.ref l/\vs=[.ref b]/\H l=some (.lst xs)/\H b=some (.lst zs)/\xs.length+zs.length<=sizeLine/\Q .non (upd H l (.lst (xs++zs)))
theorem ypQ:MtM X "list.extend" ypP:=by
 intro pins s σ H x vs v us Q I rx rv h
 obtain ⟨l,b,xs,zs,rfl,rfl,hH,hB,hz,q⟩:=h
 cases rx
 obtain ⟨u,rfl,ru⟩:=rv.one
 cases ru
 obtain ⟨z,its,n,r,hl,e⟩:=I.lstM hH
 obtain ⟨z2,its2,n2,r2,hl2,e2⟩:=I.lstM hB
 have hsz:its.toArray.size+its2.toArray.size<=sizeLine:=by rw [size_toArray,size_toArray];omega
 have hlong:¬ (!its.toArray.isEmpty && Builtin.List.listTooLong (its.toArray.size+its2.toArray.size))=true:=by
  rw [ynA hsz,Bool.and_false]
  exact Bool.false_ne_true
 refine call_meets F.slot_list_extend ⟨_,e,rfl⟩ F.entry_list_extend (F.args_list_extend_2 _ _)
  (AutoSeq1.list_extend_list_list_0 l its.toArray n b its2.toArray n2 hlong (by rw [size_toArray];omega) (by omega)) ⟨e,e2,?_⟩
 refine ⟨.non,_,I.lset (its':=its++its2) hH e (by simp) (r.append r2) ?_,rfl,q⟩
 rw [length_append]
 omega
noncomputable def yDL:V->List V->Hp->VK->Prop:=fun x vs H Q=>∃ l xs y,x=.ref l/\vs=[]/\H l=some (.lst xs)/\xs[xs.length-1]?=some y/\Q y (upd H l (.lst xs.dropLast))
theorem ynB:MtM X "list.pop" yDL:=by
 intro pins s σ H x vs v us Q I rx rv h
 obtain ⟨l,xs,y,rfl,rfl,hH,hy,q⟩:=h
 cases rx
 have hus:=rv.zero
 subst hus
 obtain ⟨z,its,n,r,hl,e⟩:=I.lstM hH
 obtain ⟨u,hu,ru⟩:=r.get hy
 have hy':its.toArray[its.toArray.size-1]?=some u:=by
  show its.toArray[its.length-1]?=some u
  rw [<- Array.getElem?_toList,<- hl]
  exact hu
 refine call_meets F.slot_list_pop ⟨_,e,rfl⟩ F.entry_list_pop (F.args_list_pop_1 _) (MeetsSeq.list_pop_last l its.toArray n u hy' (by rw [size_toArray];omega)) ⟨e,?_⟩
 refine ⟨y,_,I.lset (its':=its.dropLast) hH e ?_ r.dropLast ?_,ru,q⟩
 .show its.toArray.eraseIdxIfInBounds (its.toArray.size-1)=its.dropLast.toArray
  rw [size_toArray,List.eraseIdxIfInBounds_toArray,yoH]
 .rw [List.length_dropLast]
  omega
noncomputable def yDM:R2:=fun x y H Q=>∃ l b xs zs,x=.ref l/\y=.ref b/\H l=some (.lst xs)/\H b=some (.lst zs)/\xs.length+zs.length<=sizeLine/\∀ p,H p=none->Q (.ref p) (upd H p (.lst (xs++zs)))
theorem yeB:OpR X (binaryOp .Add) yDM:=by
 intro pins s σ H x y v u Q I rx ry h
 obtain ⟨l,b,xs,zs,rfl,rfl,hH,hB,hz,q⟩:=h
 cases rx
 cases ry
 obtain ⟨z,its,n,r,hl,e⟩:=I.lstM hH
 obtain ⟨z2,its2,n2,r2,hl2,e2⟩:=I.lstM hB
 refine PySem.P.add_list e e2 ?_ (by rw [size_toArray,size_toArray];omega)
 have ea:its.toArray++its2.toArray=(its++its2).toArray:=by simp
 rw [ea]
 exact ⟨.ref _,_,I.lnew (t':=s.toks) (r.append r2) (by rw [length_append];omega),rfl,q _ I.fresh⟩
noncomputable def yDN:R2:=fun x y H Q=>∃ l k xs,x=.ref l/\y=.int k/\H l=some (.lst xs)/\-(2 ^ 63)<=k/\k<2 ^ 63/\xs.length*k.toNat<=sizeLine /\
 ∀ p,H p=none->Q (.ref p) (upd H p (.lst (replicate k.toNat xs).flatten))
theorem len_rep {α:Type}(xs:List α) (k:Nat):(replicate k xs).flatten.length=k*xs.length:=by
 induction k with
 | zero=>simp
 | succ k ih=>rw [List.replicate_succ,List.flatten_cons,length_append,ih,Nat.succ_mul,Nat.add_comm]
theorem ypR:OpR X (binaryOp .Mult) yDN:=by
 intro pins s σ H x y v u Q I rx ry h
 obtain ⟨l,k,xs,rfl,rfl,hH,h1,h2,hz,q⟩:=h
 cases rx
 obtain ⟨t,rfl⟩:=ry
 obtain ⟨z,its,n,r,hl,e⟩:=I.lstM hH
 have hlen:its.toArray.size*k.toNat<=sizeLine:=by rw [size_toArray,<- hl];exact hz
 have hcap:¬ its.toArray.size*k.toNat>(2 ^ 63-1)/8:=by
  have:(sizeLine:Nat)<=(2 ^ 63-1)/8:=by decide
  omega
 have hfit:¬ (!Builtin.List.listFitsIndex k)=true:=by
  rw [fitsIndex_both h1 h2]
  exact Bool.false_ne_true
 have hlong:¬ Builtin.List.listTooLong (its.toArray.size*k.toNat)=true:=by
  rw [ynA hlen]
  exact Bool.false_ne_true
 have hnew:List.foldl (fun x1 x2=>x1++x2) #[] (replicate (if its.toArray.isEmpty=true then 0 else k.toNat) its.toArray)=(replicate k.toNat its).flatten.toArray:=by
  have f0:∀ m:Nat,List.foldl (fun x1 x2=>x1++x2) #[] (replicate m its.toArray)=(replicate m its).flatten.toArray:=fun m=>by
   have:=foldl_rep its m []
   rw [List.nil_append] at this
   exact this
  rw [f0]
  cases its with
  | nil=>simp
  | cons a r'=>rw [if_neg (by simp)]
 refine wpAny_binaryOp_repeat_ref (T:="list") (U:="int") (by decide) ⟨_,e,rfl⟩ (fun s'=>typeIs_int s' k t) noFill_list_mul F.fills_int_mul F.slot_int_rmul repeat_list F.slot_int_index.lookup
  (call_meets F.slot_int_rmul (typeIs_int s k t) F.entry_int_rmul (F.args_int_rmul_2 _ _) (int___rmul___int_list k t l its.toArray n)
   ⟨e,rfl,⟨_,e,rfl⟩,call_meets F.slot_list_mul ⟨_,e,rfl⟩ F.entry_list_mul (F.args_list_mul_2 _ _) (AutoListH.list___mul___list_int_3 l its.toArray n k t hfit hcap hlong) ⟨e,?_⟩⟩)
 rw [hnew]
 exact ⟨.ref _,_,I.lnew (t':=s.toks) (r.rep k.toNat) (by rw [len_rep,Nat.mul_comm];exact hz),rfl,q _ I.fresh⟩
end
section
variable {prog:Program}{w:World}{A:Around}{E:Value->Shared->Prop}{s:Shared}
end
section
variable {X:Cx}
end
end L2
namespace Att
open PySem PySem.W PySem.Calls PyProof.Rows
theorem yhn {P:Params}{h:Heap}:∀ (ns:List Int) (vs:List Value),WellAll P h vs (ns.map WData.int)->IntsAre vs ns:=by
 intro ns
 induction ns with
 | nil =>
  intro vs w
  rw [map_nil] at w
  cases w
  exact .nil
 | cons n ns ih =>
  intro vs w
  rw [map_cons] at w
  cases w with
  | cons a b =>
   cases a
   exact .cons _ _ (ih _ b)
theorem ypS {l:OpenLaw}{n:Nat}(hn:l.most=some n) {P:Params}{h:Heap}{args:List WData}{vals:List Value}
  (hpre:l.row.toRowW.claim.pre args=true) (hwl:WellAll P h vals args) :
  ∃ a vs ns,vals=[Value.ref a]/\args=[WData.list (ns.map WData.int)]/\h.get? a=some { cls:=.type "list",data:=.seq vs.toArray }/\IntsAre vs ns/\ns.length<=n:=by
 have hsh:WShape.hasAll [] args [.list .int]=true:=(pre_splitW hpre).1
 have hc:l.pre.holds [] { args:=args }=true:=(pre_splitW hpre).2
 obtain ⟨d,r,rfl,h1,h2⟩:=hasAllW_cons hsh
 obtain rfl:=hasAllW_nil h2
 obtain ⟨xs,rfl,h3⟩:=hasW_list h1
 obtain ⟨ns,rfl⟩:=items_int h3
 have hlen:ns.length<=n:=by
  unfold OpenLaw.pre at hc
  have h4:(WTm.not (.lt (.lit (.int (n:Int))) (.len (.arg 0)))).holds [] { args:=[.list (ns.map .int)] }=true:=by
   have h4:=(holds_andW hc).1
   rw [hn] at h4
   exact h4
  have h5:=condW_of h4 (w_not (w_lt w_lit (w_len_list (w_arg rfl))))
  rw [length_map] at h5
  refine Nat.le_of_not_lt fun q=>?_
  have q':(n:Int)<((ns.length:Nat):Int):=by omega
  first
   | (rw [decide_eq_true q'] at h5;exact absurd h5 (by decide))
   | (simp at h5;omega)
 cases hwl with
 | cons w1 w2 =>
  cases w2
  cases w1 with
  | list ho hall=>exact ⟨_,_,ns,rfl,rfl,ho,yhn ns _ hall,hlen⟩
theorem ypT (l:OpenLaw) (args:List WData):l.row.toRowW.claim.post args (.bool true) args=true :=
 postW_of (r:=l.row.toRowW) (X:=(true == true))
  (show WShape.has [] (.bool true) .bool=true by first|rfl|decide|simp [WShape.has,WShape.arms,WShape.armsAll])
  (show (WTm.eq .res (.lit (.bool true))).value [] { args:=args,res:=some (.bool true),after:=args }=some (.bool (true == true)) from w_eq_bool (w_res rfl) w_lit) rfl
theorem attach_call {l:OpenLaw}{n:Nat}{q:Program}{loose:List Str}{XP:(Str->Option Value)->Heap->Prop}{YP:World->Heap->Prop}{d:DefRec}
  (hn:l.most=some n) (hdf:d.params.defaults=[])
  (call:∀ (w:World) (s₀ s₁:Shared) (mg mb:Str->Option Value) (fa:Addr) (o:Obj) (pm cd doc:Value) (a:Addr) (vs:List Value) (ns:List Int),
   Ground q loose [] XP w s₀ mg mb s₁.heap->YP w s₁.heap ->
   s₁.heap.get? fa=some o->o.data=.func (docDef d.name d.params d.body d.scope pm cd doc)->s₁.heap.CodeRec cd d.name->mg d.name=some (.ref fa) ->
   s₁.heap.get? a=some { cls:=.type "list",data:=.seq vs.toArray }->IntsAre vs ns->ns.length<=n->s₁.gens = #[] ->
   codeAny (model l.prog w) callerA (.call (.ref fa) ⟨[.ref a],[]⟩) (fun r s'=>r=.ok (.ret (.bool true))/\OldK s₁.heap s'.heap/\s'.os=s₁.os/\AllBare s'.gens) s₁) :
  WalkO q loose XP YP l.row.toRowW d [] (fun f vs=>PySem.call f vs):=by
 intro w s₀ s₁ mg mb G Y fa o pm cd doc dV kV ho hd hcd hD hmg hg args vals as hpre hlay hrd hwl hlo
 obtain rfl:dV=.none:=Dflts.none hD hdf
 obtain rfl:kV=.none:=Dflts.noKw hD
 obtain ⟨a,vs,ns,rfl,rfl,hobj,hints,hlen⟩:=ypS hn hpre hwl
 refine enter_call (codeAny_mono (call w s₀ s₁ mg mb fa o pm cd doc a vs ns G Y ho (fd_plain hd) hcd hmg hobj hints hlen hg) fun r s' hq=>?_)
 obtain ⟨rfl,h2,h3,h4⟩:=hq
 exact ⟨.inl ⟨.bool true,.bool true,[],rfl,fun _=>rfl,.bool true,ypT l _,fun _=>⟨List.Pairwise.nil,fun _ hm=>(nomatch hm)⟩⟩,h2,h3,h4⟩
section
variable {prog:Program}{w:World}{A:Around}{E:Value->Shared->Prop}{s:Shared}{K:Frag}
end
end Att
namespace L2
open PySem PySem.Spec PyProof.Rows
theorem yho:∀ {vs:List Value}{ns:List Int},IntsAre vs ns->Vals (ns.map V.int) vs
 | _,_,.nil=>.nil
 | _,_,.cons n t h=>.cons ⟨t,rfl⟩ (yho h)
def yBJ (H:Hp):Prop:=∀ b,H b=none\/∃ o xs,H b=some (.frz o (.lst xs))
theorem ysK {P:Program}{w:World}{K:PySem.W.Frag}{mg mb:Str->Option Value}{CX:CXT}{k:Nat}{fa a:Addr}{fd:FuncData}{x:Str}{sp:Sp}{s₁:Shared}{vs:List Value}{ns:List Int}
  (KX:K.In s₁.heap) (hns:s₁.heap.Ns mainGlobals mg) (hb:s₁.heap.Ns builtinsNs mb) (hbb:∀ x:Str,x≠"__name__"->mb x=bootBuiltins x) (hlim:s₁.heap.NoLimit) (hg:s₁.gens = #[])
  (ha:s₁.heap.get? a=some { cls:=.type "list",data:=.seq vs.toArray }) (hi:IntsAre vs ns) (hl:ns.length<=sizeLine) (hr:Room k callerA)
  (F:∀ base:Heap,K.In base->base.Ns mainGlobals mg->FnOk P w K mg base CX k fa fd [x] sp) (hbind:∀ (s:Shared) (u:Value),BindsTo s fd ⟨[u],[]⟩ [(x,u)])
  (hsp:∀ H:Hp,yBJ H->SqL K H a (ns.map V.int)->sp [.ref a] H (fun v _=>v=.bl true) fun _ _ _=>False)
  (hCX:∀ H e s',CX [] H s₁ (fun _ _ _=>False) e s'->False) :
  codeAny (model P w) callerA (.call (.ref fa) ⟨[.ref a],[]⟩) (fun r s'=>r=.ok (.ret (.bool true))/\OldK s₁.heap s'.heap/\s'.os=s₁.os/\AllBare s'.gens) s₁:=by
 have rv:=yho hi
 have lenV:=hi.length
 have core:∀ H:Hp,yBJ H->SqL K H a (ns.map V.int)->HOk P w H s₁.heap->(∀ b,H b≠none->b=a)->(H a≠none->K.lookup a=none) ->
   codeAny (model P w) callerA (.call (.ref fa) ⟨[.ref a],[]⟩) (fun r s'=>r=.ok (.ret (.bool true))/\OldK s₁.heap s'.heap/\s'.os=s₁.os/\AllBare s'.gens) s₁:=by
  intro H hO hS hok hA hK
  have base_of:∀ {b:Addr}{o:Obj},s₁.heap.get? b=some o->H b=none->(ysq s₁.heap H).get? b=some o:=fun e n=>ysr e n
  have noA:∀ {b:Addr}{o:Obj}{es:Array DictEntry}{ep:Nat},s₁.heap.get? b=some o->o.data=.dict es ep->H b=none:=fun {b o es ep} e d=>by
   cases q:H b with
   | none=>rfl
   | some u =>
    have e':b=a:=hA b (by rw [q];simp)
    subst e'
    rw [ha] at e;cases e
    have d':Data.seq vs.toArray _=Data.dict es ep:=d
    cases d'
  have nsK:∀ {b:Addr}{m:Str->Option Value},s₁.heap.Ns b m->(ysq s₁.heap H).Ns b m:=fun {b m} ⟨o,es,ep,e,d,r⟩=>⟨o,es,ep,base_of e (noA e d),d,r⟩
  have hKb:K.In (ysq s₁.heap H):=fun b o e=>base_of (KX b o e) (by
   cases q:H b with
   | none=>rfl
   | some u =>
    have e':b=a:=hA b (by rw [q];simp)
    subst e'
    rw [hK (by rw [q];simp)] at e;cases e)
  have hM:Mod K mg (ysq s₁.heap H):=⟨hKb,nsK hns,⟨mb,nsK hb,hbb⟩,let ⟨mc,h1,h2⟩:=hlim;⟨mc,nsK h1,h2⟩⟩
  have e0:Env0 P w K mg (ysq s₁.heap H) callerA [] s₁ H:=⟨rfl,hM,fun b o e=>yvE e,le_of_eq (ypt _ _),trivial,fun b hb=>absurd (show b∈([]:List Addr) from hb) (by simp),hok,.of_eq hg⟩
  refine codeAny_mono ((F _ hKb (nsK hns)).run callerA [] s₁ H ⟨[.ref a],[]⟩ [.ref a] [.ref a] _ _ hr e0 (hbind s₁ (.ref a)) (.cons rfl .nil) (hsp H hO hS)) fun r s' h=>?_
  cases r with
  | error e=>exact (hCX H e s' h).elim
  | ok fl =>
   cases fl with
   | next=>exact False.elim h
   | brk=>exact False.elim h
   | cont=>exact False.elim h
   | ret u =>
    obtain ⟨v,H',os,bare,un,hok',r',q⟩:=h
    have q':v=.bl true:=q
    subst q'
    obtain rfl:u=Value.bool true:=r'
    refine ⟨rfl,OldK.of_keep fun b o e=>?_,os,bare⟩
    cases q:H b with
    | none=>exact un.keep b o e q (by intro z;exact absurd (show b∈([]:List Addr) from z) (by simp)) (by simp)
    | some u =>
     rcases hO b with z|⟨ob,xs,z⟩
     .rw [q] at z;cases z
     .have z2:=un.frzs b ob _ z
      obtain ⟨e1,_⟩:=hok b _ z
      obtain ⟨e2,_⟩:=hok' b _ z2
      rw [e] at e1;cases e1
      exact e2
 cases hk:K.lookup a with
 | some o =>
  have e:=KX a o hk
  rw [ha] at e
  cases e
  refine core (fun _=>none) (fun _=>.inl rfl) (.inr ⟨_,vs.toArray,_,hk,rfl,rfl,rfl,by rw [size_toArray,lenV];exact hl,by simpa using rv⟩) (fun b u z=>by have z':(none:Option HO)=some u:=z;cases z') (fun b z=>absurd rfl z) fun z=>absurd rfl z
 | none =>
  refine core (fun b=>if b=a then some (.frz { cls:=.type "list",data:=.seq vs.toArray } (.lst (ns.map V.int))) else none) (fun b=>?_) (.inl (.inr ⟨{ cls:=.type "list",data:=.seq vs.toArray },if_pos rfl⟩)) (fun b u z=>?_) (fun b z=>?_) fun _=>hk
  .by_cases hb:b=a
   .exact .inr ⟨_,_,if_pos hb⟩
   .exact .inl (if_neg hb)
  .by_cases hb:b=a
   .have z':=(if_pos hb).symm.trans z
    cases z'
    subst hb
    exact ⟨ha,by rw [length_map];exact hl,vs,_,rv,ha⟩
   .have z':=(if_neg hb).symm.trans z
    cases z'
  .by_cases hb:b=a
   .exact hb
   .exact absurd (if_neg hb) z
end L2
namespace L2
open PySem PySem.Spec PyProof.Rows
theorem walk_of {l:PySem.W.OpenLaw}{n k:Nat}{q:Program}{loose:List Str}{XP:(Str->Option Value)->Heap->Prop}{YP:World->Heap->Prop}{d:DefRec}{K:Params->PySem.W.Frag}{CX:World->CXT}{sp:World->Sp}{x:Str}
  (hn:l.most=some n) (hn2:n<=sizeLine) (hdf:d.params.defaults=[]) (hr:Room k callerA)
  (hY:∀ (w:World) (h:Heap),YP w h->(K w.params).In h)
  (F:∀ (w:World) (mg:Str->Option Value) (fa:Addr) (h:Heap),(K w.params).In h->h.Ns mainGlobals mg->mg d.name=some (.ref fa) ->
   ∃ fd:FuncData,(∀ (s:Shared) (u:Value),BindsTo s fd ⟨[u],[]⟩ [(x,u)]) /\
    ∀ base:Heap,(K w.params).In base->base.Ns mainGlobals mg->FnOk l.prog w (K w.params) mg base (CX w) k fa fd [x] (sp w))
  (hsp:∀ (w:World) (H:Hp) (a:Addr) (ns:List Int),ns.length<=n->yBJ H->SqL (K w.params) H a (ns.map V.int)->sp w [.ref a] H (fun v _=>v=.bl true) fun _ _ _=>False)
  (hCX:∀ (w:World) (H:Hp) (s:Shared) (e:Value) (s':Shared),CX w [] H s (fun _ _ _=>False) e s'->False) :
  PySem.W.WalkO q loose XP YP l.row.toRowW d [] (fun f vs=>PySem.call f vs):=by
 refine Att.attach_call hn hdf fun w s₀ s₁ mg mb fa o pm cd doc a vs ns G Y ho hd hcd hmg hobj hints hlen hg=>?_
 have KX:=hY w _ Y
 obtain ⟨fd,hb,hF⟩:=F w mg fa _ KX G.T.g hmg
 exact ysK KX G.T.g G.T.b G.T.builtins G.T.nolimit hg hobj hints (Nat.le_trans hlen hn2) hr hF hb (fun H hO hS=>hsp w H a ns hlen hO hS) fun H e s'=>hCX w H s₁ e s'
end L2
namespace L2
open PySem PySem.Spec PyProof.Rows
noncomputable def inClass (s:Stmt) (j:Nat):Stmt:=match s with
 | .ClassDef _ _ _ body _ _ _ _ _ _ _=>body.getD j (.Pass ⟨0,0,0,0⟩)
 | _=>.Pass ⟨0,0,0,0⟩
noncomputable def ylY (s:Stmt):Arguments:=match s with
 | .FunctionDef _ a _ _ _ _ _ _ _ _=>a
 | _=>{ posonlyargs:=[],args:=[],vararg:=none,kwonlyargs:=[],kw_defaults:=[],kwarg:=none,defaults:=[] }
def yfn (s:Stmt):List Stmt:=match s with
 | .FunctionDef _ _ b _ _ _ _ _ _ _=>b
 | _=>[]
noncomputable def ybE (s:Stmt):Scope:=match s with
 | .FunctionDef _ _ _ _ _ _ sc _ _ _=>sc
 | _=>{ kind:=.function,names:=[],isGenerator:=false,isCoroutine:=false }
abbrev CX0:CXT:=fun _ _ _ _ _ _=>False
abbrev E0:XK:=fun _ _ _=>False
theorem yks {X:Cx}:yfD CX0 X E0:=fun _ _ _ _ _ _ _ h=>h.elim
structure Fun (K:PySem.W.Frag) (x qual:Str) (st:Stmt) (f:Addr) (fd:FuncData):Prop where
 ex:∃ (oc:Value) (od:Option Addr) (kV doc pm:Value) (an:Option Addr) (cdv ct:Value) (osl:Array (Option Value)),
  fd=fnOf x qual (ylY st) (yfn st) (ybE st) .none kV doc pm an cdv ct/\K.lookup f=some ⟨oc,od,.func fd,osl⟩/\codeIn K cdv qual=true
 kp:keepIn K (.ref f)=true
section
variable {P:Program}{w:World}{K:PySem.W.Frag}{mg:Str->Option Value}{base:Heap}
theorem Fun.ok {x qual:Str}{st:Stmt}{f:Addr}{fd:FuncData}{N ps:List Str}{k:Nat}{sp:Sp}(F:Fun K x qual st f fd) (S:yei N ps (ybE st)) (len:∀ vs H Q E,sp vs H Q E->vs.length=ps.length)
  (hbody:∀ (cdv:Value) (A:Around) (outer:List Env) (s:Shared) (H:Hp) (vs:List V) (Q:VK) (E:XK),Room k (A.deeper (envOfC qual (ybE st) s.heap.objs.size f cdv))->sp vs H Q E ->
   ∃ t,PSs (ysI CX0 P w K mg base N qual (ybE st) f cdv A outer s H E).nox (yfn st) t/\t { nx:=fun _ H'=>Q .non H',rt:=Q } (start N vs) H):FnOk P w K mg base CX0 (k+1) f fd ps sp:=by
 obtain ⟨oc,od,kV,doc,pm,an,cdv,ct,osl,rfl,lk,hcd⟩:=F.ex
 refine yBG lk hcd S len fun A outer s H vs Q E hr hsp=>?_
 obtain ⟨t,h,q⟩:=hbody cdv A outer s H vs Q E hr hsp
 exact ⟨t,h.nox,q⟩
theorem fun_mk {x qual:Str}{st:Stmt}{f:Addr}{oc:Value}{od an:Option Addr}{osl:Array (Option Value)}{kV doc pm cdv ct:Value}(l:K.lookup f=some ⟨oc,od,.func (fnOf x qual (ylY st) (yfn st) (ybE st) .none kV doc pm an cdv ct),osl⟩)
  (c:codeIn K cdv qual=true) (k:keepIn K (.ref f)=true):Fun K x qual st f (fnOf x qual (ylY st) (yfn st) (ybE st) .none kV doc pm an cdv ct):=⟨⟨oc,od,kV,doc,pm,an,cdv,ct,osl,rfl,l,c⟩,k⟩
end
theorem yvX {A:Around}{k:Nat}(hr:Room k A):A.units+1<cLine:=Nat.lt_of_le_of_lt (Nat.add_le_add_left (by decide:1<=64) _) hr.units
theorem ykt {n:Nat}(h:n<=1000):n<sizeLine:=Nat.lt_of_le_of_lt h (by decide)
section
variable {X:Cx}
end
def Same (H H':Hp):Prop:=∀ b o,H b=some o->H' b=some o
theorem Same.refl (H:Hp):Same H H:=fun _ _ h=>h
theorem Same.trans {H H1 H2:Hp}(a:Same H H1) (b:Same H1 H2):Same H H2:=fun c o h=>b c o (a c o h)
theorem Same.free {H H':Hp}(e:Same H H') {l:Addr}(h:H' l=Option.none):H l=Option.none:=by
 cases q:H l with
 | none=>rfl
 | some o =>
  rw [e l o q] at h
  cases h
theorem Same.seq {K:PySem.W.Frag}{H H':Hp}{a:Addr}{xs:List V}(e:Same H H') (h:SqL K H a xs):SqL K H' a xs:=by
 rcases h with (h|⟨o,h⟩)|h
 .exact .inl (.inl (e _ _ h))
 .exact .inl (.inr ⟨o,e _ _ h⟩)
 .exact .inr h
end L2
namespace L2
open PySem PySem.Spec PyProof.Rows
def cV:V->Option Value
 | .ty n=>some (.type n)
 | .ref a=>some (.ref a)
 | _=>none
def IsI (K:PySem.W.Frag) (H:Hp) (x c:V) (b:Bool):Prop:=∃ t u,ynx K H x t/\cV c=some u/\PySem.W.kitOne K t u=some b
theorem ylZ {K:PySem.W.Frag}{H:Hp}{i:Int}:IsI K H (.int i) (.ty "int") true:=⟨_,_,.int i,rfl,by with_unfolding_all rfl⟩
theorem yku {K:PySem.W.Frag}{H:Hp}{i:Int}:IsI K H (.int i) (.ty "bool") false:=⟨_,_,.int i,rfl,by with_unfolding_all rfl⟩
theorem yma {K:PySem.W.Frag}{H:Hp}:IsI K H .non (.ty "int") false:=⟨_,_,.non,rfl,by with_unfolding_all rfl⟩
theorem ymb {K:PySem.W.Frag}{H:Hp}{i:Bool}:IsI K H (.bl i) (.ty "bool") true:=⟨_,_,.bl i,rfl,by with_unfolding_all rfl⟩
theorem ymc {K:PySem.W.Frag}{H:Hp}{i:Str}:IsI K H (.str i) (.ty "str") true:=⟨_,_,.str i,rfl,by with_unfolding_all rfl⟩
theorem ykv {K:PySem.W.Frag}{H:Hp}{a:Addr}{xs:List V}(e:H a=some (.lst xs)):IsI K H (.ref a) (.ty "list") true:=⟨_,_,.lst e,rfl,by with_unfolding_all rfl⟩
theorem str_len {v:Int}(h0:0<=v) {k:Nat}(hk:0<k) (h:v<10 ^ k):(Str.ofString (toString v)).length<=k:=toString_length_le h0 hk h
end L2
namespace L2
open PySem
abbrev yBK:R2:=rI0 fun i j=>.int (i+j)
abbrev yBL:R2:=rI0 fun i j=>.int (i-j)
abbrev yBM:R2:=rI CMul fun i j=>.int (i*j)
abbrev yBN:R2:=rI yDD fun i j=>.int (i/j)
abbrev yBO:R2:=rI (fun _ j=>0<j) fun i j=>.int (i%j)
abbrev yBP:R2:=rI yBD fun i j=>.int (i ^ j.toNat)
abbrev yEn:R2:=rI0 fun i j=>.bl (decide (i<j))
abbrev yEo:R2:=rI0 fun i j=>.bl (decide (i<=j))
abbrev yEp:R2:=rI0 fun i j=>.bl (decide (j<i))
abbrev yEq:R2:=rI0 fun i j=>.bl (decide (j<=i))
abbrev yBQ:V->Hp->VK->Prop:=rU fun i=>.int (-i)
def yBR:R2:=fun x y H Q=>∃ i j,x=.str i/\y=.str j/\i.length+j.length<=sizeLine/\Q (.str (i++j)) H
def yEr:R2:=fun x y H Q=>y=.non/\Q (.bl (decide (x=.non))) H
def yBS:R2:=fun x y H Q=>y=.non/\Q (.bl (!decide (x=.non))) H
def yBT:List V->Hp->VK->Prop:=fun xs H Q=>∃ z,xs=[.str z]/\z.length<=sizeLine/\Q (.int z.length) H
def yyP (K:PySem.W.Frag):List V->Hp->VK->Prop:=fun xs H Q=>∃ p ys,xs=[.ref p]/\(SqL K H p ys\/SqT K H p ys)/\Q (.int ys.length) H
def yBU:List V->Hp->VK->Prop:=fun xs H Q=>∃ i,xs=[.int i]/\i.natAbs.log2<1920/\Q (.str (toString i)) H
def yDO (K:PySem.W.Frag):List V->Hp->VK->Prop:=fun xs H Q=>∃ x c b,xs=[x,c]/\IsI K H x c b/\Q (.bl b) H
theorem ydH {H:Hp}{p:Addr}(h:H p=none) (o:HO):Same H (upd H p o):=fun b u q=>by rw [yL (ybw q h)];exact q
section
variable {K:PySem.W.Frag}{σ:St}{H:Hp}{Q:VK}{ta tb tc:TE}{tA tB':TT}{t u:TS}{D:Ends}
theorem w_not {Q:Bool->Hp->Prop}:yBw tA σ H Q=tA σ H fun c H1=>Q (!c) H1:=rfl
end
end L2
namespace L2
open PySem
def yvY (cs:List Nat):Int:=cs.foldl (fun (a:Int) (c:Nat)=>a*10+((c:Int)-48)) 0
noncomputable def yyQ:List V->Hp->VK->Prop:=fun xs H Q=>∃ x:Str,xs=[.str x]/\x.cps.toList≠[]/\(∀ c∈x.cps.toList,48<=c/\c<=57)/\x.length<=640/\Q (.int (yvY x.cps.toList)) H
def yDP:R2:=fun x y H Q=>∃ (c:Nat) (j:Str),x=.str ⟨#[c]⟩/\y=.str j/\Q (.bl (decide (c∈j.cps.toList))) H
noncomputable def ypU:V->List V->Hp->VK->Prop:=fun x vs H Q=>∃ (z:Str) (c:Nat),x=.str z/\vs=[.str ⟨#[c]⟩]/\z.length<=1000/\c∈z.cps.toList/\Q (.int (z.cps.toList.idxOf c)) H
noncomputable def rJoin:V->List V->Hp->VK->Prop:=fun x vs H Q=>∃ (sep:Str) (p:Addr) (ts:List Str),x=.str sep/\vs=[.ref p]/\H p=some (.lst (ts.map V.str))/\sep.length<=16/\(ts.map (·.length)).sum+ts.length<=1048576/\Q (.str (Str.join sep ts)) H
noncomputable def yDQ:List V->Hp->VK->Prop:=fun xs H Q=>∃ (p:Addr) (bs:List Bool),xs=[.ref p]/\H p=some (.lst (bs.map V.bl))/\Q (.bl (bs.all id)) H
noncomputable def yDR:List V->Hp->VK->Prop:=fun xs H Q=>∃ (p:Addr) (ns:List Int),xs=[.ref p]/\H p=some (.lst (ns.map V.int))/\Q (.int ns.sum) H
def yvZ (K:PySem.W.Frag):List V->Hp->VK->Prop:=fun xs H Q=>∃ p ys,xs=[.ref p]/\(SqL K H p ys\/SqT K H p ys)/\∀ l,H l=none->Q (.ref l) (upd H l (.lst ys))
noncomputable def Its (z:Str):It:=⟨fun i _=>i<z.length,fun i H x H'=>H'=H/\∃ c,z.cps.toList[i]?=some c/\x=.str ⟨#[c]⟩,fun i _=>i=z.length⟩
def yDS (ta:TE):TI:=fun σ H R=>ta σ H fun x H1=>∃ z,x=.str z/\z.length<=sizeLine/\R (Its z) H1
noncomputable def yBV (J:It) (te:TE) (inn:V->St) (D:Addr) (Q:VK) (H:Hp):Prop:=∃ W:Nat->Nat->Hp->Prop,(∃ m,W 0 m H)/\∀ i m H,W i m H ->
 (J.stop i H/\Q (.ref D) H)\/(J.go i H/\∀ x H',J.yld i H x H'->te (inn x) H' fun y H2=>∃ acc,H2 D=some (.lst acc)/\acc.length<sizeLine/\∃ m',m'<m/\W (i+1) m' (upd H2 D (.lst (acc++[y]))))
def inner (ix:List Nat) (σ:St) (x:V):St:=some x::ix.map fun i=>(σ[i]?).getD none
def yoI (wi:TI) (ix:List Nat) (te:TE):TE:=fun σ H Q=>wi σ H fun J H1=>∀ D,H1 D=none->yBV J te (inner ix σ) D Q (upd H1 D (.lst []))
section
variable {K:PySem.W.Frag}{σ:St}{H:Hp}{Q:VK}{ta tb tc:TE}{tA tB':TT}{t u:TS}{D:Ends}
end
end L2
namespace L2
open PySem
def yuU (C:Addr):TE:=fun _ H Q=>∀ x dx,H x=none->H dx=none->dx≠x->Q (.ref x) (upd (upd H dx (.own x)) x (.ins C dx []))
noncomputable def yuV {κ:Type}(A:κ->Addr) (m:Str) (sp:κ->Sp) (ta:TE):TE:=fun σ H Q=>ta σ H fun x H1=>∃ a k dx fs,x=.ref a/\H1 a=some (.ins (A k) dx fs)/\fs.lookup m=none/\sp k [x] H1 Q E0
theorem yBW {k:Str}{v:V}{r:List (Str×V)}:List.lookup k ((k,v)::r)=some v:=by simp [List.lookup]
theorem yyR {k k':Str}{v:V}{r:List (Str×V)}(h:¬ k=k'):List.lookup k ((k',v)::r)=List.lookup k r:=by
 have:(k == k')=false:=by simpa using h
 simp [List.lookup,this]
section
variable {K:PySem.W.Frag}{σ:St}{H:Hp}{Q:VK}{ta tb tc:TE}{t u:TS}{D:Ends}
end
end L2
namespace L2
open PySem PySem.Builtin PySem.Builtin.Str
theorem at_one {z:Str}{c i:Nat}:StrLaws.At z ⟨#[c]⟩ z.length i ↔ z.cps.toList[i]?=some c:=by
 unfold StrLaws.At subAt
 have e1:(⟨#[c]⟩:Str).length=1:=rfl
 rw [e1]
 have e2:(z.cps.extract i (i+1) == (⟨#[c]⟩:Str).cps)=true ↔ z.cps.extract i (i+1) = #[c]:=by simp
 rw [e2]
 constructor
 .rintro ⟨h1,h2⟩
  have h3:(z.cps.extract i (i+1)).toList=[c]:=by rw [h2]
  rw [Array.toList_extract,List.extract_eq_take_drop] at h3
  have h4:((z.cps.toList.drop i).take (i+1-i))[0]?=some c:=by rw [h3];rfl
  rw [List.getElem?_take_of_lt (by omega),List.getElem?_drop] at h4
  simpa using h4
 .intro h
  obtain ⟨hlt,hc⟩:=List.getElem?_eq_some_iff.mp h
  have hl:i<z.length:=by simpa [Str.length] using hlt
  refine ⟨by omega,?_⟩
  apply Array.ext'
  rw [Array.toList_extract,List.extract_eq_take_drop]
  have e:i+1-i=1:=by omega
  rw [e,List.drop_eq_getElem_cons hlt,hc]
  rfl
theorem ypV (z:Str) (c:Nat):(occurrences z ⟨#[c]⟩ 0 z.length 1=[]/\c∉z.cps.toList)\/∃ r,occurrences z ⟨#[c]⟩ 0 z.length 1=z.cps.toList.idxOf c::r/\c∈z.cps.toList:=by
 rcases StrLaws.occ_head z ⟨#[c]⟩ 1 (Nat.le_refl _) with ⟨h1,h2⟩|⟨i,r,h1,h2,h3⟩
 .refine .inl ⟨h1,fun hc=>?_⟩
  obtain ⟨i,hi,e⟩:=getElem_of_mem hc
  exact h2 i (at_one.mpr (List.getElem?_eq_some_iff.mpr ⟨hi,e⟩))
 .have hi:=at_one.mp h2
  obtain ⟨hlt,hc⟩:=List.getElem?_eq_some_iff.mp hi
  have hm:c∈z.cps.toList:=mem_of_getElem? hi
  refine .inr ⟨r,?_,hm⟩
  have hj:z.cps.toList.idxOf c<z.cps.toList.length:=List.idxOf_lt_length_of_mem hm
  have hg:z.cps.toList[z.cps.toList.idxOf c]?=some c:=by
   rw [List.getElem?_eq_getElem hj,List.getElem_idxOf hj]
  have e:i=z.cps.toList.idxOf c:=by
   rcases Nat.lt_trichotomy i (z.cps.toList.idxOf c) with h|h|h
   .exact absurd hc (by
     have:=List.not_of_lt_findIdx (p:=(· == c)) (xs:=z.cps.toList) (i:=i) (by simpa [idxOf] using h)
     simpa using this)
   .exact h
   .exact absurd (at_one.mpr hg) (h3 _ h)
  rw [h1,e]
end L2
namespace L2
open PySem PySem.Spec PyProof.Rows
theorem ydO {env:Env}(y:Str):∀ names:List (Str×NameKind),
  (names.map fun (n,k)=>if (k == NameKind.free && env.scope.kind == .function && env.kindOf n == some .cell) then (n,NameKind.cell) else (n,k)).lookup y
   = (names.lookup y).map fun k=>if (k == NameKind.free && env.scope.kind == .function && env.kindOf y == some .cell) then NameKind.cell else k
 | []=>rfl
 | (n,k)::r=>by
  have ih:=ydO (env:=env) y r
  show List.lookup y ((if (k == NameKind.free && env.scope.kind == .function && env.kindOf n == some .cell)=true then (n,NameKind.cell) else (n,k))::_)=_
  cases hx:y == n with
  | true =>
   have e:y=n:=eq_of_beq hx
   subst e
   by_cases hc:(k == NameKind.free && env.scope.kind == .function && env.kindOf y == some .cell)=true
   .rw [if_pos hc]
    simp only [lookup_cons,hx,map_some,if_pos hc]
   .rw [if_neg hc]
    simp only [lookup_cons,hx,map_some,if_neg hc]
  | false =>
   by_cases hc:(k == NameKind.free && env.scope.kind == .function && env.kindOf n == some .cell)=true
   .rw [if_pos hc];simp only [lookup_cons,hx];exact ih
   .rw [if_neg hc];simp only [lookup_cons,hx];exact ih
theorem yeC {env:Env}:∀ (names:List (Str×NameKind)) (cs:List (Str×Addr)),(∀ n,(n,NameKind.free)∈names->∃ c,env.cells.lookup n=some c) ->
  ∃ cl,(forIn names cs (fun (x:Str×NameKind) (r:List (Str×Addr))=>if (x.2 == NameKind.free)=true then do let c <- cellOf env x.1;pure (ForInStep.yield ((x.1,c)::r)) else pure (ForInStep.yield r)):Sem (List (Str×Addr)))=pure cl /\
   (∀ y,(y,NameKind.free)∈names->cl.lookup y=env.cells.lookup y)/\(∀ y,(y,NameKind.free)∉names->cl.lookup y=cs.lookup y)
 | [],cs,_=>⟨cs,rfl,fun y h=>by simp at h,fun y _=>rfl⟩
 | (n,k)::r,cs,h=>by
  by_cases hk:k=.free
  .subst hk
   obtain ⟨c,hc⟩:=h n mem_cons_self
   obtain ⟨cl,e,h1,h2⟩:=yeC r ((n,c)::cs) fun y hy=>h y (mem_cons_of_mem _ hy)
   refine ⟨cl,?_,fun y hy=>?_,fun y hy=>?_⟩
   .rw [List.forIn_cons]
    have e0:cellOf env n=pure c:=by unfold cellOf;rw [hc]
    simp only [beq_self_eq_true,if_true,e0,pure_bind]
    exact e
   .by_cases hr:(y,NameKind.free)∈r
    .exact h1 y hr
    .rw [h2 y hr]
     rcases mem_cons.mp hy with z|z
     .cases z
      rw [hc];simp [List.lookup]
     .exact absurd z hr
   .have hr:(y,NameKind.free)∉r:=fun z=>hy (mem_cons_of_mem _ z)
    rw [h2 y hr]
    have hn:(y == n)=false:=by
     cases e:y == n with
     | false=>rfl
     | true=>exact absurd (by rw [eq_of_beq e];exact mem_cons_self) hy
    simp [List.lookup,hn]
  .obtain ⟨cl,e,h1,h2⟩:=yeC r cs fun y hy=>h y (mem_cons_of_mem _ hy)
   have hb:(k == NameKind.free)=false:=by simpa using hk
   refine ⟨cl,?_,fun y hy=>?_,fun y hy=>?_⟩
   .rw [List.forIn_cons]
    simp only [hb,Bool.false_eq_true,if_false,pure_bind]
    exact e
   .rcases mem_cons.mp hy with z|z
    .cases z;exact absurd rfl hk
    .exact h1 y z
   .exact h2 y fun z=>hy (mem_cons_of_mem _ z)
noncomputable def cxC (X:Cx) (scope:Scope) (cl:List (Str×Addr)) (C:Addr) (N:List Str) (s₃:Shared) (H₃:Hp) (fp:List Addr) (pins:List (Addr×Obj)):Cx :=
 { prog:=X.prog,w:=X.w,K:=X.K,mg:=X.mg,base:=X.base,A:=X.A,N:=N,s₀:=s₃,H₀:=H₃,env:=compEnvC scope cl C X.env,outer:=X.stack,stack:=X.stack,ex:=fp,fn:=fun _=>false,calm:=X.calm,pn:=X.pn++pins,xe:=fun _ _=>False }
noncomputable def FrOk (X:Cx) (scope:Scope):List Nat->List Str->Prop
 | [],[]=>True
 | i::is,y::ys=>X.N[i]?=some y/\scope.names.lookup y=some .free/\X.env.kindOf y=some .cell/\FrOk X scope is ys
 | _,_=>False
theorem FrOk.len {X:Cx}{scope:Scope}:∀ {is:List Nat}{ys:List Str},FrOk X scope is ys->is.length=ys.length
 | [],[],_=>rfl
 | _::is,_::ys,h=>by rw [length_cons,length_cons,FrOk.len h.2.2.2]
theorem FrOk.get {X:Cx}{scope:Scope}:∀ {is:List Nat}{ys:List Str}{j:Nat}{y:Str},FrOk X scope is ys->ys[j]?=some y->∃ i,is[j]?=some i/\X.N[i]?=some y/\scope.names.lookup y=some .free/\X.env.kindOf y=some .cell
 | [],[],_,_,_,e=>by simp at e
 | [],_::_,_,_,h,_=>h.elim
 | _::_,[],_,_,h,_=>h.elim
 | i::is,z::ys,0,y,h,e=>by
  simp at e
  subst e
  exact ⟨i,rfl,h.1,h.2.1,h.2.2.1⟩
 | i::is,z::ys,j+1,y,h,e=>by
  obtain ⟨k,h1,h2⟩:=FrOk.get (j:=j) h.2.2.2 (by simpa using e)
  exact ⟨k,by simpa using h1,h2⟩
end L2
namespace L2
open PySem PySem.Spec PyProof.Rows
theorem ysL {P:Program}{w:World}{K:PySem.W.Frag}{tg:Expr}{ty:String}(hty:ty = "str_ascii_iterator"\/ty = "str_iterator") (z:Str) (t:Tok) (it:Addr):Turn P w K tg (Its z) [it] it (fun i h=>h.IsStrIter it ty z t i) where
 mem:=by simp
 obj:=fun i h st b hb=>by
  have e:b=it:=by simpa using hb
  subst e
  obtain ⟨o,e,c,d⟩:=st
  exact ⟨o,e,fun v q=>by rw [d] at q;cases q⟩
 keep:=fun i h h' st k=>by
  obtain ⟨o,e,c,d⟩:=st
  exact ⟨o,k it (by simp) o e,c,d⟩
 item:=by
  intro X hP hw hK hc i pins s σ H E I hf st hg
  subst hP hw hK
  obtain ⟨f0,f1,f2,f3,f4,f5⟩:=hf it (by simp)
  have hg:i<z.length:=hg
  obtain ⟨ch,hz⟩:∃ ch,z.cps[i]?=some ch:=⟨_,Array.getElem?_eq_getElem (show i<z.cps.size from hg)⟩
  have fin:∀ h',h'.IsStrIter it ty z t (i+1)->Heap.SameBut it s.heap h'->∃ u,some (Value.str ⟨#[ch]⟩ s.toks)=some u /\
    wpAny (model X.prog X.w) X.A (letOwnedTupleGo tg (.ref it) u) (fun _ s2=>∃ x H',Inv X pins σ H' s2/\RelV x u/\(Its z).yld i H x H'/\s2.heap.IsStrIter it ty z t (i+1)/\∀ b∈[it],H' b=none) E { s with heap:=h',toks:=s.toks+1 }:=fun h' st' sb=>by
   have I1:Inv X pins σ H { s with heap:=h',toks:=s.toks+1 }:=I.turned (t':=s.toks+1) (fun b o hb e=>(sb.2 b hb).trans e) f0 f1 f3 f4 f5
   obtain ⟨o,e,c,d⟩:=id st'
   refine ⟨_,rfl,ypx (s:={ s with heap:=h',toks:=s.toks+1 }) e c d (by rcases hty with rfl|rfl<;>decide) ⟨.str ⟨#[ch]⟩,H,I1,⟨_,rfl⟩,⟨rfl,_,by simpa using hz,rfl⟩,st',fun b hb=>(hf b hb).1⟩⟩
  rcases hty with rfl|rfl
  .exact wpAny_pyNext_ascii_item st hz fun h' st' sb=>fin h' st' sb
  .exact wpAny_pyNext_wide_item st hz fun h' st' sb=>fin h' st' sb
 done:=by
  intro X hP hw hK hc i pins s σ H E I hf st hg
  subst hP hw hK
  obtain ⟨f0,f1,f2,f3,f4,f5⟩:=hf it (by simp)
  have hg:i=z.length:=hg
  have hz:z.cps[i]?=none:=by simp [hg,Str.length]
  rcases hty with rfl|rfl
  .exact wpAny_pyNext_ascii_end (I.ok.hd hc) st hz fun h' eb=>⟨rfl,I.turned (t':=s.toks) (fun b o hb e=>eb b o hb e) f0 f1 f3 f4 f5⟩
  .exact wpAny_pyNext_wide_end (I.ok.hd hc) st hz fun h' eb=>⟨rfl,I.turned (t':=s.toks) (fun b o hb e=>eb b o hb e) f0 f1 f3 f4 f5⟩
 self:=fun _ _ _ _ _ st h=>by
  rcases hty with rfl|rfl
  .exact wpAny_pyIter_striter_ascii st h
  .exact wpAny_pyIter_striter_wide st h
section
variable {X:Cx}{tg:Expr}
theorem yyS {l:Expr}{tl:TE}(hl:PE X l tl):PI X tg l (yDS tl):=by
 intro pins s σ H R I h
 refine thn (hl pins s σ H _ I h) fun v s1 ⟨x,H1,I1,r1,q1⟩=>?_
 obtain ⟨z,e,hz,q⟩:=q1
 subst e
 obtain ⟨t,rfl⟩:=r1
 have fin:∀ ty,(ty = "str_ascii_iterator"\/ty = "str_iterator")->PIE X pins σ tg R (.ref s1.heap.objs.size) { s1 with heap:=s1.heap.push { cls:=.type ty,data:=.fields #[.str z t,.int 0 0] } }:=fun ty hty=>by
  refine ⟨s1.heap.objs.size,[s1.heap.objs.size],_,_,H1,rfl,I1.kept (t':=s1.toks) fun b o e=>Heap.get?_push_of_some _ e,ysL hty z t _,⟨_,Heap.get?_push_size _ rfl,rfl,rfl⟩,fun b hb=>?_,q⟩
  have e:b=s1.heap.objs.size:=by simpa using hb
  subst e
  exact I1.fpOk (Nat.le_refl _) (I1.hok.fresh (Nat.le_refl _))
 cases ha:z.cps.all (· < 128)
 .exact wpAny_pyIter_wide ha (fin _ (.inr rfl))
 .exact wpAny_pyIter_ascii ha (fin _ (.inl rfl))
theorem yji:∀ {bs:List Bool}{us:List Value},Vals (bs.map V.bl) us->us=bs.map Value.bool
 | [],_,.nil=>rfl
 | b::bs,_,.cons r t=>by rw [show _=Value.bool b from r,yji t];rfl
theorem ynC (hc:X.calm=true):yfk X (.builtin "all") yDQ:=by
 intro pins s σ H xs us Q I r h
 obtain ⟨p,bs,rfl,hp,q⟩:=h
 obtain ⟨u,rfl,rx⟩:=vals1 r
 cases rx
 obtain ⟨its,n,rv,e,hz⟩:=I.lst hp
 have eb:=yji rv
 subst eb
 have hl:s.heap.IsList p (bs.map Value.bool).toArray:=⟨_,e,rfl,n,rfl⟩
 have hlt:p<s.heap.objs.size:=Heap.lt_size e
 refine call_all_walk (wpAny_pyIter_list hl ?_)
 refine ⟨s.heap.objs.size,[s.heap.objs.size,p],[s.heap.objs.size],(bs.map Value.bool).toArray.size,_,_,fun i=>(bs[i]?).getD true,rfl,Walks.list (A:=X.A.in1) (I.ok.hd hc) _ p (ne_of_lt hlt) _,
  ⟨⟨_,Heap.get?_push_size _ rfl,rfl,rfl⟩,hl.push _⟩,fun i v s' Q' E' hP hQ=>?_,fun h' tk hk=>?_⟩
 .have hP:(bs.map Value.bool)[i]?=some v:=by simpa using hP
  rw [getElem?_map] at hP
  cases eb:bs[i]? with
  | none=>rw [eb] at hP;cases hP
  | some b =>
   rw [eb] at hP
   cases hP
   simp only [eb,Option.getD_some] at hQ
   exact wpAny_truthy_bool hQ
 .have ea:((List.range (bs.map Value.bool).toArray.size).all fun i=>(bs[i]?).getD true)=bs.all id:=by
   rw [size_toArray,length_map]
   exact LSm.range_all bs
  rw [ea]
  exact ⟨.bl _,H,I.kept (t':=tk) fun b o eo=>hk b o (fun hm=>by rw [List.mem_singleton.mp hm] at eo;exact absurd (Heap.lt_size eo) (lt_irrefl _)) (Heap.get?_push_of_some _ eo),rfl,q⟩
theorem ysM (hc:X.calm=true):yfk X (.builtin "sum") yDR:=by
 intro pins s σ H xs us Q I r h
 obtain ⟨p,ns,rfl,hp,q⟩:=h
 obtain ⟨u,rfl,rx⟩:=vals1 r
 cases rx
 obtain ⟨its,n,rv,e,hz⟩:=I.lst hp
 have hi:IntsAre its ns:=intsAre_of rv
 have hl:s.heap.IsList p its.toArray:=⟨_,e,rfl,n,rfl⟩
 obtain ⟨xs,hx⟩:=hi.allInts.items
 have hl':s.heap.IsList p (intItems xs):=hx ▸ hl
 refine sum_intListG (I.ok.hd hc) hl' fun h' tk t' hk=>?_
 have e1:ns=xs.toList.map (·.1):=by
  rw [<- nums_intItems,<- hx]
  exact (show numsOf its.toArray.toList=ns from hi.numsOf).symm
 have e2:preSum (numAt xs) xs.size=ns.sum:=by
  rw [preSum_eq,List.take_of_length_le (by simp),e1]
 rw [e2]
 exact ⟨.int ns.sum,H,I.kept (t':=tk) hk,⟨_,rfl⟩,q⟩
theorem ypW:∀ {ts:List Str}{us:List Value},Vals (ts.map V.str) us->StrsAre us ts
 | [],_,.nil=>.nil
 | y::ts,_,.cons r t=>by
  obtain ⟨k,e⟩:=(show ∃ t,_=Value.str y t from r)
  rw [e]
  exact .cons y k (ypW t)
theorem ywa:MtR X "str.join" rJoin:=by
 intro pins s σ H x xs v us Q I rx rv h
 obtain ⟨sep,p,ts,rfl,rfl,hp,h1,h2,q⟩:=h
 obtain ⟨t,rfl⟩:=rx
 obtain ⟨u,rfl,ru⟩:=vals1 rv
 cases ru
 obtain ⟨its,n,r,e,hz⟩:=I.lst hp
 have hl:s.heap.IsList p its.toArray:=⟨_,e,rfl,n,rfl⟩
 refine join_listW hl (ypW r) h1 h2 fun t' k=>⟨.str (Str.join sep ts),H,I.tok k,⟨t',?_⟩,q⟩
 show Value.str (Txt.join sep ts) t'=Value.str (Str.join sep ts) t'
 rw [show Txt.join sep ts=Str.join sep ts from StrLaws.glued_eq_join sep ts]
theorem ykw:OpR X (compareOp .In) yDP:=by
 intro pins s σ H x y v u Q I rx ry h
 obtain ⟨c,j,rfl,rfl,q⟩:=h
 refine ypF pins s σ H _ _ v u Q I rx ry ⟨_,_,rfl,rfl,?_⟩
 have e:(!(Builtin.Str.occurrences j ⟨#[c]⟩ 0 j.length 1).isEmpty)=decide (c∈j.cps.toList):=by
  rcases ypV j c with ⟨h1,h2⟩|⟨r,h1,h2⟩
  .rw [h1];simp [h2]
  .rw [h1];simp [h2]
 rw [e]
 exact q
theorem ysN {C:Addr}{x:Str}{p pos:Pos}(hm:makesIn X.K C=true) (hi:findIn X.K (.ref C) "__init__" = some (some (.builtin "object.__init__"))) (hk:keepIn X.K (.ref C)=true)
  (hg:Gl X x) (hmg:X.mg x=some (.ref C)) (hdb:(x == ("__debug__":Str))=false:=by decide):PE X (.Call (.Name x p) [] [] pos) (yuU C):=by
 intro pins s σ H Q I h
 refine wpAny_Call_Name_kw (yhh I hg hmg ?_ hdb)
 refine PySem.W.callWith_K0 I.kIn hk (wpAny_call ?_)
 have I2:=Inv.made (C:=C) I
 have q:=h (s.heap.objs.size+1) s.heap.objs.size (I.hok.fresh (Nat.le_succ _)) (I.hok.fresh (Nat.le_refl _)) (ne_of_lt (Nat.lt_succ_self _))
 have kin:=I.kIn
 obtain ⟨hh,g,d,t,os⟩:=s
 have Y:=PySem.W.makes_of (M:=model X.prog X.w) kin hm
 refine PySem.W.make_core Y (PySem.W.looks_findIn kin hi) (fun self=>PySem.W.Looks.of_pure (PySem.W.oi_bind self)) (.inr ⟨rfl,rfl⟩) ?_
 have e1:((hh.push emptyDict).push (instObj C hh.objs.size)).get? (hh.objs.size+1)=some (instObj C hh.objs.size):=by
  have:=Heap.get?_push_size (h:=hh.push emptyDict) (o:=instObj C hh.objs.size) rfl
  rwa [Heap.size_push] at this
 have t1:PySem.W.Looks (model X.prog X.w) ((hh.push emptyDict).push (instObj C hh.objs.size)) (typeOf (.ref (hh.objs.size+1))) (.ref C):=(PySem.W.Looks.ld e1).andThen .now
 have t2:PySem.W.Looks (model X.prog X.w) ((hh.push emptyDict).push (instObj C hh.objs.size)) (isInstance (.ref (hh.objs.size+1)) (.type "object")) true:=t1.andThen (Y.top.keeps fun b o e=>Heap.get?_push_of_some _ (Heap.get?_push_of_some _ e))
 refine codeAny_call_builtin PySem.W.oi_plain PySem.W.entry_oi (@PySem.W.check_slot (model X.prog X.w) _ _ _ "object.__init__" "object" "__init__" (.ref (hh.objs.size+1)) [] [] _ PySem.W.oi_kind PySem.W.oi_split t2 (PySem.W.oi_args (.ref (hh.objs.size+1))) ?_)
 show wpAny _ _ (Builtin.«object.__init__» ⟨[.ref (hh.objs.size+1)],[]⟩) _ _ _
 rw [PySem.W.oi_run]
 exact wpAny_pure (And.intro rfl ⟨.ref _,_,I2,rfl,q⟩)
def ymd {κ:Type}(P:Program) (w:World) (K:PySem.W.Frag) (mg:Str->Option Value) (base:Heap) (k:Nat) (A:κ->Addr) (m:Str) (sp:κ->Sp):Prop :=
 ∀ c:κ,Cls K (A c)/\((∀ vs H Q E,¬ sp c vs H Q E)\/∃ f fd ps,Meth K (A c) m f/\FnOk P w K mg base CX0 k f fd ps (sp c)/\Binds K fd ps [])
theorem ypX {κ:Type}{A:κ->Addr}{m:Str}{sp:κ->Sp}{k:Nat}{o:Expr}{ta:TE}{apos pos:Pos}{pl:Sem Bool}(he:PE X o ta) (G:ymd X.prog X.w X.K X.mg X.base k A m sp) (hr:Room k X.A)
  (ht:eval (.Call (.Attribute o m apos) [] [] pos) X.env=(do
   let ov <- eval o X.env
   standAt apos.atName
   let (f,first) <- holding [ov] (getMethod ov m pl)
   callWith pos f first (backTo pos (starEach [] X.env)) (backToKw pos (keywordEach [] X.env))):=by rfl):PE X (.Call (.Attribute o m apos) [] [] pos) (yuV A m sp ta):=by
 intro pins s σ H Q I h
 refine PySem.W.methodCall_KW (pl:=pl) (thn (he pins s σ H _ I h) fun u s1 ⟨x,H1,I1,rx,a,c,dx,fs,ex,ea,l,q⟩=>?_) ht
 subst ex
 obtain rfl:u=Value.ref a:=rx
 obtain ⟨cl,hn|⟨f,fd,ps,hm,F,hb⟩⟩:=G c
 .exact (hn _ _ _ _ q).elim
 refine ygi I1 ea cl hm l ?_
 exact PySem.W.callWith_K0 (first:=[.ref a]) I1.kIn hm.kp (ykl (us:=[.ref a]) (vs:=[.ref a]) (dvs:=[]) (ds:=[]) F hr hb .nil yks I1 (.cons rfl .nil) q)
end
end L2
namespace L2
open PySem PySem.Spec PyProof.Rows
def ExO (D a:Addr):HO:=.ext fun h=>∃ ox,PySem.W.InstAt h a ox D none
def xAd (K:PySem.W.Frag) (n:Str):Addr:=match nsIn K mainGlobals n with|some (some (.ref D))=>D|_=>0
section
variable {X:Cx}
theorem yX:yfk X (.builtin "isinstance") (yDO X.K):=by
 intro pins s σ H xs us Q I r h
 obtain ⟨x,c,b,rfl,⟨t,u',ty,hc,hk⟩,q⟩:=h
 obtain ⟨u,w',rfl,ru,rc⟩:=vals2 r
 have e:w'=u':=by
  cases c<;>first|(cases hc;exact rc)|cases hc
 subst e
 exact ypJ I ru ty hk fun tk=>⟨.bl b,H,I.tok tk,rfl,q⟩
theorem yiF:∀ (cs:List Nat) (a:Nat),(∀ c∈cs,48<=c/\c<=57)->((cs.foldl (fun acc c=>acc*10+(c-48)) a:Nat):Int)=cs.foldl (fun (a:Int) (c:Nat)=>a*10+((c:Int)-48)) (a:Int)
 | [],_,_=>rfl
 | c::cs,a,h=>by
  have hc:=h c mem_cons_self
  rw [List.foldl_cons,List.foldl_cons,yiF cs _ fun d hd=>h d (mem_cons_of_mem _ hd)]
  congr 1
  omega
theorem ykx:yfk X (.type "int") yyQ:=by
 intro pins s σ H xs us Q I r h
 obtain ⟨z,rfl,hne,hd,hl,q⟩:=h
 obtain ⟨u,rfl,t,rfl⟩:=vals1 r
 have e:=PySem.intText_digits (x:=z) hd hne (by omega)
 have e2:((PySem.NumText.digitsVal z.cps.toList:Nat):Int)=yvY z.cps.toList:=yiF z.cps.toList 0 hd
 rw [e2] at e
 exact PySem.W.KIN.call_text e hl ⟨.int _,H,I.tok _,⟨_,rfl⟩,q⟩
end
end L2
namespace L2
open PySem PySem.Spec PyProof.Rows
section
variable {X:Cx}
theorem ywb {x:Str}{n:Int}{t:Tok}{pos:Pos}(hg:Gl X x) (hm:X.mg x=some (.int n t)) (hd:(x == ("__debug__":Str))=false:=by decide):PE X (.Name x pos) (tC (.int n)):=ylP hg hm ⟨t,rfl⟩ hd
theorem ywc {x:Str}{n:Str}{t:Tok}{pos:Pos}(hg:Gl X x) (hm:X.mg x=some (.str n t)) (hd:(x == ("__debug__":Str))=false:=by decide):PE X (.Name x pos) (tC (.str n)):=ylP hg hm ⟨t,rfl⟩ hd
theorem yme {x:Str}{a:Addr}{pos:Pos}(hg:Gl X x) (hm:X.mg x=some (.ref a)) (hd:(x == ("__debug__":Str))=false:=by decide):PE X (.Name x pos) (tC (.ref a)):=ylP hg hm rfl hd
theorem yyT {x:Str}{n:String}{pos:Pos}(hg:Gl X x) (hm:X.mg x=none) (hv:bootBuiltins x=some (.type n)) (hn:x≠"__name__":=by decide) (hd:(x == ("__debug__":Str))=false:=by decide):PE X (.Name x pos) (tC (.ty n)):=yvG hg hm hv rfl hn hd
end
end L2
namespace L2
open PySem PySem.Spec PyProof.Rows
theorem ymf {K:PySem.W.Frag}{H:Hp}{i:Int}:IsI K H (.int i) (.ty "str") false:=⟨_,_,.int i,rfl,by with_unfolding_all rfl⟩
theorem yky {K:PySem.W.Frag}{H:Hp}{i:Int}:IsI K H (.int i) (.ty "list") false:=⟨_,_,.int i,rfl,by with_unfolding_all rfl⟩
theorem yjj {K:PySem.W.Frag}{H:Hp}{i:Int}:IsI K H (.int i) (.ty "tuple") false:=⟨_,_,.int i,rfl,by with_unfolding_all rfl⟩
theorem ykz {K:PySem.W.Frag}{H:Hp}{i:Int}:IsI K H (.int i) (.ty "dict") false:=⟨_,_,.int i,rfl,by with_unfolding_all rfl⟩
theorem yoJ {K:PySem.W.Frag}{H:Hp}{i:Bool}:IsI K H (.bl i) (.ty "int") true:=⟨_,_,.bl i,rfl,by with_unfolding_all rfl⟩
theorem yoK {K:PySem.W.Frag}{H:Hp}{i:Bool}:IsI K H (.bl i) (.ty "str") false:=⟨_,_,.bl i,rfl,by with_unfolding_all rfl⟩
theorem ymg {K:PySem.W.Frag}{H:Hp}{i:Bool}:IsI K H (.bl i) (.ty "list") false:=⟨_,_,.bl i,rfl,by with_unfolding_all rfl⟩
theorem ykA {K:PySem.W.Frag}{H:Hp}{i:Bool}:IsI K H (.bl i) (.ty "tuple") false:=⟨_,_,.bl i,rfl,by with_unfolding_all rfl⟩
theorem ymh {K:PySem.W.Frag}{H:Hp}{i:Bool}:IsI K H (.bl i) (.ty "dict") false:=⟨_,_,.bl i,rfl,by with_unfolding_all rfl⟩
theorem ymi {K:PySem.W.Frag}{H:Hp}{i:Str}:IsI K H (.str i) (.ty "int") false:=⟨_,_,.str i,rfl,by with_unfolding_all rfl⟩
theorem ykB {K:PySem.W.Frag}{H:Hp}{i:Str}:IsI K H (.str i) (.ty "bool") false:=⟨_,_,.str i,rfl,by with_unfolding_all rfl⟩
theorem ykC {K:PySem.W.Frag}{H:Hp}{i:Str}:IsI K H (.str i) (.ty "list") false:=⟨_,_,.str i,rfl,by with_unfolding_all rfl⟩
theorem yjk {K:PySem.W.Frag}{H:Hp}{i:Str}:IsI K H (.str i) (.ty "tuple") false:=⟨_,_,.str i,rfl,by with_unfolding_all rfl⟩
theorem ykD {K:PySem.W.Frag}{H:Hp}{i:Str}:IsI K H (.str i) (.ty "dict") false:=⟨_,_,.str i,rfl,by with_unfolding_all rfl⟩
theorem ykE {K:PySem.W.Frag}{H:Hp}:IsI K H (.non) (.ty "bool") false:=⟨_,_,.non,rfl,by with_unfolding_all rfl⟩
theorem ymj {K:PySem.W.Frag}{H:Hp}:IsI K H (.non) (.ty "str") false:=⟨_,_,.non,rfl,by with_unfolding_all rfl⟩
theorem ykF {K:PySem.W.Frag}{H:Hp}:IsI K H (.non) (.ty "list") false:=⟨_,_,.non,rfl,by with_unfolding_all rfl⟩
theorem yjl {K:PySem.W.Frag}{H:Hp}:IsI K H (.non) (.ty "tuple") false:=⟨_,_,.non,rfl,by with_unfolding_all rfl⟩
theorem ykG {K:PySem.W.Frag}{H:Hp}:IsI K H (.non) (.ty "dict") false:=⟨_,_,.non,rfl,by with_unfolding_all rfl⟩
theorem ymk {K:PySem.W.Frag}{H:Hp}{a:Addr}{xs:List V}(e:H a=some (.lst xs)):IsI K H (.ref a) (.ty "int") false:=⟨_,_,.lst e,rfl,by with_unfolding_all rfl⟩
theorem ykH {K:PySem.W.Frag}{H:Hp}{a:Addr}{xs:List V}(e:H a=some (.lst xs)):IsI K H (.ref a) (.ty "bool") false:=⟨_,_,.lst e,rfl,by with_unfolding_all rfl⟩
theorem yml {K:PySem.W.Frag}{H:Hp}{a:Addr}{xs:List V}(e:H a=some (.lst xs)):IsI K H (.ref a) (.ty "str") false:=⟨_,_,.lst e,rfl,by with_unfolding_all rfl⟩
theorem yjm {K:PySem.W.Frag}{H:Hp}{a:Addr}{xs:List V}(e:H a=some (.lst xs)):IsI K H (.ref a) (.ty "tuple") false:=⟨_,_,.lst e,rfl,by with_unfolding_all rfl⟩
theorem ykI {K:PySem.W.Frag}{H:Hp}{a:Addr}{xs:List V}(e:H a=some (.lst xs)):IsI K H (.ref a) (.ty "dict") false:=⟨_,_,.lst e,rfl,by with_unfolding_all rfl⟩
theorem yjn {K:PySem.W.Frag}{H:Hp}{a:Addr}(e:(∃ xs,H a=some (.tup xs))\/∃ o,K.lookup a=some o/\o.cls=.type "tuple"):IsI K H (.ref a) (.ty "tuple") true:=e.elim (fun ⟨_,e⟩=>⟨_,_,.tup e,rfl,by with_unfolding_all rfl⟩) fun ⟨_,e,c⟩=>⟨_,_,.kt e c,rfl,by with_unfolding_all rfl⟩
theorem ymm {K:PySem.W.Frag}{H:Hp}{a:Addr}(e:(∃ xs,H a=some (.tup xs))\/∃ o,K.lookup a=some o/\o.cls=.type "tuple"):IsI K H (.ref a) (.ty "int") false:=e.elim (fun ⟨_,e⟩=>⟨_,_,.tup e,rfl,by with_unfolding_all rfl⟩) fun ⟨_,e,c⟩=>⟨_,_,.kt e c,rfl,by with_unfolding_all rfl⟩
theorem ykJ {K:PySem.W.Frag}{H:Hp}{a:Addr}(e:(∃ xs,H a=some (.tup xs))\/∃ o,K.lookup a=some o/\o.cls=.type "tuple"):IsI K H (.ref a) (.ty "bool") false:=e.elim (fun ⟨_,e⟩=>⟨_,_,.tup e,rfl,by with_unfolding_all rfl⟩) fun ⟨_,e,c⟩=>⟨_,_,.kt e c,rfl,by with_unfolding_all rfl⟩
theorem ymn {K:PySem.W.Frag}{H:Hp}{a:Addr}(e:(∃ xs,H a=some (.tup xs))\/∃ o,K.lookup a=some o/\o.cls=.type "tuple"):IsI K H (.ref a) (.ty "str") false:=e.elim (fun ⟨_,e⟩=>⟨_,_,.tup e,rfl,by with_unfolding_all rfl⟩) fun ⟨_,e,c⟩=>⟨_,_,.kt e c,rfl,by with_unfolding_all rfl⟩
theorem ykK {K:PySem.W.Frag}{H:Hp}{a:Addr}(e:(∃ xs,H a=some (.tup xs))\/∃ o,K.lookup a=some o/\o.cls=.type "tuple"):IsI K H (.ref a) (.ty "list") false:=e.elim (fun ⟨_,e⟩=>⟨_,_,.tup e,rfl,by with_unfolding_all rfl⟩) fun ⟨_,e,c⟩=>⟨_,_,.kt e c,rfl,by with_unfolding_all rfl⟩
theorem ykL {K:PySem.W.Frag}{H:Hp}{a:Addr}(e:(∃ xs,H a=some (.tup xs))\/∃ o,K.lookup a=some o/\o.cls=.type "tuple"):IsI K H (.ref a) (.ty "dict") false:=e.elim (fun ⟨_,e⟩=>⟨_,_,.tup e,rfl,by with_unfolding_all rfl⟩) fun ⟨_,e,c⟩=>⟨_,_,.kt e c,rfl,by with_unfolding_all rfl⟩
end L2
namespace L2
open PySem PySem.Spec PyProof.Rows
theorem ysO {K:PySem.W.Frag}{C:Addr}:PySem.W.kitOne K (.ref C) (.ref C)=some true:=by
 unfold PySem.W.kitOne
 have:((Value.ref C) == (Value.ref C))=true:=by simp
 rw [if_pos this]
theorem ysP {K:PySem.W.Frag}{C C':Addr}{b:Bool}(hm:mroIn K C' (.type "object")=some true) (ht:typeIn K (.ref C')=some (.type "type")) (hs:subIn K (.ref C) (.ref C')=some b):PySem.W.kitCls K (.ref C) (.ref C')=some b:=by
 unfold PySem.W.kitCls
 have h1:(PySem.W.clsIn K C').isSome=true:=by
  unfold mroIn at hm
  cases e:PySem.W.clsIn K C' with
  | none=>rw [e] at hm;cases hm
  | some c=>rfl
 have h2:(typeIn K (.ref C') == some (.type "type"))=true:=by rw [ht];simp
 show (if _ then _ else _)=_
 rw [if_pos (by rw [h1,h2];rfl)]
 exact hs
theorem ysQ {K:PySem.W.Frag}{C C':Addr}(hn:(C == C')=false) (hm:mroIn K C' (.type "object")=some true) (ht:typeIn K (.ref C')=some (.type "type")) (hs:subIn K (.ref C) (.ref C')=some false):PySem.W.kitOne K (.ref C) (.ref C')=some false:=by
 unfold PySem.W.kitOne
 have:¬ ((Value.ref C) == (Value.ref C'))=true:=by
  intro z
  have z:=eq_of_beq z
  cases z
  simp at hn
 rw [if_neg this]
 exact ysP hm ht hs
end L2
namespace PX
open PySem L2
structure Ck where
 K:PySem.W.Frag
 A:Nat->Addr
inductive PV where
 | non|bl (b:Bool)|int (i:Int)|str (s:Str)|ty (n:String)|cls (k:Nat)
 | scr (ns:List Int)
 | lst (xs:List PV)|tup (xs:List PV)
 | ins (k:Nat) (ns:List Str) (xs:List PV)
 | loc (n:Nat)
 | exc (n:Str)|xcl (n:Str)
inductive Nd where
 | lst (xs:List PV)|dct (ks:List Key) (xs:List PV)|fz (ks:List Key) (xs:List PV)|ins (k:Nat) (ns:List Str) (xs:List PV)|dead
abbrev AH:=List Nd
inductive PVar where|no|val (x:PV)|own (d:Nd)
abbrev PSt:=List PVar
inductive Out where|nx (ρ:PSt)|rt (x:PV)|bk (ρ:PSt)|ct (ρ:PSt)
abbrev XE:=PSt->AH->Option (PV×AH)
abbrev XT:=PSt->AH->Option (Bool×AH)
abbrev XA:=PSt->AH->Option (List PV×AH)
abbrev XO:=PSt->AH->Option (Nd×AH)
abbrev XS:=PSt->AH->Option (Out×AH)
abbrev Fn:=List PV->AH->Option (PV×AH)
def KTp (K:PySem.W.Frag) (a:Addr) (xs:List V):Prop:=∃ (o:Obj) (its:Array Value) (n:Nat),K.lookup a=some o/\o.cls=.type "tuple"/\o.data=.seq its n/\its.size<=sizeLine/\Vals xs its.toList
def TpAt (K:PySem.W.Frag) (F:Hp) (a:Addr) (xs:List V):Prop:=F a=some (.tup xs)\/KTp K a xs
theorem TpAt.mono {K:PySem.W.Frag}{F F':Hp}{a:Addr}{xs:List V}(s:Same F F') (h:TpAt K F a xs):TpAt K F' a xs:=h.elim (fun h=>.inl (s _ _ h)) .inr
mutual
noncomputable def Rep (K:Ck) (F:Hp) (m:List Addr):PV->V->Prop
 | .non,v=>v=.non
 | .bl b,v=>v=.bl b
 | .int i,v=>v=.int i
 | .str s,v=>v=.str s
 | .ty n,v=>v=.ty n
 | .cls k,v=>v=.ref (K.A k)
 | .scr ns,v=>∃ a,v=.ref a/\SqL K.K F a (ns.map V.int)
 | .lst xs,v=>∃ a vs,v=.ref a/\F a=some (.lst vs)/\RepL K F m xs vs
 | .tup xs,v=>∃ a vs,v=.ref a/\TpAt K.K F a vs/\RepL K F m xs vs
 | .ins k ns xs,v=>∃ a dx vs,v=.ref a/\F a=some (.ins (K.A k) dx (ns.zip vs))/\vs.length=ns.length/\RepL K F m xs vs
 | .loc n,v=>∃ a,v=.ref a/\m[n]?=some a
 | .exc n,v=>∃ a,v=.ref a/\F a=some (ExO (xAd K.K n) a)
 | .xcl n,v=>v=.ref (xAd K.K n)
noncomputable def RepL (K:Ck) (F:Hp) (m:List Addr):List PV->List V->Prop
 | [],vs=>vs=[]
 | x::xs,vs=>∃ v r,vs=v::r/\Rep K F m x v/\RepL K F m xs r
end
section
variable {K:Ck}{F F' H H':Hp}{m m':List Addr}
theorem yej {n:Nat}{a:Addr}(p:m <+: m') (h:m[n]?=some a):m'[n]?=some a:=by
 obtain ⟨r,rfl⟩:=p
 rw [getElem?_append_left (List.getElem?_eq_some_iff.mp h).1];exact h
mutual
theorem Rep.mono (s:Same F F') (p:m <+: m'):∀ (x:PV) (v:V),Rep K F m x v->Rep K F' m' x v
 | .non,_,h=>h
 | .bl _,_,h=>h
 | .int _,_,h=>h
 | .str _,_,h=>h
 | .ty _,_,h=>h
 | .cls _,_,h=>h
 | .scr _,_,⟨a,e,h⟩=>⟨a,e,s.seq h⟩
 | .lst xs,_,⟨a,vs,e,h,r⟩=>⟨a,vs,e,s _ _ h,RepL.mono s p xs vs r⟩
 | .tup xs,_,⟨a,vs,e,h,r⟩=>⟨a,vs,e,h.mono s,RepL.mono s p xs vs r⟩
 | .ins _ _ xs,_,⟨a,dx,vs,e,h,l,r⟩=>⟨a,dx,vs,e,s _ _ h,l,RepL.mono s p xs vs r⟩
 | .loc _,_,⟨a,e,h⟩=>⟨a,e,yej p h⟩
 | .exc _,_,⟨a,e,h⟩=>⟨a,e,s _ _ h⟩
 | .xcl _,_,h=>h
theorem RepL.mono (s:Same F F') (p:m <+: m'):∀ (xs:List PV) (vs:List V),RepL K F m xs vs->RepL K F' m' xs vs
 | [],_,h=>h
 | x::xs,_,⟨v,r,e,h,l⟩=>⟨v,r,e,Rep.mono s p x v h,RepL.mono s p xs r l⟩
end
theorem RepL.len:∀ {xs:List PV}{vs:List V},RepL K F m xs vs->vs.length=xs.length
 | [],_,h=>by rw [show _=[] from h];rfl
 | x::xs,_,⟨v,r,e,h,l⟩=>by rw [e,length_cons,length_cons,RepL.len l]
theorem RepL.get:∀ {xs:List PV}{vs:List V}{i:Nat}{x:PV},RepL K F m xs vs->xs[i]?=some x->∃ v,vs[i]?=some v/\Rep K F m x v
 | x::xs,_,0,y,⟨v,r,e,h,l⟩,q=>by
  simp at q;subst q;subst e;exact ⟨v,rfl,h⟩
 | x::xs,_,i+1,y,⟨v,r,e,h,l⟩,q=>by
  subst e
  obtain ⟨w,h1,h2⟩:=RepL.get (i:=i) l (by simpa using q)
  exact ⟨w,by simpa using h1,h2⟩
theorem RepL.get' {xs:List PV}{vs:List V}{i:Nat}{v:V}(h:RepL K F m xs vs) (e:vs[i]?=some v):∃ x,xs[i]?=some x/\Rep K F m x v:=by
 have hl:=h.len
 have hi:i<vs.length:=(List.getElem?_eq_some_iff.mp e).1
 have hx:xs[i]?=some xs[i]:=List.getElem?_eq_getElem (by omega)
 obtain ⟨w,h1,h2⟩:=h.get hx
 rw [e] at h1;cases h1
 exact ⟨_,hx,h2⟩
theorem RepL.app:∀ {xs ys:List PV}{vs us:List V},RepL K F m xs vs->RepL K F m ys us->RepL K F m (xs++ys) (vs++us)
 | [],_,_,_,h,k=>by rw [show _=[] from h];exact k
 | x::xs,ys,_,us,⟨v,r,e,h,l⟩,k=>by subst e;exact ⟨v,r++us,rfl,h,RepL.app l k⟩
theorem RepL.snoc {xs:List PV}{vs:List V}{x:PV}{v:V}(h:RepL K F m xs vs) (k:Rep K F m x v):RepL K F m (xs++[x]) (vs++[v]):=h.app ⟨v,[],rfl,k,rfl⟩
theorem RepL.drop:∀ {xs:List PV}{vs:List V}(n:Nat),RepL K F m xs vs->RepL K F m (xs.drop n) (vs.drop n)
 | _,_,0,h=>by simpa using h
 | [],_,n+1,h=>by rw [show _=[] from h];rfl
 | x::xs,_,n+1,⟨v,r,e,h,l⟩=>by subst e;simpa using RepL.drop n l
theorem RepL.take:∀ {xs:List PV}{vs:List V}(n:Nat),RepL K F m xs vs->RepL K F m (xs.take n) (vs.take n)
 | _,_,0,h=>by simp;rfl
 | [],_,n+1,h=>by rw [show _=[] from h];rfl
 | x::xs,_,n+1,⟨v,r,e,h,l⟩=>by subst e;exact ⟨v,r.take n,rfl,h,RepL.take n l⟩
theorem RepL.set:∀ {xs:List PV}{vs:List V}{x:PV}{v:V}(i:Nat),RepL K F m xs vs->Rep K F m x v->RepL K F m (xs.set i x) (vs.set i v)
 | [],_,_,_,_,h,_=>by rw [show _=[] from h];rfl
 | y::xs,_,x,v,0,⟨w,r,e,h,l⟩,k=>by subst e;exact ⟨v,r,rfl,k,l⟩
 | y::xs,_,x,v,i+1,⟨w,r,e,h,l⟩,k=>by subst e;exact ⟨w,r.set i v,rfl,h,RepL.set i l k⟩
theorem RepL.of_ints:∀ (ns:List Int),RepL K F m (ns.map PV.int) (ns.map V.int)
 | []=>rfl
 | n::ns=>⟨_,_,rfl,rfl,RepL.of_ints ns⟩
end
noncomputable def NdAt (K:Ck) (F H:Hp) (m:List Addr):Nd->Addr->Prop
 | .dead,a=>∃ o,H a=some o
 | .lst xs,a=>F a=none/\∃ vs,H a=some (.lst vs)/\RepL K F m xs vs
 | .dct ks xs,a=>F a=none/\∃ vs,H a=some (.dK (ks.zip vs))/\vs.length=ks.length/\RepL K F m xs vs
 | .fz ks xs,a=>F a=none/\∃ o vs,H a=some (.frz o (.dK (ks.zip vs)))/\vs.length=ks.length/\RepL K F m xs vs
 | .ins k ns xs,a=>F a=none/\∃ dx vs,H a=some (.ins (K.A k) dx (ns.zip vs))/\vs.length=ns.length/\RepL K F m xs vs
structure Wd where
 F:Hp
 H:Hp
 m:List Addr
 h:AH
structure WOk (K:Ck) (W:Wd):Prop where
 le:Same W.F W.H
 len:W.m.length=W.h.length
 nd:W.m.Nodup
 at_:∀ (n:Nat) (d:Nd) (a:Addr),W.h[n]?=some d->W.m[n]?=some a->NdAt K W.F W.H W.m d a
structure Le (K:Ck) (W W':Wd):Prop where
 ok:WOk K W'
 fs:Same W.F W'.F
 pre:W.m <+: W'.m
 keep:∀ b o,W.H b=some o->b∉W.m->W'.H b=some o
 new:∀ b o,W.H b=some o->b∉W.m->W.F b=none->W'.F b=none
 mn:∀ b∈W'.m,b∉W.m->W.H b=none
 fz:∀ (n:Nat) (ks:List Key) (xs:List PV),W.h[n]?=some (.fz ks xs)->W'.h[n]?=some (.fz ks xs)/\∀ a,W.m[n]?=some a->W'.H a=W.H a
theorem Le.refl {K:Ck}{W:Wd}(h:WOk K W):Le K W W:=⟨h,Same.refl _,prefix_refl _,fun _ _ e _=>e,fun _ _ _ _ e=>e,fun _ h h'=>absurd h h',fun _ _ _ e=>⟨e,fun _ _=>rfl⟩⟩
theorem Le.trans {K:Ck}{W W1 W2:Wd}(a:Le K W W1) (b:Le K W1 W2):Le K W W2 where
 ok:=b.ok
 fs:=a.fs.trans b.fs
 pre:=a.pre.trans b.pre
 keep:=fun c o e n=>b.keep c o (a.keep c o e n) fun z=>by rw [a.mn c z n] at e;cases e
 new:=fun c o e n f=>b.new c o (a.keep c o e n) (fun z=>by rw [a.mn c z n] at e;cases e) (a.new c o e n f)
 mn:=fun c z n=>by
  by_cases hc:c∈W1.m
  .exact a.mn c hc n
  .have:=b.mn c z hc
   cases e:W.H c with
   | none=>rfl
   | some o=>rw [a.keep c o e n] at this;cases this
 fz:=fun n ks xs e=>by
  obtain ⟨e1,q1⟩:=a.fz n ks xs e
  obtain ⟨e2,q2⟩:=b.fz n ks xs e1
  exact ⟨e2,fun c em=>(q2 c (yej a.pre em)).trans (q1 c em)⟩
abbrev ycI (K:Ck) (W:Wd) (x:PV) (v:V):Prop:=Rep K W.F W.m x v
abbrev ycJ (K:Ck) (W:Wd) (x:List PV) (v:List V):Prop:=RepL K W.F W.m x v
theorem Le.rep {K:Ck}{W W':Wd}(l:Le K W W') {x:PV}{v:V}(h:ycI K W x v):ycI K W' x v:=Rep.mono l.fs l.pre x v h
theorem Le.repL {K:Ck}{W W':Wd}(l:Le K W W') {x:List PV}{v:List V}(h:ycJ K W x v):ycJ K W' x v:=RepL.mono l.fs l.pre x v h
theorem NdAt.mono {K:Ck}{F F' H H':Hp}{m m':List Addr}(s:Same F F') (p:m <+: m') {d:Nd}{a:Addr}(hH:∀ o,H a=some o->H' a=some o) (hF:F a=none->F' a=none) (h:NdAt K F H m d a):NdAt K F' H' m' d a:=by
 cases d with
 | dead=>obtain ⟨o,e⟩:=h;exact ⟨o,hH _ e⟩
 | lst xs=>obtain ⟨f,vs,e,r⟩:=h;exact ⟨hF f,vs,hH _ e,RepL.mono s p _ _ r⟩
 | dct ks xs=>obtain ⟨f,vs,e,l,r⟩:=h;exact ⟨hF f,vs,hH _ e,l,RepL.mono s p _ _ r⟩
 | fz ks xs=>obtain ⟨f,o,vs,e,l,r⟩:=h;exact ⟨hF f,o,vs,hH _ e,l,RepL.mono s p _ _ r⟩
 | ins C ns xs=>obtain ⟨f,dx,vs,e,l,r⟩:=h;exact ⟨hF f,dx,vs,hH _ e,l,RepL.mono s p _ _ r⟩
theorem NdAt.some {K:Ck}{F H:Hp}{m:List Addr}{d:Nd}{a:Addr}(h:NdAt K F H m d a):∃ o,H a=some o:=by
 cases d with
 | dead=>exact h
 | lst xs=>obtain ⟨f,vs,e,r⟩:=h;exact ⟨_,e⟩
 | dct ks xs=>obtain ⟨f,vs,e,r⟩:=h;exact ⟨_,e⟩
 | fz ks xs=>obtain ⟨f,o,vs,e,r⟩:=h;exact ⟨_,e⟩
 | ins C ns xs=>obtain ⟨f,dx,vs,e,r⟩:=h;exact ⟨_,e⟩
structure Good (K:Ck) (W0 W:Wd) (ρ:PSt) (σ:St):Prop where
 le:Le K W0 W
 len:σ.length=ρ.length
 val:∀ (i:Nat) (x:PV),ρ[i]?=some (.val x)->∃ v,σ[i]?=some (some v)/\ycI K W x v
 own:∀ (i:Nat) (d:Nd),ρ[i]?=some (.own d)->∃ p,σ[i]?=some (some (.ref p))/\p∉W.m/\W0.H p=none/\d≠.dead/\NdAt K W.F W.H W.m d p
 ne:∀ (i j:Nat) (d d':Nd),i≠j->ρ[i]?=some (.own d)->ρ[j]?=some (.own d')->σ[i]?≠σ[j]?
theorem Good.ok {K:Ck}{W0 W:Wd}{ρ:PSt}{σ:St}(g:Good K W0 W ρ σ):WOk K W:=g.le.ok
theorem Good.step {K:Ck}{W0 W W':Wd}{ρ:PSt}{σ:St}(g:Good K W0 W ρ σ) (l:Le K W W'):Good K W0 W' ρ σ where
 le:=g.le.trans l
 len:=g.len
 val:=fun i x e=>let ⟨v,h1,h2⟩:=g.val i x e;⟨v,h1,l.rep h2⟩
 own:=fun i d e=>by
  obtain ⟨p,h1,h2,h3,h4,h5⟩:=g.own i d e
  obtain ⟨o,ho⟩:=h5.some
  have n':p∉W'.m:=fun z=>by rw [l.mn p z h2] at ho;cases ho
  refine ⟨p,h1,n',h3,h4,h5.mono l.fs l.pre (fun o e=>l.keep p o e h2) fun f=>l.new p o ho h2 f⟩
 ne:=g.ne
theorem WOk.some {K:Ck}{W:Wd}(w:WOk K W) {a:Addr}(h:a∈W.m):∃ o,W.H a=some o:=by
 obtain ⟨n,hn,e⟩:=getElem_of_mem h
 have hl:n<W.h.length:=by rw [<- w.len];exact hn
 exact (w.at_ n W.h[n] a (List.getElem?_eq_getElem hl) (by rw [List.getElem?_eq_getElem hn,e])).some
theorem Le.fresh {K:Ck}{W W':Wd}(l:Le K W W') {p:Addr}(h:W'.H p=none):W.H p=none:=by
 cases e:W.H p with
 | none=>rfl
 | some o =>
  by_cases hm:p∈W.m
  .obtain ⟨o,q⟩:=l.ok.some (l.pre.subset hm)
   rw [h] at q;cases q
  .rw [l.keep p o e hm] at h;cases h
theorem WOk.out {K:Ck}{W:Wd}(w:WOk K W) {p:Addr}(h:W.H p=none):p∉W.m:=fun z=>by
 obtain ⟨o,q⟩:=w.some z
 rw [h] at q;cases q
theorem WOk.ff {K:Ck}{W:Wd}(w:WOk K W) {p:Addr}(h:W.H p=none):W.F p=none:=Same.free w.le h
structure Lf (K:Ck) (W W':Wd):Prop where
 fs:Same W.F W'.F
 pre:W.m <+: W'.m
 fz:∀ (n:Nat) (ks:List Key) (xs:List PV),W.h[n]?=some (.fz ks xs)->W'.h[n]?=some (.fz ks xs)/\∀ a,W.m[n]?=some a->W'.H a=W.H a
theorem Le.lf {K:Ck}{W W':Wd}(l:Le K W W'):Lf K W W':=⟨l.fs,l.pre,l.fz⟩
theorem Lf.refl {K:Ck}{W:Wd}:Lf K W W:=⟨Same.refl _,prefix_refl _,fun _ _ _ e=>⟨e,fun _ _=>rfl⟩⟩
theorem Lf.trans {K:Ck}{W W1 W2:Wd}(a:Lf K W W1) (b:Lf K W1 W2):Lf K W W2:=⟨a.fs.trans b.fs,a.pre.trans b.pre,fun n ks xs e=>by
  obtain ⟨e1,q1⟩:=a.fz n ks xs e
  obtain ⟨e2,q2⟩:=b.fz n ks xs e1
  exact ⟨e2,fun c em=>(q2 c (yej a.pre em)).trans (q1 c em)⟩⟩
theorem Lf.rep {K:Ck}{W W':Wd}(l:Lf K W W') {x:PV}{v:V}(h:ycI K W x v):ycI K W' x v:=Rep.mono l.fs l.pre x v h
noncomputable def ybR (K:Ck) (t:TE) (e:XE):Prop:=∀ (W0 W:Wd) (ρ:PSt) (σ:St) (Q:VK) (x:PV) (h':AH),Good K W0 W ρ σ->e ρ W.h=some (x,h') ->
 (∀ v W',W'.h=h'->Le K W W'->ycI K W' x v->Q v W'.H)->t σ W.H Q
noncomputable def ykM (K:Ck) (t:TT) (e:XT):Prop:=∀ (W0 W:Wd) (ρ:PSt) (σ:St) (Q:Bool->Hp->Prop) (x:Bool) (h':AH),Good K W0 W ρ σ->e ρ W.h=some (x,h') ->
 (∀ W',W'.h=h'->Le K W W'->Q x W'.H)->t σ W.H Q
noncomputable def ylK (K:Ck) (t:TA) (e:XA):Prop:=∀ (W0 W:Wd) (ρ:PSt) (σ:St) (Q:List V->Hp->Prop) (x:List PV) (h':AH),Good K W0 W ρ σ->e ρ W.h=some (x,h') ->
 (∀ v W',W'.h=h'->Le K W W'->ycJ K W' x v->Q v W'.H)->t σ W.H Q
def ykN (K:Ck) (t:TE) (e:XO):Prop:=∀ (W0 W:Wd) (ρ:PSt) (σ:St) (Q:VK) (d:Nd) (h':AH),Good K W0 W ρ σ->e ρ W.h=some (d,h') ->
 (∀ p W',W'.h=h'->Le K W W'->p∉W'.m->W.H p=none->d≠.dead->NdAt K W'.F W'.H W'.m d p->Q (.ref p) W'.H)->t σ W.H Q
noncomputable def Ends.Ok (K:Ck) (W0 W:Wd) (D:Ends) (h':AH):Out->Prop
 | .nx ρ'=>∀ W' σ',W'.h=h'->Lf K W W'->Good K W0 W' ρ' σ'->D.nx σ' W'.H
 | .bk ρ'=>∀ W' σ',W'.h=h'->Lf K W W'->Good K W0 W' ρ' σ'->D.bk σ' W'.H
 | .ct ρ'=>∀ W' σ',W'.h=h'->Lf K W W'->Good K W0 W' ρ' σ'->D.ct σ' W'.H
 | .rt x=>∀ W' v,W'.h=h'->Le K W0 W'->ycI K W' x v->D.rt v W'.H
def yeY (K:Ck) (t:TS) (s:XS):Prop:=∀ (W0 W:Wd) (ρ:PSt) (σ:St) (D:Ends) (o:Out) (h':AH),Good K W0 W ρ σ->s ρ W.h=some (o,h')->Ends.Ok K W0 W D h' o->t D σ W.H
noncomputable def ob {α β:Type}(o:Option (α×AH)) (f:α->AH->Option β):Option β:=o.bind fun q=>f q.1 q.2
theorem yi {α β:Type}{o:Option (α×AH)}{f:α->AH->Option β}{b:β}(h:ob o f=some b):∃ x h',o=some (x,h')/\f x h'=some b:=by
 obtain ⟨⟨x,h'⟩,e,k⟩:=Option.bind_eq_some_iff.mp h
 exact ⟨x,h',e,k⟩
end PX
namespace PX
open PySem L2
variable {K:Ck}
def ye (i:Nat):XE:=fun ρ h=>match ρ[i]? with|some (.val x)=>some (x,h)|_=>none
def xC (x:PV):XE:=fun _ h=>some (x,h)
abbrev P2:=PV->PV->AH->Option (PV×AH)
abbrev P2O:=PV->PV->AH->Option (Nd×AH)
def xOp (p:P2) (a b:XE):XE:=fun ρ h=>ob (a ρ h) fun x h1=>ob (b ρ h1) fun y h2=>p x y h2
def ykO (p:P2O) (a b:XE):XO:=fun ρ h=>ob (a ρ h) fun x h1=>ob (b ρ h1) fun y h2=>p x y h2
def xUn (p:PV->AH->Option (PV×AH)) (a:XE):XE:=fun ρ h=>ob (a ρ h) fun x h1=>p x h1
def oB (x:PV) (h:AH):Option (Bool×AH):=match x with|.bl b=>some (b,h)|_=>none
def yeZ (p p':P2) (a b c:XE):XE:=fun ρ h=>ob (a ρ h) fun x h1=>ob (b ρ h1) fun y h2=>ob (p x y h2) fun z h3=>ob (oB z h3) fun k h3=>if k=true then ob (c ρ h3) fun w h4=>p' y w h4 else some (.bl false,h3)
def yq (a:XE):XT:=fun ρ h=>ob (a ρ h) oB
def yfF (a b:XE):XE:=fun ρ h=>ob (a ρ h) fun x h1=>ob (oB x h1) fun k h1=>if k=true then b ρ h1 else some (.bl false,h1)
def ywd (a:XE):XE:=fun ρ h=>ob (a ρ h) fun x h1=>ob (oB x h1) fun k h1=>some (.bl (!k),h1)
def yuW (a b:XT):XT:=fun ρ h=>ob (a ρ h) fun k h1=>if k=true then b ρ h1 else some (false,h1)
def xOr (a b:XT):XT:=fun ρ h=>ob (a ρ h) fun k h1=>if k=true then some (true,h1) else b ρ h1
def ykP (a:XT):XT:=fun ρ h=>ob (a ρ h) fun k h1=>some (!k,h1)
def xIf (c:XT) (a b:XE):XE:=fun ρ h=>ob (c ρ h) fun k h1=>if k=true then a ρ h1 else b ρ h1
def yh:XA:=fun _ h=>some ([],h)
def yb (a:XE) (r:XA):XA:=fun ρ h=>ob (a ρ h) fun x h1=>ob (r ρ h1) fun xs h2=>some (x::xs,h2)
def ybS (a:XA):XE:=fun ρ h=>ob (a ρ h) fun xs h1=>if xs.length<=1000 then some (.tup xs,h1) else none
def ycR (a:XA):XO:=fun ρ h=>ob (a ρ h) fun xs h1=>if xs.length<=1000 then some (.lst xs,h1) else none
def xFz (e:XO):XE:=fun ρ h=>ob (e ρ h) fun d h1=>match d with|.lst xs=>some (.lst xs,h1)|.ins k ns xs=>some (.ins k ns xs,h1)|_=>none
def yfG (e:XO):XE:=fun ρ h=>ob (e ρ h) fun d h1=>some (.loc h1.length,h1++[d])
def yY (f:Fn) (a:XA):XE:=fun ρ h=>ob (a ρ h) f
def xCB (p:List PV->AH->Option (PV×AH)) (a:XA):XE:=fun ρ h=>ob (a ρ h) p
def yil (p:List PV->AH->Option (Nd×AH)) (a:XA):XO:=fun ρ h=>ob (a ρ h) p
abbrev PM:=PV->List PV->AH->Option (PV×AH)
def xBM (c:PV->AH->Bool) (p:PM) (o:XE) (a:XA):XE:=fun ρ h=>ob (o ρ h) fun x h1=>if c x h1=true then ob (a ρ h1) fun xs h2=>p x xs h2 else none
def ysR (e:XE):PSt->AH->Option (Option Int×AH):=fun ρ h=>ob (e ρ h) fun x h1=>match x with|.int i=>some (some i,h1)|_=>none
def yjo:PSt->AH->Option (Option Int×AH):=fun _ h=>some (none,h)
def yBm (p:PV->Option Int->Option Int->AH->Option (Nd×AH)) (e:XE) (lo hi:PSt->AH->Option (Option Int×AH)):XO:=fun ρ h=>ob (e ρ h) fun x h1=>ob (lo ρ h1) fun l h2=>ob (hi ρ h2) fun u h3=>p x l u h3
noncomputable def ych (K:Ck) (r:R2) (p:P2):Prop:=∀ (W:Wd) (x y:PV) (v u:V) (Q:VK) (z:PV) (h':AH),WOk K W->ycI K W x v->ycI K W y u->p x y W.h=some (z,h')->(∀ w W',W'.h=h'->Le K W W'->ycI K W' z w->Q w W'.H)->r v u W.H Q
def yoL (K:Ck) (W:Wd) (d:Nd) (h':AH) (Q:VK):Prop:=∀ p W',W'.h=h'->Le K W W'->p∉W'.m->W.H p=none->d≠.dead->NdAt K W'.F W'.H W'.m d p->Q (.ref p) W'.H
def ynD (K:Ck) (r:R2) (p:P2O):Prop:=∀ (W:Wd) (x y:PV) (v u:V) (Q:VK) (d:Nd) (h':AH),WOk K W->ycI K W x v->ycI K W y u->p x y W.h=some (d,h')->yoL K W d h' Q->r v u W.H Q
noncomputable def ywe (K:Ck) (r:V->Hp->VK->Prop) (p:PV->AH->Option (PV×AH)):Prop:=∀ (W:Wd) (x:PV) (v:V) (Q:VK) (z:PV) (h':AH),WOk K W->ycI K W x v->p x W.h=some (z,h')->(∀ w W',W'.h=h'->Le K W W'->ycI K W' z w->Q w W'.H)->r v W.H Q
noncomputable def yhp (K:Ck) (r:List V->Hp->VK->Prop) (p:List PV->AH->Option (PV×AH)):Prop:=∀ (W:Wd) (xs:List PV) (vs:List V) (Q:VK) (z:PV) (h':AH),WOk K W->ycJ K W xs vs->p xs W.h=some (z,h')->(∀ w W',W'.h=h'->Le K W W'->ycI K W' z w->Q w W'.H)->r vs W.H Q
def ypY (K:Ck) (r:List V->Hp->VK->Prop) (p:List PV->AH->Option (Nd×AH)):Prop:=∀ (W:Wd) (xs:List PV) (vs:List V) (Q:VK) (d:Nd) (h':AH),WOk K W->ycJ K W xs vs->p xs W.h=some (d,h')->yoL K W d h' Q->r vs W.H Q
def yim (K:Ck) (T:String) (c:PV->AH->Bool) (r:V->List V->Hp->VK->Prop) (p:PM):Prop :=
 (∀ (W:Wd) (x:PV) (v:V),WOk K W->ycI K W x v->c x W.h=true->tyV K.K T v W.H) /\
 ∀ (W:Wd) (x:PV) (v:V) (xs:List PV) (vs:List V) (Q:VK) (z:PV) (h':AH),WOk K W->ycI K W x v->ycJ K W xs vs->p x xs W.h=some (z,h')->(∀ w W',W'.h=h'->Le K W W'->ycI K W' z w->Q w W'.H)->r v vs W.H Q
theorem ywf (i:Nat):ybR K (ypn i) (ye i):=by
 intro W0 W ρ σ Q x h' g e q
 unfold ye at e
 split at e
 .rename_i y hy
  cases e
  obtain ⟨v,h1,h2⟩:=g.val i _ hy
  exact ⟨v,h1,q v W rfl (.refl g.ok) h2⟩
 .cases e
theorem yoM {v:V}{x:PV}(h:∀ W:Wd,ycI K W x v):ybR K (tC v) (xC x):=by
 intro W0 W ρ σ Q y h' g e q
 cases e
 exact q v W rfl (.refl g.ok) (h W)
theorem ypZ {i:Int}:ybR K (tC (.int i)) (xC (.int i)):=yoM fun _=>rfl
theorem yqa {i:Str}:ybR K (tC (.str i)) (xC (.str i)):=yoM fun _=>rfl
theorem yyU {i:Bool}:ybR K (tC (.bl i)) (xC (.bl i)):=yoM fun _=>rfl
theorem ywg:ybR K (tC .non) (xC .non):=yoM fun _=>rfl
theorem yyV {n:String}:ybR K (tC (.ty n)) (xC (.ty n)):=yoM fun _=>rfl
theorem ywh {k:Nat}:ybR K (tC (.ref (K.A k))) (xC (.cls k)):=yoM fun _=>rfl
section
variable {ta tb tc:TE}{ea eb ec:XE}{t:TA}{e:XA}
theorem ynE {r:R2}{p:P2}(o:ych K r p) (a:ybR K ta ea) (b:ybR K tb eb):ybR K (tOp r ta tb) (xOp p ea eb):=by
 intro W0 W ρ σ Q z h' g e q
 obtain ⟨x,h1,e1,f1⟩:=yi e
 obtain ⟨y,h2,e2,f2⟩:=yi f1
 refine a W0 W ρ σ _ x h1 g e1 fun v W1 w1 l1 r1=>?_
 subst w1
 refine b W0 W1 ρ σ _ y h2 (g.step l1) e2 fun u W2 w2 l2 r2=>?_
 subst w2
 exact o W2 x y v u Q z h' l2.ok (l2.rep r1) r2 f2 fun w W3 w3 l3 r3=>q w W3 w3 (l1.trans (l2.trans l3)) r3
theorem ygj {W W1:Wd}{d:Nd}{h':AH}{Q:VK}(l:Le K W W1) (q:yoL K W d h' Q):yoL K W1 d h' Q:=fun p W' e l' n f=>q p W' e (l.trans l') n (l.fresh f)
theorem ywi {r:R2}{p:P2O}(o:ynD K r p) (a:ybR K ta ea) (b:ybR K tb eb):ykN K (tOp r ta tb) (ykO p ea eb):=by
 intro W0 W ρ σ Q z h' g e q
 obtain ⟨x,h1,e1,f1⟩:=yi e
 obtain ⟨y,h2,e2,f2⟩:=yi f1
 refine a W0 W ρ σ _ x h1 g e1 fun v W1 w1 l1 r1=>?_
 subst w1
 refine b W0 W1 ρ σ _ y h2 (g.step l1) e2 fun u W2 w2 l2 r2=>?_
 subst w2
 exact o W2 x y v u Q z h' l2.ok (l2.rep r1) r2 f2 (ygj (l1.trans l2) q)
theorem yyW {r} {p} (o:ywe K r p) (a:ybR K ta ea):ybR K (tUn r ta) (xUn p ea):=by
 intro W0 W ρ σ Q z h' g e q
 obtain ⟨x,h1,e1,f1⟩:=yi e
 refine a W0 W ρ σ _ x h1 g e1 fun v W1 w1 l1 r1=>?_
 subst w1
 exact o W1 x v Q z h' l1.ok r1 f1 fun w W3 w3 l3 r3=>q w W3 w3 (l1.trans l3) r3
theorem yjp {x:PV}{h:AH}{k:Bool}{h':AH}(e:oB x h=some (k,h')):x=.bl k/\h'=h:=by
 unfold oB at e
 split at e
 .cases e;exact ⟨rfl,rfl⟩
 .cases e
theorem ykQ {r r':R2}{p p':P2}(o:ych K r p) (o':ych K r' p') (a:ybR K ta ea) (b:ybR K tb eb) (c:ybR K tc ec):ybR K (ypG r r' ta tb tc) (yeZ p p' ea eb ec):=by
 intro W0 W ρ σ Q z h' g e q
 obtain ⟨x,h1,e1,f1⟩:=yi e
 obtain ⟨y,h2,e2,f2⟩:=yi f1
 obtain ⟨z',h3,e3,f3⟩:=yi f2
 obtain ⟨k,h3',e3',f4⟩:=yi f3
 obtain ⟨rfl,rfl⟩:=yjp e3'
 refine a W0 W ρ σ _ x h1 g e1 fun v W1 w1 l1 r1=>?_
 subst w1
 refine b W0 W1 ρ σ _ y h2 (g.step l1) e2 fun u W2 w2 l2 r2=>?_
 subst w2
 refine o W2 x y v u _ _ _ l2.ok (l2.rep r1) r2 e3 fun w W3 w3 l3 r3=>⟨k,r3,?_⟩
 subst w3
 have l:=l1.trans (l2.trans l3)
 cases k with
 | false =>
  rw [if_neg (by decide)] at f4 ⊢
  cases f4
  exact q _ W3 rfl l rfl
 | true =>
  rw [if_pos rfl] at f4 ⊢
  obtain ⟨w',h4,e4,f5⟩:=yi f4
  refine c W0 W3 ρ σ _ w' h4 (g.step l) e4 fun u' W4 w4 l4 r4=>?_
  subst w4
  exact o' W4 y w' u u' Q z h' l4.ok ((l3.trans l4).rep r2) r4 f5 fun w W5 w5 l5 r5=>q w W5 w5 (l.trans (l4.trans l5)) r5
theorem yha (a:ybR K ta ea):ykM K (yvL ta) (yq ea):=by
 intro W0 W ρ σ Q k h' g e q
 obtain ⟨x,h1,e1,f1⟩:=yi e
 obtain ⟨rfl,rfl⟩:=yjp f1
 exact a W0 W ρ σ _ _ _ g e1 fun v W1 w1 l1 r1=>⟨k,r1,q W1 w1 l1⟩
theorem yyX (a:ybR K ta ea):ykM K (tB ta) (yq ea):=yha a
theorem ysS (a:ybR K ta ea) (b:ybR K tb eb):ybR K (yyx ta tb) (yfF ea eb):=by
 intro W0 W ρ σ Q z h' g e q
 obtain ⟨x,h1,e1,f1⟩:=yi e
 obtain ⟨k,h1',e1',f2⟩:=yi f1
 obtain ⟨rfl,rfl⟩:=yjp e1'
 refine a W0 W ρ σ _ _ _ g e1 fun v W1 w1 l1 r1=>⟨k,r1,?_⟩
 subst w1
 cases k with
 | false =>
  rw [if_neg (by decide)] at f2 ⊢
  cases f2
  exact q _ W1 rfl l1 rfl
 | true =>
  rw [if_pos rfl] at f2 ⊢
  exact b W0 W1 ρ σ _ z h' (g.step l1) f2 fun v W2 w2 l2 r2=>q v W2 w2 (l1.trans l2) r2
theorem ysT (a:ybR K ta ea):ybR K (yyy ta) (ywd ea):=by
 intro W0 W ρ σ Q z h' g e q
 obtain ⟨x,h1,e1,f1⟩:=yi e
 obtain ⟨k,h1',e1',f2⟩:=yi f1
 obtain ⟨rfl,rfl⟩:=yjp e1'
 cases f2
 exact a W0 W ρ σ _ _ _ g e1 fun v W1 w1 l1 r1=>⟨k,r1,q _ W1 w1 l1 rfl⟩
section
variable {tA tB':TT}{eA eB:XT}
theorem ywj (a:ykM K tA eA) (b:ykM K tB' eB):ykM K (yDx tA tB') (yuW eA eB):=by
 intro W0 W ρ σ Q z h' g e q
 obtain ⟨k,h1,e1,f1⟩:=yi e
 refine a W0 W ρ σ _ _ _ g e1 fun W1 w1 l1=>?_
 subst w1
 cases k with
 | false =>
  rw [if_neg (by decide)] at f1 ⊢
  cases f1
  exact q W1 rfl l1
 | true =>
  rw [if_pos rfl] at f1 ⊢
  exact b W0 W1 ρ σ _ z h' (g.step l1) f1 fun W2 w2 l2=>q W2 w2 (l1.trans l2)
theorem yyY (a:ykM K tA eA) (b:ykM K tB' eB):ykM K (tOr tA tB') (xOr eA eB):=by
 intro W0 W ρ σ Q z h' g e q
 obtain ⟨k,h1,e1,f1⟩:=yi e
 refine a W0 W ρ σ _ _ _ g e1 fun W1 w1 l1=>?_
 subst w1
 cases k with
 | true =>
  rw [if_pos rfl] at f1 ⊢
  cases f1
  exact q W1 rfl l1
 | false =>
  rw [if_neg (by decide)] at f1 ⊢
  exact b W0 W1 ρ σ _ z h' (g.step l1) f1 fun W2 w2 l2=>q W2 w2 (l1.trans l2)
theorem ywk (a:ykM K tA eA):ykM K (yBw tA) (ykP eA):=by
 intro W0 W ρ σ Q z h' g e q
 obtain ⟨k,h1,e1,f1⟩:=yi e
 cases f1
 exact a W0 W ρ σ _ _ _ g e1 fun W1 w1 l1=>q W1 w1 l1
theorem yyZ (c:ykM K tA eA) (a:ybR K ta ea) (b:ybR K tb eb):ybR K (tIf tA ta tb) (xIf eA ea eb):=by
 intro W0 W ρ σ Q z h' g e q
 obtain ⟨k,h1,e1,f1⟩:=yi e
 refine c W0 W ρ σ _ _ _ g e1 fun W1 w1 l1=>?_
 subst w1
 cases k with
 | true =>
  rw [if_pos rfl] at f1 ⊢
  exact a W0 W1 ρ σ _ z h' (g.step l1) f1 fun v W2 w2 l2 r2=>q v W2 w2 (l1.trans l2) r2
 | false =>
  rw [if_neg (by decide)] at f1 ⊢
  exact b W0 W1 ρ σ _ z h' (g.step l1) f1 fun v W2 w2 l2 r2=>q v W2 w2 (l1.trans l2) r2
end
theorem yjq:ylK K ysD yh:=by
 intro W0 W ρ σ Q z h' g e q
 cases e
 exact q [] W rfl (.refl g.ok) rfl
theorem ysU (a:ybR K ta ea) (r:ylK K t e):ylK K (ylT ta t) (yb ea e):=by
 intro W0 W ρ σ Q z h' g e q
 obtain ⟨x,h1,e1,f1⟩:=yi e
 obtain ⟨xs,h2,e2,f2⟩:=yi f1
 cases f2
 refine a W0 W ρ σ _ x h1 g e1 fun v W1 w1 l1 r1=>?_
 subst w1
 exact r W0 W1 ρ σ _ xs _ (g.step l1) e2 fun vs W2 w2 l2 r2=>q (v::vs) W2 w2 (l1.trans l2) ⟨v,vs,rfl,l2.rep r1,r2⟩
def ywl (W:Wd) (p:Addr) (o:HO):Wd:=⟨upd W.F p o,upd W.H p o,W.m,W.h⟩
theorem yqb {W:Wd}{p:Addr}{o:HO}(w:WOk K W) (h:W.H p=none):Le K W (ywl W p o):=by
 have hm:=w.out h
 have hf:=w.ff h
 have sF:Same W.F (upd W.F p o):=ydH hf o
 refine ⟨⟨?_,w.len,w.nd,fun n d a e1 e2=>?_⟩,sF,prefix_refl _,fun b u e _=>ydH h o b u e,fun b u e _ f=>?_,fun b z n=>absurd z n,fun n ks xs e1=>⟨e1,fun a e2=>yL fun z=>hm (z ▸ mem_of_getElem? e2)⟩⟩
 .intro b u e
  show upd W.H p o b=some u
  by_cases hb:b=p
  .subst hb;rw [show (ywl W b o).F b=upd W.F b o b from rfl,yD] at e;rw [yD];exact e
  .rw [show (ywl W p o).F b=upd W.F p o b from rfl,yL hb] at e;rw [yL hb];exact w.le _ _ e
 .have ha:a≠p:=fun z=>hm (z ▸ mem_of_getElem? e2)
  exact (w.at_ n d a e1 e2).mono sF (prefix_refl _) (fun u e=>by rw [show (ywl W p o).H a=upd W.H p o a from rfl,yL ha];exact e) fun f=>(yL ha).trans f
 .have:b≠p:=ybw e h
  rw [show (ywl W p o).F b=upd W.F p o b from rfl,yL this];exact f
def ygg (W:Wd) (p:Addr) (o:HO):Wd:=⟨W.F,upd W.H p o,W.m,W.h⟩
theorem ycA {W:Wd}{p:Addr}{o:HO}(w:WOk K W) (h:W.H p=none):Le K W (ygg W p o):=by
 have hm:=w.out h
 refine ⟨⟨?_,w.len,w.nd,fun n d a e1 e2=>?_⟩,Same.refl _,prefix_refl _,fun b u e _=>ydH h o b u e,fun b u e _ f=>f,fun b z n=>absurd z n,fun n ks xs e1=>⟨e1,fun a e2=>yL fun z=>hm (z ▸ mem_of_getElem? e2)⟩⟩
 .exact fun b u e=>ydH h o b u (w.le _ _ e)
 .exact (w.at_ n d a e1 e2).mono (Same.refl _) (prefix_refl _) (fun u e=>ydH h o _ _ e) id
theorem small {n:Nat}(h:n<=1000):n<=sizeLine:=le_of_lt (ykt h)
theorem ywm (a:ylK K t e):ybR K (yDF t) (ybS e):=by
 intro W0 W ρ σ Q z h' g e q
 obtain ⟨xs,h1,e1,f1⟩:=yi e
 split at f1
 .rename_i hl
  cases f1
  refine a W0 W ρ σ _ xs _ g e1 fun vs W1 w1 l1 r1=>⟨small (by rw [r1.len];exact hl),fun p hp=>?_⟩
  have l2:=yqb (o:=.tup vs) l1.ok hp
  exact q (.ref p) (ywl W1 p (.tup vs)) w1 (l1.trans l2) ⟨p,vs,rfl,.inl yD,l2.repL r1⟩
 .cases f1
theorem ywn (a:ylK K t e):ykN K (yDG t) (ycR e):=by
 intro W0 W ρ σ Q z h' g e q
 obtain ⟨xs,h1,e1,f1⟩:=yi e
 split at f1
 .rename_i hl
  cases f1
  refine a W0 W ρ σ _ xs _ g e1 fun vs W1 w1 l1 r1=>⟨small (by rw [r1.len];exact hl),fun p hp=>?_⟩
  have l2:=ycA (o:=.lst vs) l1.ok hp
  exact q p (ygg W1 p (.lst vs)) w1 (l1.trans l2) (l1.ok.out hp) (l1.fresh hp) (fun z=>by cases z) ⟨l1.ok.ff hp,vs,yD,r1⟩
 .cases f1
def ysV (W:Wd) (p:Addr) (o:HO):Wd:=⟨upd W.F p o,W.H,W.m,W.h⟩
theorem yqc {W:Wd}{p:Addr}{o:HO}(w:WOk K W) (h:W.H p=some o) (hm:p∉W.m) (hf:W.F p=none):WOk K (ysV W p o)/\Same W.F (upd W.F p o):=by
 have sF:Same W.F (upd W.F p o):=ydH hf o
 refine ⟨⟨?_,w.len,w.nd,fun n d a e1 e2=>?_⟩,sF⟩
 .intro b u e
  by_cases hb:b=p
  .subst hb;rw [show (ysV W b o).F b=upd W.F b o b from rfl,yD] at e;cases e;exact h
  .rw [show (ysV W p o).F b=upd W.F p o b from rfl,yL hb] at e;exact w.le _ _ e
 .have ha:a≠p:=fun z=>hm (z ▸ mem_of_getElem? e2)
  exact (w.at_ n d a e1 e2).mono sF (prefix_refl _) (fun u e=>e) fun f=>(yL ha).trans f
theorem ymo {W W1:Wd}{p:Addr}{o:HO}(l:Le K W W1) (h:W1.H p=some o) (hm:p∉W1.m) (hf:W1.F p=none) (hn:W.H p=none):Le K W (ysV W1 p o):=by
 obtain ⟨k,sF⟩:=yqc l.ok h hm hf
 refine ⟨k,l.fs.trans sF,l.pre,l.keep,fun b u e n f=>?_,l.mn,l.fz⟩
 have:b≠p:=ybw e hn
 rw [show (ysV W1 p o).F b=upd W1.F p o b from rfl,yL this];exact l.new b u e n f
theorem yza {o:XO}(a:ykN K ta o):ybR K ta (xFz o):=by
 intro W0 W ρ σ Q z h' g e q
 obtain ⟨d,h1,e1,f1⟩:=yi e
 refine a W0 W ρ σ _ d h1 g e1 fun p W1 w1 l1 hm hn hd at_=>?_
 split at f1
 .rename_i xs
  cases f1
  obtain ⟨hf,vs,hp,r⟩:=at_
  have l2:=ymo l1 hp hm hf hn
  exact q (.ref p) (ysV W1 p (.lst vs)) w1 l2 ⟨p,vs,rfl,yD,RepL.mono (ydH hf _) (prefix_refl _) _ _ r⟩
 .rename_i k ns xs
  cases f1
  obtain ⟨hf,dx,vs,hp,hl,r⟩:=at_
  have l2:=ymo l1 hp hm hf hn
  exact q (.ref p) (ysV W1 p _) w1 l2 ⟨p,dx,vs,rfl,yD,hl,RepL.mono (ydH hf _) (prefix_refl _) _ _ r⟩
 .cases f1
theorem yqd {o:XO}(a:ykN K ta o):ybR K ta (yfG o):=by
 intro W0 W ρ σ Q z h' g e q
 obtain ⟨d,h1,e1,f1⟩:=yi e
 cases f1
 refine a W0 W ρ σ _ d h1 g e1 fun p W1 w1 l1 hm hn hd at_=>?_
 subst w1
 have pre:W1.m <+: W1.m++[p]:=List.prefix_append _ _
 refine q (.ref p) ⟨W1.F,W1.H,W1.m++[p],W1.h++[d]⟩ rfl ⟨⟨l1.ok.le,?_,?_,fun n d' a e1 e2=>?_⟩,l1.fs,l1.pre.trans pre,l1.keep,l1.new,fun b z n=>?_,fun n ks xs e1=>⟨by
  have:=(l1.fz n ks xs e1).1
  show (W1.h++[d])[n]?=_
  rw [getElem?_append_left (List.getElem?_eq_some_iff.mp this).1];exact this,(l1.fz n ks xs e1).2⟩⟩ ⟨p,rfl,?_⟩
 .show (W1.m++[p]).length=(W1.h++[d]).length
  rw [length_append,length_append,l1.ok.len];rfl
 .show (W1.m++[p]).Nodup
  rw [List.nodup_append]
  refine ⟨l1.ok.nd,by simp,?_⟩
  intro a ha b hb
  simp at hb
  subst hb
  exact fun z=>hm (z ▸ ha)
 .have e1:(W1.h++[d])[n]?=some d':=e1
  have e2:(W1.m++[p])[n]?=some a:=e2
  by_cases hlt:n<W1.h.length
  .rw [getElem?_append_left hlt] at e1
   rw [getElem?_append_left (by rw [l1.ok.len];exact hlt)] at e2
   exact (l1.ok.at_ n d' a e1 e2).mono (Same.refl _) pre (fun _ f1=>f1) id
  .rw [getElem?_append_right (by omega)] at e1
   rw [getElem?_append_right (by rw [l1.ok.len];omega)] at e2
   rw [l1.ok.len] at e2
   cases hk:n-W1.h.length with
   | zero =>
    rw [hk] at e1 e2
    simp at e1 e2
    subst e1 e2
    exact at_.mono (Same.refl _) pre (fun _ f1=>f1) id
   | succ k=>rw [hk] at e1;simp at e1
 .have z:b∈W1.m++[p]:=z
  rcases List.mem_append.mp z with z|z
  .exact l1.mn b z n
  .simp at z;subst z;exact hn
 .show (W1.m++[p])[W1.h.length]?=some p
  rw [<- l1.ok.len];simp
noncomputable def spE (K:Ck) (n:Nat) (f:Fn):Sp:=fun vs H Q _=>∃ (W:Wd) (xs:List PV) (x:PV) (h':AH),W.H=H/\WOk K W/\ycJ K W xs vs/\xs.length=n/\f xs W.h=some (x,h')/\∀ v W',W'.h=h'->Le K W W'->ycI K W' x v->Q v W'.H
theorem ysW {n:Nat}{f:Fn}{ex:XK}(a:ylK K t e) (hn:∀ ρ h xs h',e ρ h=some (xs,h')->xs.length=n):ybR K (ysE (spE K n f) [] ex t) (yY f e):=by
 intro W0 W ρ σ Q z h' g e' q
 obtain ⟨xs,h1,e1,e2⟩:=yi e'
 refine a W0 W ρ σ _ xs h1 g e1 fun vs W1 w1 l1 r1=>?_
 subst w1
 rw [append_nil]
 exact ⟨W1,xs,z,h',rfl,l1.ok,r1,hn _ _ _ _ e1,e2,fun v W2 w2 l2 r2=>q v W2 w2 (l1.trans l2) r2⟩
theorem ymp:∀ ρ h xs h',yh ρ h=some (xs,h')->xs.length=0:=fun ρ h xs h' e=>by cases e;rfl
theorem ysX {n:Nat}(l:∀ ρ h xs h',e ρ h=some (xs,h')->xs.length=n):∀ ρ h xs h',yb ea e ρ h=some (xs,h')->xs.length=n+1:=fun ρ h xs h' q=>by
 obtain ⟨x,h1,e1,q⟩:=yi q
 obtain ⟨ys,h2,e2,q⟩:=yi q
 cases q
 rw [length_cons,l _ _ _ _ e2]
theorem yuX {r} {p} (o:yhp K r p) (a:ylK K t e):ybR K (tCB r t) (xCB p e):=by
 intro W0 W ρ σ Q z h' g e' q
 obtain ⟨xs,h1,e1,e2⟩:=yi e'
 refine a W0 W ρ σ _ xs h1 g e1 fun vs W1 w1 l1 r1=>?_
 subst w1
 exact o W1 xs vs Q z h' l1.ok r1 e2 fun v W2 w2 l2 r2=>q v W2 w2 (l1.trans l2) r2
theorem ywo {r} {p} (o:ypY K r p) (a:ylK K t e):ykN K (tCB r t) (yil p e):=by
 intro W0 W ρ σ Q z h' g e' q
 obtain ⟨xs,h1,e1,e2⟩:=yi e'
 refine a W0 W ρ σ _ xs h1 g e1 fun vs W1 w1 l1 r1=>?_
 subst w1
 exact o W1 xs vs Q z h' l1.ok r1 e2 (ygj l1 q)
theorem yuY {T:String}{c} {r} {p} (o:yim K T c r p) (b:ybR K ta ea) (a:ylK K t e):ybR K (tBM K.K T r ta t) (xBM c p ea e):=by
 intro W0 W ρ σ Q z h' g e' q
 obtain ⟨x,h1,e1,f1⟩:=yi e'
 split at f1
 .rename_i hc
  obtain ⟨xs,h2,e2,f2⟩:=yi f1
  refine b W0 W ρ σ _ x h1 g e1 fun v W1 w1 l1 r1=>⟨o.1 W1 x v l1.ok r1 (by rw [w1];exact hc),?_⟩
  subst w1
  refine a W0 W1 ρ σ _ xs h2 (g.step l1) e2 fun vs W2 w2 l2 r2=>?_
  subst w2
  exact o.2 W2 x v xs vs Q z h' l2.ok (l2.rep r1) r2 f2 fun w W3 w3 l3 r3=>q w W3 w3 (l1.trans (l2.trans l3)) r3
 .cases f1
theorem ywp {T:String}{c} {r} {p} (o:yim K T c r p) (b:ybR K ta ea):ybR K (yBI K.K T r ta) (xBM c p ea yh):=yuY (t:=ysD) o b yjq
end
noncomputable def yya (K:Ck) (t:TO) (e:PSt->AH->Option (Option Int×AH)):Prop:=∀ (W0 W:Wd) (ρ:PSt) (σ:St) (Q:Option Int->Hp->Prop) (x:Option Int) (h':AH),Good K W0 W ρ σ->e ρ W.h=some (x,h') ->
 (∀ W',W'.h=h'->Le K W W'->Q x W'.H)->t σ W.H Q
theorem yoN:yya K ypM yjo:=by
 intro W0 W ρ σ Q z h' g e q
 cases e
 exact q W rfl (.refl g.ok)
theorem ysY {ta:TE}{ea:XE}(a:ybR K ta ea):yya K (yyL ta) (ysR ea):=by
 intro W0 W ρ σ Q z h' g e q
 obtain ⟨x,h1,e1,f1⟩:=yi e
 split at f1
 .rename_i i
  cases f1
  exact a W0 W ρ σ _ _ _ g e1 fun v W1 w1 l1 r1=>⟨i,r1,q W1 w1 l1⟩
 .cases f1
def yqe (K:Ck) (r:V->Option Int->Option Int->Hp->VK->Prop) (p:PV->Option Int->Option Int->AH->Option (Nd×AH)):Prop:=∀ (W:Wd) (x:PV) (v:V) (lo hi:Option Int) (Q:VK) (d:Nd) (h':AH),WOk K W->ycI K W x v->p x lo hi W.h=some (d,h')->yoL K W d h' Q->r v lo hi W.H Q
theorem ywq {r} {p} {ta:TE}{ea:XE}{tl th:TO}{el eh} (o:yqe K r p) (a:ybR K ta ea) (b:yya K tl el) (c:yya K th eh):ykN K (tSl r ta tl th) (yBm p ea el eh):=by
 intro W0 W ρ σ Q z h' g e q
 obtain ⟨x,h1,e1,f1⟩:=yi e
 obtain ⟨l,h2,e2,f2⟩:=yi f1
 obtain ⟨u,h3,e3,f3⟩:=yi f2
 refine a W0 W ρ σ _ x h1 g e1 fun v W1 w1 l1 r1=>?_
 subst w1
 refine b W0 W1 ρ σ _ l h2 (g.step l1) e2 fun W2 w2 l2=>?_
 subst w2
 refine c W0 W2 ρ σ _ u h3 (g.step (l1.trans l2)) e3 fun W3 w3 l3=>?_
 subst w3
 exact o W3 x v l u Q z h' l3.ok ((l2.trans l3).rep r1) f3 (ygj (l1.trans (l2.trans l3)) q)
end PX
namespace PX
open PySem L2
variable {K:Ck}
def yJ:XS:=fun ρ h=>some (.nx ρ,h)
def ym (s u:XS):XS:=fun ρ h=>ob (s ρ h) fun o h1=>match o with|.nx ρ'=>u ρ' h1|.rt x=>some (.rt x,h1)|.bk ρ'=>some (.bk ρ',h1)|.ct ρ'=>some (.ct ρ',h1)
def ybf (e:XE):XS:=fun ρ h=>ob (e ρ h) fun _ h1=>some (.nx ρ,h1)
def yR (e:XE):XS:=fun ρ h=>ob (e ρ h) fun x h1=>some (.rt x,h1)
def ybx (c:XT) (s u:XS):XS:=fun ρ h=>ob (c ρ h) fun k h1=>if k=true then s ρ h1 else u ρ h1
abbrev XG:=PV->PSt->Option PSt
abbrev XGs:=List PV->PSt->Option PSt
def yt (i:Nat):XG:=fun x ρ=>some (ρ.set i (.val x))
def yEM:XGs:=fun xs ρ=>match xs with|[]=>some ρ|_=>none
def yEs (g:XG) (r:XGs):XGs:=fun xs ρ=>match xs with|[]=>none|x::xs=>(g x ρ).bind fun ρ'=>r xs ρ'
def yEN (n:Nat) (g:XGs):XG:=fun x ρ=>match x with|.tup xs=>if xs.length=n then g xs ρ else none|_=>none
def ybn (e:XE) (g:XG):XS:=fun ρ h=>ob (e ρ h) fun x h1=>(g x ρ).bind fun ρ'=>some (.nx ρ',h1)
def yqf (e:XO) (i:Nat):XS:=fun ρ h=>ob (e ρ h) fun d h1=>some (.nx (ρ.set i (.own d)),h1)
def ysZ:PVar->PVar
 | .own (.lst xs)=>.val (.lst xs)
 | .own (.ins k ns xs)=>.val (.ins k ns xs)
 | v=>v
def ymq (i:Nat) (ρ:PSt):PSt:=ρ.modify i ysZ
def yzb (i:Nat) (s:XS):XS:=fun ρ h=>s (ymq i ρ) h
def ymr (i:Nat) (e:XE):XS:=fun ρ h=>match ρ[i]? with
 | some (.own (.lst xs))=>ob (e ρ h) fun x h1=>if xs.length<100000 then some (.nx (ρ.set i (.own (.lst (xs++[x])))),h1) else none
 | _=>none
def ygk (g:XG) (s:XS):List PV->PSt->AH->Option (Out×AH)
 | [],ρ,h=>some (.nx ρ,h)
 | x::xs,ρ,h=>(g x ρ).bind fun ρ1=>ob (s ρ1 h) fun o h1=>match o with|.nx ρ'=>ygk g s xs ρ' h1|.ct ρ'=>ygk g s xs ρ' h1|.bk ρ'=>some (.nx ρ',h1)|.rt y=>some (.rt y,h1)
def yqg (it:XA) (g:XG) (s:XS):XS:=fun ρ h=>ob (it ρ h) fun xs h1=>ygk g s xs ρ h1
def whl (c:XT) (s:XS):Nat->PSt->AH->Option (Out×AH)
 | 0,_,_=>none
 | n+1,ρ,h=>ob (c ρ h) fun k h1=>if k=true then ob (s ρ h1) fun o h2=>(match o with|.nx ρ'=>whl c s n ρ' h2|.ct ρ'=>whl c s n ρ' h2|.bk ρ'=>some (.nx ρ',h2)|.rt y=>some (.rt y,h2)) else some (.nx ρ,h1)
def yfa (fuel:Nat) (c:XT) (s:XS):XS:=fun ρ h=>whl c s fuel ρ h
def ybo (N:Nat) (s:XS):Fn:=fun xs h=>ob (s (xs.map .val++replicate (N-xs.length) .no) h) fun o h1=>match o with|.rt x=>some (x,h1)|.nx _=>some (.non,h1)|_=>none
def yqh (ρ:PSt) (i:Nat):PVar:=match ρ[i]? with|some (.val y)=>.val y|_=>.no
def yeX (ix:List Nat) (ρ:PSt) (x:PV):PSt:=.val x::ix.map (yqh ρ)
def yij (e:XE) (inn:PV->PSt):List PV->AH->Option (List PV×AH)
 | [],h=>some ([],h)
 | x::xs,h=>ob (e (inn x) h) fun y h1=>ob (yij e inn xs h1) fun ys h2=>some (y::ys,h2)
def yeD (it:XA) (ix:List Nat) (e:XE):XO:=fun ρ h=>ob (it ρ h) fun xs h1=>if xs.length<=100000 then ob (yij e (yeX ix ρ) xs h1) fun ys h2=>some (.lst ys,h2) else none
theorem Ends.Ok.from_ {W0 W W1:Wd}{D:Ends}{h':AH}{o:Out}(l:Lf K W W1) (k:Ends.Ok K W0 W D h' o):Ends.Ok K W0 W1 D h' o:=by
 cases o with
 | nx ρ=>exact fun W' σ' e l' g=>k W' σ' e (l.trans l') g
 | bk ρ=>exact fun W' σ' e l' g=>k W' σ' e (l.trans l') g
 | ct ρ=>exact fun W' σ' e l' g=>k W' σ' e (l.trans l') g
 | rt x=>exact k
section
variable {ta tb:TE}{ea eb:XE}{t u:TS}{s s':XS}{tA:TT}{eA:XT}
theorem yta:yeY K yyC yJ:=by
 intro W0 W ρ σ D o h' g e q
 cases e
 exact q W σ rfl .refl g
theorem ywr (a:yeY K t s) (b:yeY K u s'):yeY K (yBy t u) (ym s s'):=by
 intro W0 W ρ σ D o h' g e q
 obtain ⟨o1,h1,e1,f1⟩:=yi e
 refine a W0 W ρ σ _ o1 h1 g e1 ?_
 cases o1 with
 | nx ρ'=>exact fun W' σ' w l g'=>b W0 W' ρ' σ' D o h' g' (by rw [w];exact f1) (q.from_ l)
 | rt x=>cases f1;exact q
 | bk ρ'=>cases f1;exact q
 | ct ρ'=>cases f1;exact q
theorem ytb (a:ybR K ta ea):yeY K (ypw ta) (ybf ea):=by
 intro W0 W ρ σ D o h' g e q
 obtain ⟨x,h1,e1,f1⟩:=yi e
 cases f1
 exact a W0 W ρ σ _ x _ g e1 fun v W1 w1 l1 r1=>q W1 σ w1 l1.lf (g.step l1)
theorem yws (a:ybR K ta ea):yeY K (yDy ta) (yR ea):=by
 intro W0 W ρ σ D o h' g e q
 obtain ⟨x,h1,e1,f1⟩:=yi e
 cases f1
 exact a W0 W ρ σ _ x _ g e1 fun v W1 w1 l1 r1=>q W1 v w1 (g.le.trans l1) r1
theorem ywt (c:ykM K tA eA) (a:yeY K t s) (b:yeY K u s'):yeY K (yDz tA t u) (ybx eA s s'):=by
 intro W0 W ρ σ D o h' g e q
 obtain ⟨k,h1,e1,f1⟩:=yi e
 refine c W0 W ρ σ _ k h1 g e1 fun W1 w1 l1=>?_
 subst w1
 cases k with
 | true =>
  rw [if_pos rfl] at f1 ⊢
  exact a W0 W1 ρ σ D o h' (g.step l1) f1 (q.from_ l1.lf)
 | false =>
  rw [if_neg (by decide)] at f1 ⊢
  exact b W0 W1 ρ σ D o h' (g.step l1) f1 (q.from_ l1.lf)
theorem Good.set {W0 W:Wd}{ρ:PSt}{σ:St}(g:Good K W0 W ρ σ) (i:Nat) {x:PV}{v:V}(r:ycI K W x v):Good K W0 W (ρ.set i (.val x)) (σ.set i (some v)) where
 le:=g.le
 len:=by simp [g.len]
 val:=fun j y e=>by
  by_cases hj:i=j
  .subst hj
   by_cases hl:i<ρ.length
   .rw [getElem?_set_self hl] at e
    cases e
    exact ⟨v,getElem?_set_self (by rw [g.len];exact hl),r⟩
   .rw [getElem?_eq_none (by simp;omega)] at e;cases e
  .rw [getElem?_set_ne hj] at e
   obtain ⟨w,h1,h2⟩:=g.val j y e
   exact ⟨w,by rw [getElem?_set_ne hj];exact h1,h2⟩
 own:=fun j d e=>by
  by_cases hj:i=j
  .subst hj
   by_cases hl:i<ρ.length
   .rw [getElem?_set_self hl] at e;cases e
   .rw [getElem?_eq_none (by simp;omega)] at e;cases e
  .rw [getElem?_set_ne hj] at e
   obtain ⟨p,h1,h2⟩:=g.own j d e
   exact ⟨p,by rw [getElem?_set_ne hj];exact h1,h2⟩
 ne:=fun j k d d' hjk e1 e2=>by
  have f:∀ {j:Nat}{d:Nd},(ρ.set i (.val x))[j]?=some (.own d)->i≠j/\ρ[j]?=some (.own d):=fun {j d} e=>by
   by_cases hj:i=j
   .subst hj
    by_cases hl:i<ρ.length
    .rw [getElem?_set_self hl] at e;cases e
    .rw [getElem?_eq_none (by simp;omega)] at e;cases e
   .rw [getElem?_set_ne hj] at e;exact ⟨hj,e⟩
  obtain ⟨a1,a2⟩:=f e1
  obtain ⟨b1,b2⟩:=f e2
  rw [getElem?_set_ne a1,getElem?_set_ne b1]
  exact g.ne j k d d' hjk a2 b2
theorem Good.setO {W0 W:Wd}{ρ:PSt}{σ:St}(g:Good K W0 W ρ σ) (i:Nat) {d:Nd}{p:Addr}(hm:p∉W.m) (h0:W0.H p=none) (hd:d≠.dead) (at_:NdAt K W.F W.H W.m d p)
  (ne:∀ j d',i≠j->ρ[j]?=some (.own d')->σ[j]?≠some (some (.ref p))):Good K W0 W (ρ.set i (.own d)) (σ.set i (some (.ref p))) where
 le:=g.le
 len:=by simp [g.len]
 val:=fun j y e=>by
  by_cases hj:i=j
  .subst hj
   by_cases hl:i<ρ.length
   .rw [getElem?_set_self hl] at e;cases e
   .rw [getElem?_eq_none (by simp;omega)] at e;cases e
  .rw [getElem?_set_ne hj] at e
   obtain ⟨w,h1,h2⟩:=g.val j y e
   exact ⟨w,by rw [getElem?_set_ne hj];exact h1,h2⟩
 own:=fun j d' e=>by
  by_cases hj:i=j
  .subst hj
   by_cases hl:i<ρ.length
   .rw [getElem?_set_self hl] at e
    cases e
    exact ⟨p,getElem?_set_self (by rw [g.len];exact hl),hm,h0,hd,at_⟩
   .rw [getElem?_eq_none (by simp;omega)] at e;cases e
  .rw [getElem?_set_ne hj] at e
   obtain ⟨p,h1,h2⟩:=g.own j d' e
   exact ⟨p,by rw [getElem?_set_ne hj];exact h1,h2⟩
 ne:=fun j k d1 d2 hjk e1 e2=>by
  have self:∀ {j:Nat}{d':Nd},i=j->(ρ.set i (.own d))[j]?=some (.own d')->(σ.set i (some (.ref p)))[j]?=some (some (.ref p)):=fun {j d'} hj e=>by
   subst hj
   by_cases hl:i<ρ.length
   .exact getElem?_set_self (by rw [g.len];exact hl)
   .rw [getElem?_eq_none (by simp;omega)] at e;cases e
  by_cases hj:i=j
  .have hk:i≠k:=fun z=>hjk (hj.symm.trans z)
   rw [self hj e1,getElem?_set_ne hk]
   rw [getElem?_set_ne hk] at e2
   exact (ne k d2 hk e2).symm
  .rw [getElem?_set_ne hj]
   rw [getElem?_set_ne hj] at e1
   by_cases hk:i=k
   .rw [self hk e2]
    exact ne j d1 hj e1
   .rw [getElem?_set_ne hk] at e2 ⊢
    exact g.ne j k d1 d2 hjk e1 e2
noncomputable def yuZ (K:Ck) (g:TG) (y:XG):Prop:=∀ (W0 W:Wd) (ρ ρ':PSt) (σ:St) (x:PV) (v:V) (Q:St->Hp->Prop),Good K W0 W ρ σ->ycI K W x v->y x ρ=some ρ'->(∀ σ',Good K W0 W ρ' σ'->Q σ' W.H)->g v σ W.H Q
theorem yhq (i:Nat):yuZ K (yoz i) (yt i):=by
 intro W0 W ρ ρ' σ x v Q g r e q
 cases e
 exact q _ (g.set i r)
theorem yqi {g:TG}{y:XG}(a:ybR K ta ea) (b:yuZ K g y):yeY K (yuK ta g) (ybn ea y):=by
 intro W0 W ρ σ D o h' gd e q
 obtain ⟨x,h1,e1,f1⟩:=yi e
 obtain ⟨ρ',e2,f2⟩:=Option.bind_eq_some_iff.mp f1
 cases f2
 exact a W0 W ρ σ _ x _ gd e1 fun v W1 w1 l1 r1=>b W0 W1 ρ ρ' σ x v _ (gd.step l1) r1 e2 fun σ' g'=>q W1 σ' w1 l1.lf g'
theorem ytc {o:XO}(i:Nat) (a:ykN K ta o):yeY K (yuK ta (yoz i)) (yqf o i):=by
 intro W0 W ρ σ D o h' gd e q
 obtain ⟨d,h1,e1,f1⟩:=yi e
 cases f1
 refine a W0 W ρ σ _ d _ gd e1 fun p W1 w1 l1 hm hn hd at_=>q W1 _ w1 l1.lf ((gd.step l1).setO i hm (gd.le.fresh hn) hd at_ fun j d' hj e hs=>?_)
 obtain ⟨p',h1,h2,_,_,h5⟩:=gd.own j d' e
 rw [h1] at hs
 cases hs
 obtain ⟨o,ho⟩:=h5.some
 rw [hn] at ho;cases ho
theorem Good.frz {W0 W:Wd}{ρ:PSt}{σ:St}(g:Good K W0 W ρ σ) (i:Nat):∃ W',W'.h=W.h/\W'.H=W.H/\Lf K W W'/\Good K W0 W' (ymq i ρ) σ:=by
 unfold ymq
 cases e:ρ[i]? with
 | none=>exact ⟨W,rfl,rfl,.refl,by rw [List.modify_eq_self (by simpa using e)];exact g⟩
 | some v =>
  have hl:i<ρ.length:=(List.getElem?_eq_some_iff.mp e).1
  have em:ρ.modify i ysZ=ρ.set i (ysZ v):=by
   apply List.ext_getElem?
   intro j
   rw [List.getElem?_modify,List.getElem?_set]
   by_cases hj:i=j
   .subst hj
    obtain ⟨_,ev⟩:=List.getElem?_eq_some_iff.mp e
    simp [hl,ev]
   .simp [hj]
  have same:ysZ v=v->∃ W',W'.h=W.h/\W'.H=W.H/\Lf K W W'/\Good K W0 W' (ρ.modify i ysZ) σ:=fun z=>⟨W,rfl,rfl,.refl,by
   rw [em,z]
   have:ρ.set i v=ρ:=by
    apply List.ext_getElem?
    intro j
    by_cases hj:i=j
    .subst hj;rw [getElem?_set_self hl,e]
    .rw [getElem?_set_ne hj]
   rw [this];exact g⟩
  have go:∀ (d:Nd) (x:PV) (p:Addr) (o:HO),v=.own d->ysZ v=.val x->σ[i]?=some (some (.ref p))->p∉W.m->W0.H p=none->W.H p=some o->W.F p=none->(∀ (F':Hp),Same W.F F'->F' p=some o->Rep K F' W.m x (.ref p)) ->
    ∃ W',W'.h=W.h/\W'.H=W.H/\Lf K W W'/\Good K W0 W' (ρ.modify i ysZ) σ:=fun d x p o hv hx hs hm h0 hp hf hr=>by
   obtain ⟨k,sF⟩:=yqc (K:=K) g.ok hp hm hf
   have lf:Lf K W (ysV W p o):=⟨sF,prefix_refl _,fun _ _ _ e=>⟨e,fun _ _=>rfl⟩⟩
   refine ⟨ysV W p o,rfl,rfl,lf,⟨ymo g.le hp hm hf h0,by rw [List.length_modify];exact g.len,fun j y e'=>?_,fun j d' e'=>?_,fun j1 j2 d1 d2 hj e1 e2=>?_⟩⟩
   .rw [em,hx] at e'
    by_cases hj:i=j
    .subst hj
     rw [getElem?_set_self hl] at e'
     cases e'
     exact ⟨_,hs,hr _ sF yD⟩
    .rw [getElem?_set_ne hj] at e'
     obtain ⟨w,a1,a2⟩:=g.val j y e'
     exact ⟨w,a1,lf.rep a2⟩
   .rw [em,hx] at e'
    by_cases hj:i=j
    .subst hj
     rw [getElem?_set_self hl] at e'
     cases e'
    .rw [getElem?_set_ne hj] at e'
     obtain ⟨q,a1,a2,a3,a4,a5⟩:=g.own j d' e'
     have hq:q≠p:=fun z=>g.ne j i d' d (fun z=>hj z.symm) e' (hv ▸ e) (by rw [a1,hs,z])
     exact ⟨q,a1,a2,a3,a4,a5.mono sF (prefix_refl _) (fun _ e=>e) fun f=>(yL hq).trans f⟩
   .rw [em,hx] at e1 e2
    have f:∀ {j:Nat}{d:Nd},(ρ.set i (.val x))[j]?=some (.own d)->ρ[j]?=some (.own d):=fun {j d} e=>by
     by_cases hj:i=j
     .subst hj;rw [getElem?_set_self hl] at e;cases e
     .rw [getElem?_set_ne hj] at e;exact e
    exact g.ne j1 j2 d1 d2 hj (f e1) (f e2)
  cases v with
  | no=>exact same rfl
  | val x=>exact same rfl
  | own d =>
   obtain ⟨p,a1,a2,a3,a4,a5⟩:=g.own i d e
   cases d with
   | lst xs =>
    obtain ⟨hf,vs,hp,r⟩:=a5
    exact go _ (.lst xs) p _ rfl rfl a1 a2 a3 hp hf fun F' s hF=>⟨p,vs,rfl,hF,RepL.mono s (prefix_refl _) _ _ r⟩
   | dct ks xs=>exact same rfl
   | fz ks xs=>exact same rfl
   | ins k ns xs =>
    obtain ⟨hf,dx,vs,hp,hl,r⟩:=a5
    exact go _ (.ins k ns xs) p _ rfl rfl a1 a2 a3 hp hf fun F' s hF=>⟨p,dx,vs,rfl,hF,hl,RepL.mono s (prefix_refl _) _ _ r⟩
   | dead=>exact same rfl
theorem ywu (i:Nat) (a:yeY K t s):yeY K t (yzb i s):=by
 intro W0 W ρ σ D o h' g e q
 obtain ⟨W',e1,e2,l,g'⟩:=g.frz i
 rw [<- e2]
 exact a W0 W' _ σ D o h' g' (by rw [e1];exact e) (q.from_ l)
end
end PX
namespace PX
open PySem L2
variable {K:Ck}
section
variable {ta tb:TE}{ea eb:XE}{t u:TS}{s s':XS}{tA:TT}{eA:XT}
def yqj (W:Wd) (p:Addr) (o:HO):Wd:=⟨W.F,upd W.H p o,W.m,W.h⟩
theorem ywv {W:Wd}{p:Addr}{o:HO}(w:WOk K W) (hm:p∉W.m) (hf:W.F p=none):WOk K (yqj W p o):=by
 refine ⟨fun b u e=>?_,w.len,w.nd,fun n d a e1 e2=>?_⟩
 .have:b≠p:=ybw e hf
  exact (yL this).trans (w.le _ _ e)
 .have ha:a≠p:=fun z=>hm (z ▸ mem_of_getElem? e2)
  exact (w.at_ n d a e1 e2).mono (Same.refl _) (prefix_refl _) (fun u e=>(yL ha).trans e) id
theorem yhr {W W1:Wd}{p:Addr}{o:HO}(l:Le K W W1) (hm:p∉W1.m) (hf:W1.F p=none) (hn:W.H p=none):Le K W (yqj W1 p o) :=
 ⟨ywv l.ok hm hf,l.fs,l.pre,fun b u e n=>(yL (ybw e hn)).trans (l.keep b u e n),l.new,l.mn,fun n ks xs e1=>⟨(l.fz n ks xs e1).1,fun a e2=>(yL (fun (z:a=p)=>hm (z ▸ mem_of_getElem? (yej l.pre e2)))).trans ((l.fz n ks xs e1).2 a e2)⟩⟩
theorem yqk {W W1:Wd}{p:Addr}{o:HO}(l:Le K W W1) (hm:p∉W1.m):Lf K W (yqj W1 p o) :=
 ⟨l.fs,l.pre,fun n ks xs e1=>⟨(l.fz n ks xs e1).1,fun a e2=>(yL (fun (z:a=p)=>hm (z ▸ mem_of_getElem? (yej l.pre e2)))).trans ((l.fz n ks xs e1).2 a e2)⟩⟩
theorem Good.mut {W0 W:Wd}{ρ:PSt}{σ:St}(g:Good K W0 W ρ σ) {i:Nat}{d d':Nd}{p:Addr}{o:HO}(e:ρ[i]?=some (.own d)) (hs:σ[i]?=some (some (.ref p))) (hm:p∉W.m) (h0:W0.H p=none) (hf:W.F p=none) (hd:d'≠.dead)
  (at_:NdAt K W.F (upd W.H p o) W.m d' p):Good K W0 (yqj W p o) (ρ.set i (.own d')) σ:=by
 have hl:i<ρ.length:=(List.getElem?_eq_some_iff.mp e).1
 refine ⟨yhr g.le hm hf h0,by rw [length_set];exact g.len,fun j y e'=>?_,fun j d1 e'=>?_,fun j1 j2 d1 d2 hj e1 e2=>?_⟩
 .by_cases hj:i=j
  .subst hj;rw [getElem?_set_self hl] at e';cases e'
  .rw [getElem?_set_ne hj] at e';exact g.val j y e'
 .by_cases hj:i=j
  .subst hj;rw [getElem?_set_self hl] at e';cases e';exact ⟨p,hs,hm,h0,hd,at_⟩
  .rw [getElem?_set_ne hj] at e'
   obtain ⟨q,a1,a2,a3,a4,a5⟩:=g.own j d1 e'
   have hq:q≠p:=fun z=>g.ne j i d1 d (fun z=>hj z.symm) e' e (by rw [a1,hs,z])
   exact ⟨q,a1,a2,a3,a4,a5.mono (Same.refl _) (prefix_refl _) (fun u e=>(yL hq).trans e) id⟩
 .have f:∀ {j:Nat}{d1:Nd},(ρ.set i (.own d'))[j]?=some (.own d1)->∃ d2,ρ[j]?=some (.own d2):=fun {j d1} e'=>by
   by_cases hj:i=j
   .subst hj;exact ⟨d,e⟩
   .rw [getElem?_set_ne hj] at e';exact ⟨_,e'⟩
  obtain ⟨_,f1⟩:=f e1
  obtain ⟨_,f2⟩:=f e2
  exact g.ne j1 j2 _ _ hj f1 f2
theorem big {n:Nat}(h:n<100000):n<sizeLine:=lt_of_lt_of_le h (by decide)
theorem yww {n:Nat}(h:n<=100000):n<=sizeLine:=Nat.le_trans h (by decide)
theorem ytd (i:Nat) (a:ybR K ta ea):yeY K (ypw (tBM K.K "list" ylX (ypn i) (ylT ta ysD))) (ymr i ea):=by
 intro W0 W ρ σ D o h' g e q
 unfold ymr at e
 split at e
 .rename_i xs0 hx
  obtain ⟨x,h1,e1,f1⟩:=yi e
  split at f1
  .rename_i hlen
   cases f1
   obtain ⟨p,a1,a2,a3,a4,hf,vs,hp,r⟩:=g.own i _ hx
   refine ⟨.ref p,a1,.inl ⟨rfl,_,SqL.of hp⟩,?_⟩
   refine a W0 W ρ σ _ x _ g e1 fun v W1 w1 l1 r1=>⟨p,vs,v,rfl,rfl,l1.keep _ _ hp a2,by rw [r.len];exact big hlen,?_⟩
   have g1:=g.step l1
   obtain ⟨p',b1,b2,b3,b4,b5,vs',b6,b7⟩:=g1.own i _ hx
   rw [a1] at b1
   cases b1
   rw [l1.keep _ _ hp a2] at b6
   cases b6
   exact q (yqj W1 p (.lst (vs++[v]))) σ w1 (yqk l1 b2) (g1.mut hx a1 b2 b3 b5 (fun z=>by cases z) ⟨b5,_,yD,b7.snoc r1⟩)
  .cases f1
 .cases e
structure yBX (K:Ck) (W:Wd) (J:It) (xs:List PV):Prop where
 go:∀ (i:Nat) (W':Wd),Lf K W W'->WOk K W'->i<xs.length->J.go i W'.H
 yld:∀ (i:Nat) (W':Wd) (v:V) (H2:Hp),Lf K W W'->WOk K W'->i<xs.length->J.yld i W'.H v H2->H2=W'.H/\∃ x,xs[i]?=some x/\ycI K W' x v
 stop:∀ (W':Wd),Lf K W W'->WOk K W'->J.stop xs.length W'.H
noncomputable def yva (K:Ck) (wi:TI) (e:XA):Prop:=∀ (W0 W:Wd) (ρ:PSt) (σ:St) (R:It->Hp->Prop) (xs:List PV) (h':AH),Good K W0 W ρ σ->e ρ W.h=some (xs,h')->(∀ J W',W'.h=h'->Le K W W'->yBX K W' J xs->R J W'.H)->wi σ W.H R
def xIL (e:XE):XA:=fun ρ h=>ob (e ρ h) fun x h1=>match x with|.lst xs=>some (xs,h1)|.scr ns=>some (ns.map .int,h1)|_=>none
def sgn (c:Nat):PV:=.str ⟨#[c]⟩
def xIS (e:XE):XA:=fun ρ h=>ob (e ρ h) fun x h1=>match x with|.str z=>if z.length<=100000 then some (z.cps.toList.map sgn,h1) else none|_=>none
def ygh (lo:Int) (n:Nat):List PV:=(List.range n).map fun (k:Nat)=>.int (lo+(k:Int))
def yms (a:XA):XA:=fun ρ h=>ob (a ρ h) fun xs h1=>match xs with|[.int j]=>if -1000000000<=j/\j<=1000000000 then some (ygh 0 j.toNat,h1) else none|_=>none
theorem yfo {W:Wd}(w:WOk K W) {a:Addr}{vs:List V}(h:SqL K.K W.F a vs):SqL K.K W.H a vs:=Same.seq w.le h
theorem ydj {W:Wd}(w:WOk K W) {a:Addr}{vs:List V}(h:TpAt K.K W.F a vs):SqT K.K W.H a vs:=h.elim (fun h=>SqT.of (w.le _ _ h)) .inr
theorem yql (a:ybR K ta ea):yva K (ysw K.K ta) (xIL ea):=by
 intro W0 W ρ σ R xs h' g e q
 obtain ⟨x,h1,e1,f1⟩:=yi e
 refine a W0 W ρ σ _ x h1 g e1 fun v W1 w1 l1 r1=>?_
 have key:∀ (a:Addr) (vs:List V),v=.ref a->SqL K.K W1.F a vs->RepL K W1.F W1.m xs vs->h1=h'->∃ a,v=.ref a/\(∃ xs,SqL K.K W1.H a xs)/\R (Itl K.K a) W1.H:=fun a vs ev hs rs eh=>by
  subst eh
  refine ⟨a,ev,⟨vs,yfo l1.ok hs⟩,q _ W1 w1 l1 ⟨fun i W' l w hi=>?_,fun i W' v' H2 l w hi hy=>?_,fun W' l w=>?_⟩⟩
  .obtain ⟨v',h1,_⟩:=rs.get (List.getElem?_eq_getElem hi)
   exact ⟨vs,v',yfo w (Same.seq l.fs hs),h1⟩
  .obtain ⟨h1,h2⟩:=hy
   have:=h2 vs (yfo w (Same.seq l.fs hs))
   obtain ⟨x,h3,h4⟩:=rs.get' this
   exact ⟨h1,x,h3,l.rep h4⟩
  .exact ⟨vs,yfo w (Same.seq l.fs hs),by rw [rs.len];exact Nat.le_refl _⟩
 split at f1
 .cases f1
  obtain ⟨a,vs,ev,hs,rs⟩:=r1
  exact key a vs ev (SqL.of hs) rs rfl
 .rename_i ns
  cases f1
  obtain ⟨a,ev,hs⟩:=r1
  exact key a _ ev hs (RepL.of_ints ns) rfl
 .cases f1
theorem yte (a:ybR K ta ea):yva K (yDS ta) (xIS ea):=by
 intro W0 W ρ σ R xs h' g e q
 obtain ⟨x,h1,e1,f1⟩:=yi e
 refine a W0 W ρ σ _ x h1 g e1 fun v W1 w1 l1 r1=>?_
 split at f1
 .rename_i z
  split at f1
  .rename_i hz
   cases f1
   have hl:z.length=z.cps.toList.length:=by simp [Str.length]
   refine ⟨z,r1,yww hz,q _ W1 w1 l1 ⟨fun i W' l w hi=>?_,fun i W' v' H2 l w hi hy=>?_,fun W' l w=>?_⟩⟩
   .show i<z.length
    rw [hl];simpa using hi
   .obtain ⟨h1,c,h2,h3⟩:=hy
    exact ⟨h1,sgn c,by rw [getElem?_map,h2];rfl,h3⟩
   .show _=z.length
    rw [hl];simp
  .cases f1
 .cases f1
theorem yzc (W:Wd) (lo:Int) (n:Nat):yBX K W (Itr lo n) (ygh lo n):=by
 refine ⟨fun i W' l w hi=>?_,fun i W' v' H2 l w hi hy=>?_,fun W' l w=>?_⟩
 .show i<n
  simpa [ygh] using hi
 .obtain ⟨h1,h2⟩:=hy
  have hi:i<n:=by simpa [ygh] using hi
  exact ⟨h1,.int (lo+(i:Int)),by simp [ygh,hi],h2⟩
 .show n<=_
  simp [ygh]
theorem yqm {t:TA}{e:XA}(a:ylK K t e):yva K (yyG t) (yms e):=by
 intro W0 W ρ σ R xs h' g e q
 obtain ⟨ys,h1,e1,f1⟩:=yi e
 split at f1
 .rename_i j
  split at f1
  .rename_i hj
   cases f1
   refine a W0 W ρ σ _ _ _ g e1 fun vs W1 w1 l1 r1=>?_
   obtain ⟨v,r,rfl,rv,rr⟩:=r1
   obtain rfl:r=[]:=rr
   exact ⟨j,by rw [show v=.int j from rv],by omega,by omega,q _ W1 w1 l1 (yzc W1 0 _)⟩
  .cases f1
 .cases f1
theorem ywx {wi:TI}{it:XA}{g:TG}{y:XG}(a:yva K wi it) (b:yuZ K g y) (c:yeY K t s):yeY K (yBk wi g t) (yqg it y s):=by
 intro W0 W ρ σ D o h' gd e q
 obtain ⟨xs,h1,e1,f1⟩:=yi e
 refine a W0 W ρ σ _ xs h1 gd e1 fun J W1 w1 l1 J1=>?_
 subst w1
 have q1:=q.from_ l1.lf
 refine ⟨fun i m σ H=>m=xs.length-i/\i<=xs.length/\∃ W' ρ',W'.H=H/\Lf K W1 W'/\Good K W0 W' ρ' σ/\ygk y s (xs.drop i) ρ' W'.h=some (o,h'),⟨_,rfl,zero_le _,W1,ρ,rfl,.refl,gd.step l1,by simpa using f1⟩,?_⟩
 rintro i m σ _ ⟨rfl,hi,W',ρ',rfl,l,g',f⟩
 by_cases hlt:i<xs.length
 .rw [List.drop_eq_getElem_cons hlt] at f
  obtain ⟨ρ1,k1,f⟩:=Option.bind_eq_some_iff.mp f
  obtain ⟨o1,h2,k2,f3⟩:=yi f
  refine .inr ⟨J1.go i W' l g'.ok hlt,fun σ2 H2=>i+1<=xs.length/\∃ W2 ρ2,W2.H=H2/\Lf K W1 W2/\Good K W0 W2 ρ2 σ2/\ygk y s (xs.drop (i+1)) ρ2 W2.h=some (o,h'),fun σ2 H2 ⟨n1,n2⟩=>⟨xs.length-(i+1),by omega,rfl,n1,n2⟩,fun v H2 hy=>?_⟩
  obtain ⟨rfl,x,hx,rx⟩:=J1.yld i W' v H2 l g'.ok hlt hy
  rw [List.getElem?_eq_getElem hlt] at hx
  cases hx
  refine b W0 W' ρ' ρ1 σ _ v _ g' rx k1 fun σ2 g2=>?_
  refine c W0 W' ρ1 σ2 _ o1 h2 g2 k2 ?_
  cases o1 with
  | nx ρ2=>exact fun W2 σ3 w2 l2 g3=>⟨hlt,W2,ρ2,rfl,l.trans l2,g3,by rw [w2];exact f3⟩
  | ct ρ2=>exact fun W2 σ3 w2 l2 g3=>⟨hlt,W2,ρ2,rfl,l.trans l2,g3,by rw [w2];exact f3⟩
  | bk ρ2=>cases f3;exact fun W2 σ3 w2 l2 g3=>q1 W2 σ3 w2 (l.trans l2) g3
  | rt x=>cases f3;exact q1
 .have ei:i=xs.length:=by omega
  subst ei
  refine .inl ⟨J1.stop W' l g'.ok,?_⟩
  rw [List.drop_length] at f
  cases f
  exact q1 W' σ rfl l g'
theorem yqn (n:Nat) (c:ykM K tA eA) (a:yeY K t s):yeY K (yuM tA t) (yfa n eA s):=by
 intro W0 W ρ σ D o h' gd e q
 refine ⟨fun m σ H=>∃ W' ρ',W'.H=H/\Lf K W W'/\Good K W0 W' ρ' σ/\whl eA s m ρ' W'.h=some (o,h'),⟨n,W,ρ,rfl,.refl,gd,e⟩,?_⟩
 rintro m σ _ ⟨W',ρ',rfl,l,g',f⟩
 cases m with
 | zero=>cases f
 | succ m =>
  obtain ⟨k,h1,e1,f1⟩:=yi f
  refine c W0 W' ρ' σ _ k h1 g' e1 fun W1 w1 l1=>?_
  subst w1
  cases k with
  | false =>
   rw [if_neg (by decide)] at f1 ⊢
   cases f1
   exact q W1 σ rfl (l.trans l1.lf) (g'.step l1)
  | true =>
   rw [if_pos rfl] at f1 ⊢
   obtain ⟨o1,h2,k2,f3⟩:=yi f1
   refine ⟨fun σ2 H2=>∃ W2 ρ2,W2.H=H2/\Lf K W W2/\Good K W0 W2 ρ2 σ2/\whl eA s m ρ2 W2.h=some (o,h'),fun σ2 H2 z=>⟨m,Nat.lt_succ_self _,z⟩,?_⟩
   refine a W0 W1 ρ' σ _ o1 h2 (g'.step l1) k2 ?_
   have l':=l.trans l1.lf
   cases o1 with
   | nx ρ2=>exact fun W2 σ3 w2 l2 g3=>⟨W2,ρ2,rfl,l'.trans l2,g3,by rw [w2];exact f3⟩
   | ct ρ2=>exact fun W2 σ3 w2 l2 g3=>⟨W2,ρ2,rfl,l'.trans l2,g3,by rw [w2];exact f3⟩
   | bk ρ2=>cases f3;exact fun W2 σ3 w2 l2 g3=>q W2 σ3 w2 (l'.trans l2) g3
   | rt x=>cases f3;exact q
theorem ymt {e:XE}{inn:PV->PSt}:∀ {xs:List PV}{h:AH}{ys:List PV}{h':AH},yij e inn xs h=some (ys,h')->ys.length=xs.length
 | [],_,_,_,e=>by cases e;rfl
 | x::xs,_,_,_,e=>by
  obtain ⟨y,h1,e1,f1⟩:=yi e
  obtain ⟨ys,h2,e2,f2⟩:=yi f1
  cases f2
  rw [length_cons,length_cons,ymt e2]
theorem yfH {W0 W W':Wd}{ρ:PSt}{σ:St}(g:Good K W0 W ρ σ) (l:Le K W W') (ix:List Nat) {x:PV}{v:V}(r:ycI K W' x v):Good K W' W' (yeX ix ρ x) (inner ix σ v) where
 le:=.refl l.ok
 len:=by simp [yeX,inner]
 val:=fun j y e=>by
  cases j with
  | zero=>simp [yeX] at e;subst e;exact ⟨v,rfl,r⟩
  | succ j =>
   have e:(ix.map (yqh ρ))[j]?=some (.val y):=e
   rw [getElem?_map] at e
   cases ei:ix[j]? with
   | none=>rw [ei] at e;cases e
   | some i =>
    rw [ei] at e
    have e:yqh ρ i=.val y:=Option.some.inj e
    unfold yqh at e
    split at e
    .rename_i z hz
     cases e
     obtain ⟨w,h1,h2⟩:=g.val i _ hz
     exact ⟨w,by show (ix.map fun i=>(σ[i]?).getD none)[j]?=_;rw [getElem?_map,ei];simp [h1],l.rep h2⟩
    .cases e
 own:=fun j d e=>by
  cases j with
  | zero=>simp [yeX] at e
  | succ j =>
   have e:(ix.map (yqh ρ))[j]?=some (.own d):=e
   rw [getElem?_map] at e
   cases ei:ix[j]? with
   | none=>rw [ei] at e;cases e
   | some i =>
    rw [ei] at e
    have e:yqh ρ i=.own d:=Option.some.inj e
    unfold yqh at e
    split at e<;>cases e
 ne:=fun j k d d' _ e _=>by
  cases j with
  | zero=>simp [yeX] at e
  | succ j =>
   have e:(ix.map (yqh ρ))[j]?=some (.own d):=e
   rw [getElem?_map] at e
   cases ei:ix[j]? with
   | none=>rw [ei] at e;cases e
   | some i =>
    rw [ei] at e
    have e:yqh ρ i=.own d:=Option.some.inj e
    unfold yqh at e
    split at e<;>cases e
theorem ynF {wi:TI}{it:XA}(ix:List Nat) (a:yva K wi it) (b:ybR K ta ea):ykN K (yoI wi ix ta) (yeD it ix ea):=by
 intro W0 W ρ σ Q d h' gd e q
 obtain ⟨xs,h1,e1,f1⟩:=yi e
 split at f1
 .rename_i hlen
  obtain ⟨zs,h2,e2,f2⟩:=yi f1
  cases f2
  have hz:=ymt e2
  refine a W0 W ρ σ _ xs h1 gd e1 fun J W1 w1 l1 J1=>?_
  subst w1
  intro D hD
  have nm:=l1.ok.out hD
  have nf:=l1.ok.ff hD
  refine ⟨fun i m H=>m=xs.length-i/\i<=xs.length/\∃ W' acc done rest,W'.H=H/\Le K W1 W'/\D∉W'.m/\W'.F D=none/\H D=some (.lst acc)/\ycJ K W' done acc/\done.length=i/\zs=done++rest/\yij ea (yeX ix ρ) (xs.drop i) W'.h=some (rest,h'),⟨_,rfl,zero_le _,ygg W1 D (.lst []),[],[],zs,rfl,ycA l1.ok hD,nm,nf,yD,rfl,rfl,rfl,by rw [List.drop_zero];exact e2⟩,?_⟩
  rintro i m _ ⟨rfl,hi,W',acc,done,rest,rfl,l,n1,n2,hd,rd,ld,ez,f⟩
  by_cases hlt:i<xs.length
  .rw [List.drop_eq_getElem_cons hlt] at f
   obtain ⟨y,h3,k1,f3⟩:=yi f
   obtain ⟨ys,h4,k2,f4⟩:=yi f3
   cases f4
   refine .inr ⟨J1.go i W' l.lf l.ok hlt,fun v H2 hy=>?_⟩
   obtain ⟨rfl,x,hx,rx⟩:=J1.yld i W' v H2 l.lf l.ok hlt hy
   rw [List.getElem?_eq_getElem hlt] at hx
   cases hx
   refine b W' W' _ _ _ y h3 (yfH gd (l1.trans l) ix rx) k1 fun w W2 w2 l2 r2=>?_
   obtain ⟨o2,n2'⟩:∃ o,W'.H D=some o:=⟨_,hd⟩
   have nm2:D∉W2.m:=fun z=>by rw [l2.mn D z n1] at hd;cases hd
   have nf2:W2.F D=none:=l2.new D _ hd n1 n2
   refine ⟨acc,l2.keep _ _ hd n1,?_,xs.length-(i+1),by omega,rfl,hlt,yqj W2 D (.lst (acc++[w])),acc++[w],done++[y],ys,rfl,yhr (l.trans l2) nm2 nf2 hD,nm2,nf2,yD,(l2.repL rd).snoc r2,by simp [ld],by simp [ez],?_⟩
   .rw [rd.len,ld];exact big (by omega)
   .show yij ea (yeX ix ρ) (xs.drop (i+1)) W2.h=some (ys,h')
    rw [w2];exact k2
  .have ei:i=xs.length:=by omega
   subst ei
   rw [List.drop_length] at f
   cases f
   refine .inl ⟨J1.stop W' l.lf l.ok,?_⟩
   rw [append_nil] at ez
   subst ez
   exact q D W' rfl (l1.trans l) n1 (l1.fresh hD) (fun z=>by cases z) ⟨n2,acc,hd,rd⟩
 .cases f1
theorem ygl {W:Wd}(w:WOk K W) {N:List Str}{xs:List PV}{vs:List V}(r:ycJ K W xs vs):Good K W W (xs.map .val++replicate (N.length-xs.length) .no) (L2.start N vs) where
 le:=.refl w
 len:=by simp [L2.start,r.len]
 val:=fun j y e=>by
  by_cases hj:j<xs.length
  .rw [getElem?_append_left (by simpa using hj),getElem?_map,List.getElem?_eq_getElem hj] at e
   cases e
   obtain ⟨v,h1,h2⟩:=r.get (List.getElem?_eq_getElem hj)
   refine ⟨v,?_,h2⟩
   unfold L2.start
   rw [getElem?_append_left (by simp [r.len,hj]),getElem?_map,h1];rfl
  .rw [getElem?_append_right (by simp;omega),getElem?_replicate] at e
   split at e<;>cases e
 own:=fun j d e=>by
  by_cases hj:j<xs.length
  .rw [getElem?_append_left (by simpa using hj),getElem?_map,List.getElem?_eq_getElem hj] at e
   cases e
  .rw [getElem?_append_right (by simp;omega),getElem?_replicate] at e
   split at e<;>cases e
 ne:=fun j k d d' _ e _=>by
  by_cases hj:j<xs.length
  .rw [getElem?_append_left (by simpa using hj),getElem?_map,List.getElem?_eq_getElem hj] at e
   cases e
  .rw [getElem?_append_right (by simp;omega),getElem?_replicate] at e
   split at e<;>cases e
theorem ytf {N:List Str}{n:Nat}{vs:List V}{H:Hp}{Q:VK}{E:XK}{bk ct:St->Hp->Prop}(a:yeY K t s) (h:spE K n (ybo N.length s) vs H Q E):t ⟨fun _ H'=>Q .non H',Q,bk,ct⟩ (L2.start N vs) H:=by
 obtain ⟨W,xs,x,h',rfl,w,r,_,e,q⟩:=h
 obtain ⟨o,h1,e1,f1⟩:=yi e
 refine a W W _ _ _ o h1 (ygl w r) e1 ?_
 cases o with
 | rt y=>cases f1;exact fun W' v ew l rv=>q v W' ew l rv
 | nx ρ=>cases f1;exact fun W' σ' ew _ g=>q .non W' ew g.le rfl
 | bk ρ=>cases f1
 | ct ρ=>cases f1
theorem ywy {n:Nat}{f:Fn}{vs:List V}{H:Hp}{Q:VK}{E:XK}(h:spE K n f vs H Q E):vs.length=n:=by
 obtain ⟨W,xs,x,h',rfl,w,r,hn,_⟩:=h
 rw [r.len,hn]
end
end PX
namespace PX
open PySem L2
variable {K:Ck}
def oI (g:Int->Int->PV):P2:=fun x y h=>match x,y with|.int i,.int j=>some (g i j,h)|_,_=>none
noncomputable def oIc (C:Int->Int->Prop) [∀ i j,Decidable (C i j)] (g:Int->Int->PV):P2:=fun x y h=>match x,y with|.int i,.int j=>if C i j then some (g i j,h) else none|_,_=>none
abbrev ydp:P2:=oI fun i j=>.int (i+j)
abbrev ysn:P2:=oI fun i j=>.int (i-j)
noncomputable def MulOk (i j:Int):Prop:=(-18446744073709551616<i/\i<18446744073709551616)\/(-18446744073709551616<j/\j<18446744073709551616)
instance (i j:Int):Decidable (MulOk i j):=by unfold MulOk;infer_instance
def yqo (i j:Int):Prop:=(0<=i/\i<18446744073709551616)/\0<=j/\j<=1000000
instance (i j:Int):Decidable (yqo i j):=by unfold yqo;infer_instance
abbrev yzd:P2:=oIc MulOk fun i j=>.int (i*j)
abbrev oDiv:P2:=oIc (fun _ j=>0<j/\j<1073741824) fun i j=>.int (i/j)
abbrev oMod:P2:=oIc (fun _ j=>0<j) fun i j=>.int (i%j)
abbrev yBY:P2:=oIc yqo fun i j=>.int (i ^ j.toNat)
abbrev oLt:P2:=oI fun i j=>.bl (decide (i<j))
abbrev oLe:P2:=oI fun i j=>.bl (decide (i<=j))
abbrev oGt:P2:=oI fun i j=>.bl (decide (j<i))
abbrev oGe:P2:=oI fun i j=>.bl (decide (j<=i))
abbrev yvb:PV->AH->Option (PV×AH):=fun x h=>match x with|.int i=>some (.int (-i),h)|_=>none
theorem yyb {g:Int->Int->PV}{gV:Int->Int->V}(h:∀ (W:Wd) i j,ycI K W (g i j) (gV i j)):ych K (rI0 gV) (oI g):=by
 intro W x y v u Q z h' w rx ry e q
 unfold oI at e
 split at e
 .rename_i i j
  cases e
  exact ⟨i,j,rx,ry,q _ W rfl (.refl w) (h W i j)⟩
 .cases e
theorem ytg {C:Int->Int->Prop} [∀ i j,Decidable (C i j)] {C':Int->Int->Prop}{g:Int->Int->PV}{gV:Int->Int->V}(hc:∀ i j,C i j->C' i j) (h:∀ (W:Wd) i j,ycI K W (g i j) (gV i j)):ych K (rI C' gV) (oIc C g):=by
 intro W x y v u Q z h' w rx ry e q
 unfold oIc at e
 split at e
 .rename_i i j
  split at e
  .rename_i c
   cases e
   exact ⟨i,j,rx,ry,hc i j c,q _ W rfl (.refl w) (h W i j)⟩
  .cases e
 .cases e
theorem ybT:ych K yBK ydp:=yyb fun _ _ _=>rfl
theorem ymu:ych K yBL ysn:=yyb fun _ _ _=>rfl
theorem yth:ych K yBM yzd:=ytg (fun i j h=>by unfold CMul;rw [show (2:Int) ^ 64=18446744073709551616 by decide];exact h) fun _ _ _=>rfl
theorem ymv:ych K yBN oDiv:=ytg (fun i j h=>h) fun _ _ _=>rfl
theorem ydV:ych K yBO oMod:=ytg (fun i j h=>h) fun _ _ _=>rfl
theorem yze:ych K yBP yBY:=ytg (fun i j h=>by unfold yBD;rw [show 2 ^ 64=18446744073709551616 by decide];unfold yqo at h;omega) fun _ _ _=>rfl
theorem ywz:ych K yEn oLt:=yyb fun _ _ _=>rfl
theorem yso:ych K yEo oLe:=yyb fun _ _ _=>rfl
theorem yBn:ych K yEp oGt:=yyb fun _ _ _=>rfl
theorem yEt:ych K yEq oGe:=yyb fun _ _ _=>rfl
theorem yqp:ywe K yBQ yvb:=by
 intro W x v Q z h' w rx e q
 unfold yvb at e
 split at e
 .rename_i i
  cases e
  exact ⟨i,rx,q _ W rfl (.refl w) rfl⟩
 .cases e
def sv:PV->Option V
 | .non=>some .non
 | .bl b=>some (.bl b)
 | .int i=>some (.int i)
 | .str s=>some (.str s)
 | _=>none
theorem yfb {W:Wd}{x:PV}{v u:V}(e:sv x=some u) (r:ycI K W x v):v=u:=by
 cases x<;>cases e<;>exact r
def oEq:P2:=fun x y h=>match sv x,sv y with|some v,some u=>if yuO v u=true then some (.bl (decide (v=u)),h) else none|_,_=>none
def oNe:P2:=fun x y h=>match sv x,sv y with|some v,some u=>if yuO v u=true then some (.bl (!decide (v=u)),h) else none|_,_=>none
theorem ycq:ych K rEq oEq:=by
 intro W x y v u Q z h' w rx ry e q
 unfold oEq at e
 split at e
 .rename_i v' u' e1 e2
  obtain rfl:=yfb e1 rx
  obtain rfl:=yfb e2 ry
  split at e
  .rename_i c
   cases e
   exact ⟨c,q _ W rfl (.refl w) rfl⟩
  .cases e
 .cases e
theorem yyc:ych K rNe oNe:=by
 intro W x y v u Q z h' w rx ry e q
 unfold oNe at e
 split at e
 .rename_i v' u' e1 e2
  obtain rfl:=yfb e1 rx
  obtain rfl:=yfb e2 ry
  split at e
  .rename_i c
   cases e
   exact ⟨c,q _ W rfl (.refl w) rfl⟩
  .cases e
 .cases e
def isN:PV->Bool
 | .non=>true
 | _=>false
def ywA:P2:=fun x y h=>match y with|.non=>some (.bl (isN x),h)|_=>none
def yti:P2:=fun x y h=>match y with|.non=>some (.bl (!isN x),h)|_=>none
theorem yqq {W:Wd}{x:PV}{v:V}(r:ycI K W x v):decide (v=.non)=isN x:=by
 cases x with
 | non=>rw [show v=.non from r];rfl
 | bl b=>rw [show v=.bl b from r];rfl
 | int b=>rw [show v=.int b from r];rfl
 | str b=>rw [show v=.str b from r];rfl
 | ty b=>rw [show v=.ty b from r];rfl
 | cls b=>rw [show v=.ref _ from r];rfl
 | scr b=>obtain ⟨a,e,_⟩:=r;rw [e];rfl
 | lst b=>obtain ⟨a,_,e,_⟩:=r;rw [e];rfl
 | tup b=>obtain ⟨a,_,e,_⟩:=r;rw [e];rfl
 | ins k n b=>obtain ⟨a,_,_,e,_⟩:=r;rw [e];rfl
 | loc n=>obtain ⟨a,e,_⟩:=r;rw [e];rfl
 | exc n=>obtain ⟨a,e,_⟩:=r;rw [e];rfl
 | xcl n=>rw [show v=.ref _ from r];rfl
theorem ytj:ych K yEr ywA:=by
 intro W x y v u Q z h' w rx ry e q
 unfold ywA at e
 split at e
 .cases e
  exact ⟨ry,by rw [yqq rx];exact q _ W rfl (.refl w) rfl⟩
 .cases e
theorem yzf:ych K yBS yti:=by
 intro W x y v u Q z h' w rx ry e q
 unfold yti at e
 split at e
 .cases e
  exact ⟨ry,by rw [yqq rx];exact q _ W rfl (.refl w) rfl⟩
 .cases e
noncomputable def yek:P2:=fun x y h=>match x,y with|.str i,.str j=>if i.length+j.length<=100000 then some (.str (i++j),h) else none|_,_=>none
theorem yeE:ych K yBR yek:=by
 intro W x y v u Q z h' w rx ry e q
 unfold yek at e
 split at e
 .rename_i i j
  split at e
  .rename_i c
   cases e
   exact ⟨i,j,rx,ry,yww c,q _ W rfl (.refl w) rfl⟩
  .cases e
 .cases e
noncomputable def yBo:P2:=fun x y h=>match x,y with|.str s,.str j=>(match s.cps.toList with|[c]=>some (.bl (decide (c∈j.cps.toList)),h)|_=>none)|_,_=>none
theorem one_sign {s:Str}{c:Nat}(h:s.cps.toList=[c]):s=⟨#[c]⟩:=by
 obtain ⟨⟨l⟩⟩:=s
 have:l=[c]:=h
 rw [this]
theorem yzg:ych K yDP yBo:=by
 intro W x y v u Q z h' w rx ry e q
 unfold yBo at e
 split at e
 .rename_i s j
  split at e
  .rename_i c hc
   cases e
   exact ⟨c,j,by rw [<- one_sign hc];exact rx,ry,q _ W rfl (.refl w) rfl⟩
  .cases e
 .cases e
def ycu:P2:=fun x y h=>match y with
 | .int i=>(match x with
  | .lst xs=>(match atI xs i with|some v=>some (v,h)|none=>none)
  | .scr ns=>(match atI ns i with|some v=>some (.int v,h)|none=>none)
  | .loc n=>(match h[n]? with|some (.lst xs)=>(match atI xs i with|some v=>some (v,h)|none=>none)|_=>none)
  | _=>none)
 | _=>none
def ybb:P2:=fun x y h=>match x,y with|.tup xs,.int i=>(match atI xs i with|some v=>some (v,h)|none=>none)|_,_=>none
def yzh:P2:=fun x y h=>match x,y with|.str s,.int i=>(match atI s.cps.toList i with|some c=>if s.length<=100000 then some (sgn c,h) else none|none=>none)|_,_=>none
theorem RepL.at {F:Hp}{m:List Addr}{xs:List PV}{vs:List V}(r:RepL K F m xs vs) {i:Int}{x:PV}(e:atI xs i=some x):∃ v,atI vs i=some v/\Rep K F m x v:=by
 unfold atI at e ⊢
 rw [r.len]
 obtain ⟨j,e1,e2⟩:=Option.bind_eq_some_iff.mp e
 rw [e1]
 exact r.get e2
theorem WOk.loc {W:Wd}(w:WOk K W) {n:Nat}{d:Nd}{v:V}(e:W.h[n]?=Option.some d) (r:ycI K W (.loc n) v):∃ a,v=.ref a/\W.m[n]?=Option.some a/\NdAt K W.F W.H W.m d a:=by
 obtain ⟨a,ea,h⟩:=r
 exact ⟨a,ea,h,w.at_ n d a e h⟩
theorem ycL:ych K (yDH K.K) ycu:=by
 intro W x y v u Q z h' w rx ry e q
 unfold ycu at e
 split at e
 .rename_i i
  split at e
  .rename_i xs
   split at e
   .rename_i y hy
    cases e
    obtain ⟨a,vs,ev,hs,rs⟩:=rx
    obtain ⟨v',h1,h2⟩:=rs.at hy
    exact ⟨a,vs,i,v',ev,ry,SqL.of (w.le _ _ hs),h1,q _ W rfl (.refl w) h2⟩
   .cases e
  .rename_i ns
   split at e
   .rename_i y hy
    cases e
    obtain ⟨a,ev,hs⟩:=rx
    refine ⟨a,_,i,.int y,ev,ry,yfo w hs,?_,q _ W rfl (.refl w) rfl⟩
    unfold atI at hy ⊢
    rw [length_map]
    obtain ⟨j,e1,e2⟩:=Option.bind_eq_some_iff.mp hy
    rw [e1]
    show (ns.map V.int)[j]?=_
    rw [getElem?_map,e2];rfl
   .cases e
  .rename_i n
   split at e
   .rename_i xs hn
    split at e
    .rename_i y hy
     cases e
     obtain ⟨a,ev,hm,hf,vs,hp,rs⟩:=w.loc hn rx
     obtain ⟨v',h1,h2⟩:=rs.at hy
     exact ⟨a,vs,i,v',ev,ry,SqL.of hp,h1,q _ W rfl (.refl w) h2⟩
    .cases e
   .cases e
  .cases e
 .cases e
theorem yS:ych K (yDI K.K) ybb:=by
 intro W x y v u Q z h' w rx ry e q
 unfold ybb at e
 split at e
 .rename_i xs i
  split at e
  .rename_i y hy
   cases e
   obtain ⟨a,vs,ev,hs,rs⟩:=rx
   obtain ⟨v',h1,h2⟩:=rs.at hy
   exact ⟨a,vs,i,v',ev,ry,ydj w hs,h1,q _ W rfl (.refl w) h2⟩
  .cases e
 .cases e
theorem yBZ:ych K yDJ yzh:=by
 intro W x y v u Q z h' w rx ry e q
 unfold yzh at e
 split at e
 .rename_i s i
  split at e
  .rename_i c hc
   split at e
   .rename_i hl
    cases e
    exact ⟨s,i,c,rx,ry,yww hl,hc,q _ W rfl (.refl w) rfl⟩
   .cases e
  .cases e
 .cases e
noncomputable def yzi {α:Type}(xs:List α) (lo hi:Option Int):List α:=(xs.drop (HT.sIx xs.length 0 lo)).take (HT.sIx xs.length xs.length hi-HT.sIx xs.length 0 lo)
noncomputable def listOf (x:PV) (h:AH):Option (List PV):=match x with|.lst xs=>some xs|.scr ns=>some (ns.map .int)|.loc n=>(match h[n]? with|some (.lst xs)=>some xs|_=>none)|_=>none
theorem ygm {W:Wd}(w:WOk K W) {x:PV}{v:V}{xs:List PV}(e:listOf x W.h=some xs) (r:ycI K W x v):∃ a vs,v=.ref a/\SqL K.K W.H a vs/\ycJ K W xs vs:=by
 unfold listOf at e
 split at e
 .cases e
  obtain ⟨a,vs,ev,hs,rs⟩:=r
  exact ⟨a,vs,ev,SqL.of (w.le _ _ hs),rs⟩
 .rename_i ns
  cases e
  obtain ⟨a,ev,hs⟩:=r
  exact ⟨a,_,ev,yfo w hs,RepL.of_ints ns⟩
 .rename_i n
  split at e
  .rename_i ys hn
   cases e
   obtain ⟨a,ev,hm,hf,vs,hp,rs⟩:=w.loc hn r
   exact ⟨a,vs,ev,SqL.of hp,rs⟩
  .cases e
 .cases e
noncomputable def yW (x:PV) (h:AH):Option (List PV):=match x with|.lst xs=>some xs|.loc n=>(match h[n]? with|some (.lst xs)=>some xs|_=>none)|_=>none
theorem yZ {W:Wd}(w:WOk K W) {x:PV}{v:V}{xs:List PV}(e:yW x W.h=some xs) (r:ycI K W x v):∃ a vs,v=.ref a/\W.H a=some (.lst vs)/\ycJ K W xs vs:=by
 unfold yW at e
 split at e
 .cases e
  obtain ⟨a,vs,ev,hs,rs⟩:=r
  exact ⟨a,vs,ev,w.le _ _ hs,rs⟩
 .rename_i n
  split at e
  .rename_i ys hn
   cases e
   obtain ⟨a,ev,hm,hf,vs,hp,rs⟩:=w.loc hn r
   exact ⟨a,vs,ev,hp,rs⟩
  .cases e
 .cases e
theorem yzj {W:Wd}(w:WOk K W) {p:Addr}(hp:W.H p=none) {xs:List PV}{vs:List V}(r:ycJ K W xs vs) {Q:VK}(q:yoL K W (.lst xs) W.h Q):Q (.ref p) (upd W.H p (.lst vs)) :=
 q p (ygg W p (.lst vs)) rfl (ycA w hp) (w.out hp) hp (fun z=>by cases z) ⟨w.ff hp,vs,yD,r⟩
def yBp:PV->Option Int->Option Int->AH->Option (Nd×AH):=fun x lo hi h=>match listOf x h with|some xs=>some (.lst (yzi xs lo hi),h)|none=>none
theorem yCa:yqe K (yDK K.K) yBp:=by
 intro W x v lo hi Q d h' w rx e q
 unfold yBp at e
 split at e
 .rename_i xs hx
  cases e
  obtain ⟨a,vs,ev,hs,rs⟩:=ygm w hx rx
  refine ⟨a,vs,ev,hs,fun p hp=>yzj w hp ?_ q⟩
  have:=(rs.drop (HT.sIx xs.length 0 lo)).take (HT.sIx xs.length xs.length hi-HT.sIx xs.length 0 lo)
  unfold yzi yyM
  rw [rs.len]
  exact this
 .cases e
def yhb:P2O:=fun x y h=>match yW x h,yW y h with|some xs,some ys=>if xs.length+ys.length<=100000 then some (.lst (xs++ys),h) else none|_,_=>none
theorem yhs:ynD K yDM yhb:=by
 intro W x y v u Q d h' w rx ry e q
 unfold yhb at e
 split at e
 .rename_i xs ys hx hy
  split at e
  .rename_i hl
   cases e
   obtain ⟨a,vs,ev,hs,rs⟩:=yZ w hx rx
   obtain ⟨b,us,eu,ht,ru⟩:=yZ w hy ry
   refine ⟨a,b,vs,us,ev,eu,hs,ht,by rw [rs.len,ru.len];exact yww hl,fun p hp=>yzj w hp (rs.app ru) q⟩
  .cases e
 .cases e
def repL {α:Type}(k:Nat) (xs:List α):List α:=(replicate k xs).flatten
theorem RepL.rep {F:Hp}{m:List Addr}{xs:List PV}{vs:List V}(r:RepL K F m xs vs):∀ k:Nat,RepL K F m (repL k xs) (repL k vs)
 | 0=>rfl
 | k+1=>by
  show RepL K F m ((replicate (k+1) xs).flatten) ((replicate (k+1) vs).flatten)
  rw [List.replicate_succ,List.replicate_succ,List.flatten_cons,List.flatten_cons]
  exact r.app (RepL.rep r k)
def ywB:P2O:=fun x y h=>match yW x h,y with|some xs,.int k=>if -1000000<=k/\k<=100000/\xs.length*k.toNat<=100000 then some (.lst (repL k.toNat xs),h) else none|_,_=>none
theorem ywC:ynD K yDN ywB:=by
 intro W x y v u Q d h' w rx ry e q
 unfold ywB at e
 split at e
 .rename_i xs k hx
  split at e
  .rename_i hl
   cases e
   obtain ⟨a,vs,ev,hs,rs⟩:=yZ w hx rx
   refine ⟨a,k,vs,ev,ry,hs,by omega,by omega,by rw [rs.len];exact yww hl.2.2,fun p hp=>yzj w hp (rs.rep _) q⟩
  .cases e
 .cases e
noncomputable def yqr (x:PV) (h:AH):Option Nat:=match x with|.tup xs=>some xs.length|.lst xs=>some xs.length|.scr ns=>some ns.length|.loc n=>(match h[n]? with|some (.lst xs)=>some xs.length|_=>none)|_=>none
def ycg:List PV->AH->Option (PV×AH):=fun xs h=>match xs with|[x]=>(match yqr x h with|some n=>some (.int n,h)|none=>none)|_=>none
noncomputable def ymw:List PV->AH->Option (PV×AH):=fun xs h=>match xs with|[.str z]=>if z.length<=100000 then some (.int z.length,h) else none|_=>none
theorem ymx {W:Wd}{x:PV}{vs:List V}(r:ycJ K W [x] vs):∃ v,vs=[v]/\ycI K W x v:=by
 obtain ⟨v,r',e,h,l⟩:=r
 exact ⟨v,by rw [e,show r'=[] from l],h⟩
theorem yEu {W:Wd}{x y:PV}{vs:List V}(r:ycJ K W [x,y] vs):∃ v u,vs=[v,u]/\ycI K W x v/\ycI K W y u:=by
 obtain ⟨v,r',e,h,l⟩:=r
 obtain ⟨u,e2,h2⟩:=ymx l
 exact ⟨v,u,by rw [e,e2],h,h2⟩
theorem ycS:yhp K (yyP K.K) ycg:=by
 intro W xs vs Q z h' w r e q
 unfold ycg at e
 split at e
 .rename_i x
  split at e
  .rename_i n hn
   cases e
   obtain ⟨v,rfl,rx⟩:=ymx r
   have fin:∀ (ys:List V),ys.length=n->Q (.int ys.length) W.H:=fun ys hl=>by rw [hl];exact q _ W rfl (.refl w) rfl
   unfold yqr at hn
   split at hn
   .cases hn
    obtain ⟨a,us,rfl,hs,rs⟩:=rx
    exact ⟨a,us,rfl,.inr (ydj w hs),fin _ rs.len⟩
   .rename_i ys
    cases hn
    obtain ⟨a,us,rfl,hs,rs⟩:=rx
    exact ⟨a,us,rfl,.inl (SqL.of (w.le _ _ hs)),fin _ rs.len⟩
   .rename_i ns
    cases hn
    obtain ⟨a,rfl,hs⟩:=rx
    exact ⟨a,_,rfl,.inl (yfo w hs),fin _ (by simp)⟩
   .split at hn
    .rename_i ys hy
     cases hn
     obtain ⟨a,rfl,hm,hf,us,hp,rs⟩:=w.loc hy rx
     exact ⟨a,us,rfl,.inl (SqL.of hp),fin _ rs.len⟩
    .cases hn
   .cases hn
  .cases e
 .cases e
theorem ynG:yhp K yBT ymw:=by
 intro W xs vs Q z h' w r e q
 unfold ymw at e
 split at e
 .rename_i s
  split at e
  .rename_i hl
   cases e
   obtain ⟨v,rfl,rx⟩:=ymx r
   exact ⟨s,by rw [show v=_ from rx],yww hl,q _ W rfl (.refl w) rfl⟩
  .cases e
 .cases e
noncomputable def yin:List PV->AH->Option (PV×AH):=fun xs h=>match xs with|[.int i]=>if i.natAbs.log2<1920 then some (.str (toString i:String),h) else none|_=>none
theorem yiG:yhp K yBU yin:=by
 intro W xs vs Q z h' w r e q
 unfold yin at e
 split at e
 .rename_i i
  split at e
  .rename_i hl
   cases e
   obtain ⟨v,rfl,rx⟩:=ymx r
   exact ⟨i,by rw [show v=_ from rx],hl,q _ W rfl (.refl w) rfl⟩
  .cases e
 .cases e
noncomputable def yqs:List PV->AH->Option (PV×AH):=fun xs h=>match xs with|[.str z]=>if z.cps.toList≠[]/\(∀ c∈z.cps.toList,48<=c/\c<=57)/\z.length<=640 then some (.int (yvY z.cps.toList),h) else none|_=>none
theorem yzk:yhp K yyQ yqs:=by
 intro W xs vs Q z h' w r e q
 unfold yqs at e
 split at e
 .rename_i i
  split at e
  .rename_i hl
   cases e
   obtain ⟨v,rfl,rx⟩:=ymx r
   exact ⟨i,by rw [show v=_ from rx],hl.1,hl.2.1,hl.2.2,q _ W rfl (.refl w) rfl⟩
  .cases e
 .cases e
def ybg:List PV->AH->Option (Nd×AH):=fun xs h=>match xs with|[.tup ys]=>some (.lst ys,h)|[x]=>(match listOf x h with|some ys=>some (.lst ys,h)|none=>none)|_=>none
theorem ybF:ypY K (yvZ K.K) ybg:=by
 intro W xs vs Q d h' w r e q
 unfold ybg at e
 split at e
 .rename_i ys
  cases e
  obtain ⟨v,rfl,a,us,rfl,hs,rs⟩:=ymx r
  exact ⟨a,us,rfl,.inr (ydj w hs),fun p hp=>yzj w hp rs q⟩
 .rename_i x _
  split at e
  .rename_i ys hy
   cases e
   obtain ⟨v,rfl,rx⟩:=ymx r
   obtain ⟨a,us,rfl,hs,rs⟩:=ygm w hy rx
   exact ⟨a,us,rfl,.inl hs,fun p hp=>yzj w hp rs q⟩
  .cases e
 .cases e
def strsOf:List PV->Option (List Str)
 | []=>some []
 | .str s::r=>(strsOf r).map (s::·)
 | _=>none
def intsOf:List PV->Option (List Int)
 | []=>some []
 | .int s::r=>(intsOf r).map (s::·)
 | _=>none
def yht:List PV->Option (List Bool)
 | []=>some []
 | .bl s::r=>(yht r).map (s::·)
 | _=>none
theorem yiH:∀ ss:List Str,strsOf (ss.map .str)=some ss
 | []=>rfl
 | s::ss=>by show (strsOf (ss.map .str)).map _=_;rw [yiH ss];rfl
theorem yiI:∀ ss:List Int,intsOf (ss.map .int)=some ss
 | []=>rfl
 | s::ss=>by show (intsOf (ss.map .int)).map _=_;rw [yiI ss];rfl
theorem ykR:∀ ss:List Bool,yht (ss.map .bl)=some ss
 | []=>rfl
 | s::ss=>by show (yht (ss.map .bl)).map _=_;rw [ykR ss];rfl
theorem yiJ {F:Hp}{m:List Addr}:∀ {xs:List PV}{ss:List Str}{vs:List V},strsOf xs=some ss->RepL K F m xs vs->vs=ss.map V.str
 | [],_,_,e,r=>by cases e;exact r
 | x::xs,ss,_,e,⟨v,r',ev,h,l⟩=>by
  cases x<;>try cases e
  rename_i s
  obtain ⟨ts,e1,e2⟩:=Option.map_eq_some_iff.mp e
  subst e2
  rw [ev,show v=_ from h,yiJ e1 l];rfl
theorem yiK {F:Hp}{m:List Addr}:∀ {xs:List PV}{ss:List Int}{vs:List V},intsOf xs=some ss->RepL K F m xs vs->vs=ss.map V.int
 | [],_,_,e,r=>by cases e;exact r
 | x::xs,ss,_,e,⟨v,r',ev,h,l⟩=>by
  cases x<;>try cases e
  rename_i s
  obtain ⟨ts,e1,e2⟩:=Option.map_eq_some_iff.mp e
  subst e2
  rw [ev,show v=_ from h,yiK e1 l];rfl
theorem yhu {F:Hp}{m:List Addr}:∀ {xs:List PV}{ss:List Bool}{vs:List V},yht xs=some ss->RepL K F m xs vs->vs=ss.map V.bl
 | [],_,_,e,r=>by cases e;exact r
 | x::xs,ss,_,e,⟨v,r',ev,h,l⟩=>by
  cases x<;>try cases e
  rename_i s
  obtain ⟨ts,e1,e2⟩:=Option.map_eq_some_iff.mp e
  subst e2
  rw [ev,show v=_ from h,yhu e1 l];rfl
def yzl:List PV->AH->Option (PV×AH):=fun xs h=>match xs with|[x]=>(match yW x h with|some ys=>(match intsOf ys with|some ns=>some (.int ns.sum,h)|none=>none)|none=>none)|_=>none
theorem yCb:yhp K yDR yzl:=by
 intro W xs vs Q z h' w r e q
 unfold yzl at e
 split at e
 .split at e
  .rename_i ys hy
   split at e
   .rename_i ns hn
    cases e
    obtain ⟨v,rfl,rx⟩:=ymx r
    obtain ⟨a,us,rfl,hs,rs⟩:=yZ w hy rx
    have:=yiK hn rs
    subst this
    exact ⟨a,ns,rfl,hs,q _ W rfl (.refl w) rfl⟩
   .cases e
  .cases e
 .cases e
def yvc:List PV->AH->Option (PV×AH):=fun xs h=>match xs with|[x]=>(match yW x h with|some ys=>(match yht ys with|some ns=>some (.bl (ns.all id),h)|none=>none)|none=>none)|_=>none
theorem yzm:yhp K yDQ yvc:=by
 intro W xs vs Q z h' w r e q
 unfold yvc at e
 split at e
 .split at e
  .rename_i ys hy
   split at e
   .rename_i ns hn
    cases e
    obtain ⟨v,rfl,rx⟩:=ymx r
    obtain ⟨a,us,rfl,hs,rs⟩:=yZ w hy rx
    have:=yhu hn rs
    subst this
    exact ⟨a,ns,rfl,hs,q _ W rfl (.refl w) rfl⟩
   .cases e
  .cases e
 .cases e
def isStr:PV->AH->Bool:=fun x _=>match x with|.str _=>true|_=>false
def yoO:PM:=fun x xs h=>match x,xs with|.str sep,[y]=>(match yW y h with|some ys=>(match strsOf ys with|some ts=>if sep.length<=16/\(ts.map (·.length)).sum+ts.length<=1048576 then some (.str (Str.join sep ts),h) else none|none=>none)|none=>none)|_,_=>none
theorem yzn:yim K "str" isStr rJoin yoO:=by
 refine ⟨fun W x v w r c=>?_,fun W x v xs vs Q z h' w rx r e q=>?_⟩
 .unfold isStr at c
  split at c
  .rw [show v=_ from r];rfl
  .cases c
 .unfold yoO at e
  split at e
  .rename_i sep y
   split at e
   .rename_i ys hy
    split at e
    .rename_i ts ht
     split at e
     .rename_i c
      cases e
      obtain ⟨u,rfl,ru⟩:=ymx r
      obtain ⟨a,us,rfl,hs,rs⟩:=yZ w hy ru
      have:=yiJ ht rs
      subst this
      exact ⟨sep,a,ts,rx,rfl,hs,c.1,c.2,q _ W rfl (.refl w) rfl⟩
     .cases e
    .cases e
   .cases e
  .cases e
noncomputable def ymy:PM:=fun x xs h=>match x,xs with|.str z,[.str s]=>(match s.cps.toList with|[c]=>if z.length<=1000/\c∈z.cps.toList then some (.int (z.cps.toList.idxOf c),h) else none|_=>none)|_,_=>none
theorem ytk:yim K "str" isStr ypU ymy:=by
 refine ⟨fun W x v w r c=>?_,fun W x v xs vs Q z h' w rx r e q=>?_⟩
 .unfold isStr at c
  split at c
  .rw [show v=_ from r];rfl
  .cases c
 .unfold ymy at e
  split at e
  .rename_i z s
   split at e
   .rename_i c hc
    split at e
    .rename_i hl
     cases e
     obtain ⟨u,rfl,ru⟩:=ymx r
     exact ⟨z,c,rx,by rw [show u=_ from ru,one_sign hc],hl.1,hl.2,q _ W rfl (.refl w) rfl⟩
    .cases e
   .cases e
  .cases e
end PX
namespace PX
open PySem L2
variable {K:Ck}
noncomputable def putN (f:Str) (x:PV) (ns:List Str) (xs:List PV):List Str×List PV:=if f∈ns then (ns,xs.set (ns.idxOf f) x) else (ns++[f],xs++[x])
theorem ynH (f:Str) (y:V):∀ (ns:List Str) (vs:List V),vs.length=ns.length->yiD f y (ns.zip vs)=if f∈ns then ns.zip (vs.set (ns.idxOf f) y) else (ns++[f]).zip (vs++[y])
 | [],[],_=>by simp [yiD]
 | n::ns,v::vs,hl=>by
  have ih:=ynH f y ns vs (by simpa using hl)
  show (if n=f then (n,y)::ns.zip vs else (n,v)::yiD f y (ns.zip vs))=_
  by_cases h:n=f
  .subst h
   simp [List.idxOf_cons_self]
  .have h':¬ f=n:=fun z=>h z.symm
   have hb:(n == f)=false:=by simpa using h
   rw [if_neg h,ih]
   by_cases hm:f∈ns
   .simp [hm,h',List.idxOf_cons,hb]
   .simp [hm,h']
theorem yiL {f:Str}:∀ {ns:List Str}{vs:List V},vs.length=ns.length->f∈ns->(ns.zip vs).lookup f=vs[ns.idxOf f]?
 | [],_,_,h=>by simp at h
 | n::ns,v::vs,hl,h=>by
  show List.lookup f ((n,v)::ns.zip vs)=_
  by_cases hn:f=n
  .subst hn
   rw [yBW,List.idxOf_cons_self];rfl
  .rw [yyR hn,yiL (by simpa using hl) (by simpa [hn] using h)]
   have hb:(n == f)=false:=by simpa using fun z:n=f=>hn z.symm
   simp [List.idxOf_cons,hb]
theorem ydx {f:Str}:∀ {ns:List Str}{vs:List V},f∉ns->(ns.zip vs).lookup f=none
 | [],_,_=>by simp
 | n::ns,[],_=>by simp
 | n::ns,v::vs,h=>by
  show List.lookup f ((n,v)::ns.zip vs)=_
  rw [yyR (fun z:f=n=>h (by rw [z];exact mem_cons_self)),ydx fun z=>h (mem_cons_of_mem _ z)]
noncomputable def ygL (x:PV) (h:AH):Option (Nat×List Str×List PV):=match x with|.ins k ns xs=>some (k,ns,xs)|.loc n=>(match h[n]? with|some (.ins k ns xs)=>some (k,ns,xs)|_=>none)|_=>none
theorem yfI {W:Wd}(w:WOk K W) {x:PV}{v:V}{k:Nat}{ns:List Str}{xs:List PV}(e:ygL x W.h=some (k,ns,xs)) (r:ycI K W x v):∃ a dx vs,v=.ref a/\W.H a=some (.ins (K.A k) dx (ns.zip vs))/\vs.length=ns.length/\ycJ K W xs vs:=by
 unfold ygL at e
 split at e
 .cases e
  obtain ⟨a,dx,vs,ev,hs,hl,rs⟩:=r
  exact ⟨a,dx,vs,ev,w.le _ _ hs,hl,rs⟩
 .rename_i n
  split at e
  .rename_i hn
   cases e
   obtain ⟨a,ev,hm,hf,dx,vs,hp,hl,rs⟩:=w.loc hn r
   exact ⟨a,dx,vs,ev,hp,hl,rs⟩
  .cases e
 .cases e
def ybd (cs:List Nat) (f:Str) (e:XE):XE:=fun ρ h=>ob (e ρ h) fun x h1=>match ygL x h1 with|some (k,ns,xs)=>if k∈cs/\f∈ns then (match xs[ns.idxOf f]? with|some y=>some (y,h1)|none=>none) else none|none=>none
theorem ywD {cs:List Nat}{f:Str}{ta:TE}{ea:XE}(hc:∀ k∈cs,Cls K.K (K.A k)/\NoAttr K.K (K.A k) f) (a:ybR K ta ea):ybR K (yDE K.K ta f) (ybd cs f ea):=by
 intro W0 W ρ σ Q z h' g e q
 obtain ⟨x,h1,e1,f1⟩:=yi e
 refine a W0 W ρ σ _ x h1 g e1 fun v W1 w1 l1 r1=>?_
 subst w1
 split at f1
 .rename_i k ns xs hi
  split at f1
  .rename_i c
   split at f1
   .rename_i y hy
    cases f1
    obtain ⟨a,dx,vs,ev,hp,hl,rs⟩:=yfI l1.ok hi r1
    obtain ⟨u,h2,h3⟩:=rs.get hy
    exact ⟨a,_,dx,_,u,ev,hp,(hc k c.1).1,(hc k c.1).2,by rw [yiL hl c.2];exact h2,q _ W1 rfl l1 h3⟩
   .cases f1
  .cases f1
 .cases f1
def ycB (cs:List Nat) (i:Nat) (f:Str) (e:XE):XS:=fun ρ h=>ob (e ρ h) fun x h1=>match ρ[i]? with
 | some (.own (.ins k ns xs))=>if k∈cs/\ns.length<1000 then some (.nx (ρ.set i (.own (.ins k (putN f x ns xs).1 (putN f x ns xs).2))),h1) else none
 | _=>none
theorem RepL.putN {F:Hp}{m:List Addr}{f:Str}{x:PV}{v:V}{ns:List Str}{xs:List PV}{vs:List V}(r:RepL K F m xs vs) (hl:vs.length=ns.length) (rx:Rep K F m x v) :
  ∃ us,yiD f v (ns.zip vs)=(PX.putN f x ns xs).1.zip us/\us.length=(PX.putN f x ns xs).1.length/\RepL K F m (PX.putN f x ns xs).2 us:=by
 rw [ynH f v ns vs hl]
 unfold PX.putN
 by_cases h:f∈ns
 .rw [if_pos h,if_pos h]
  exact ⟨_,rfl,by rw [length_set];exact hl,r.set _ rx⟩
 .rw [if_neg h,if_neg h]
  exact ⟨_,rfl,by rw [length_append,length_append,hl];rfl,r.snoc rx⟩
noncomputable def ysp (K:Ck) (t:TS) (s:XS):Prop:=∀ (W0 W:Wd) (ρ ρ':PSt) (σ:St) (D:Ends) (h':AH),Good K W0 W ρ σ->s ρ W.h=some (.nx ρ',h')->(∀ W',W'.h=h'->Lf K W W'->Good K W0 W' ρ' σ->D.nx σ W'.H)->t D σ W.H
theorem ytl {cs:List Nat}{i:Nat}{f:Str}{ta:TE}{ea:XE}(hc:∀ k∈cs,Cls K.K (K.A k)/\NoAttr K.K (K.A k) f) (a:ybR K ta ea):ysp K (yBF K.K (ypn i) ta f) (ycB cs i f ea):=by
 intro W0 W ρ ρ' σ D h' g e q
 obtain ⟨x,h1,e1,f1⟩:=yi e
 split at f1
 .rename_i k ns xs hi
  split at f1
  .rename_i c
   cases f1
   refine a W0 W ρ σ _ x _ g e1 fun v W1 w1 l1 r1=>?_
   have g1:=g.step l1
   obtain ⟨p,b1,b2,b3,b4,b5,dx,vs,b6,b7,b8⟩:=g1.own i _ hi
   obtain ⟨us,p1,p2,p3⟩:=b8.putN (f:=f) b7 r1
   refine ⟨_,b1,p,_,dx,_,rfl,b6,(hc k c.1).1,(hc k c.1).2,by rw [length_zip,b7];simpa using c.2,?_⟩
   rw [p1]
   exact q (yqj W1 p _) w1 (yqk l1 b2) (g1.mut hi b1 b2 b3 b5 (fun z=>by cases z) ⟨b5,dx,us,yD,p2,p3⟩)
  .cases f1
 .cases f1
theorem ytm {t u:TS}{s s':XS}(a:ysp K t s) (b:ysp K u s'):ysp K (yBy t u) (ym s s'):=by
 intro W0 W ρ ρ' σ D h' g e q
 obtain ⟨o1,h1,e1,f1⟩:=yi e
 cases o1 with
 | nx ρ1=>exact a W0 W ρ ρ1 σ _ h1 g e1 fun W1 w1 l1 g1=>b W0 W1 ρ1 ρ' σ D h' g1 (by rw [w1];exact f1) fun W2 w2 l2 g2=>q W2 w2 (l1.trans l2) g2
 | rt y=>cases f1
 | bk y=>cases f1
 | ct y=>cases f1
def ymz (N:Nat) (k:Nat) (s:XS):List PV->AH->Option (Nd×AH):=fun xs h=>ob (s (.own (.ins k [] [])::(xs.map .val++replicate (N-(xs.length+1)) .no)) h) fun o h1=>match o with|.nx ρ=>(match ρ[0]? with|some (PVar.own d)=>some (d,h1)|_=>none)|_=>none
def spI (K:Ck) (n k:Nat) (f:List PV->AH->Option (Nd×AH)):Sp:=fun vs H Q _=>∃ (W:Wd) (x dx:Addr) (args:List V) (xs:List PV) (d:Nd) (h':AH),vs=.ref x::args/\W.H x=none/\W.H dx=none/\dx≠x/\H=upd (upd W.H dx (.own x)) x (.ins (K.A k) dx []) /\
 WOk K W/\ycJ K W xs args/\xs.length=n/\f xs W.h=some (d,h')/\∀ W',W'.h=h'->Le K W W'->x∉W'.m->d≠.dead->NdAt K W'.F W'.H W'.m d x->Q .non W'.H
theorem ywE {n k:Nat}{f} {vs:List V}{H:Hp}{Q:VK}{E:XK}(h:spI K n k f vs H Q E):vs.length=n+1:=by
 obtain ⟨W,x,dx,args,xs,d,h',rfl,_,_,_,_,w,r,hn,_⟩:=h
 rw [length_cons,r.len,hn]
theorem ytn {N:List Str}{n k:Nat}{t:TS}{s:XS}{vs:List V}{H:Hp}{Q:VK}{E:XK}{bk ct:St->Hp->Prop}(hN:n+1<=N.length) (a:ysp K t s) (h:spI K n k (ymz N.length k s) vs H Q E):t ⟨fun _ H'=>Q .non H',Q,bk,ct⟩ (L2.start N vs) H:=by
 obtain ⟨W,x,dx,args,xs,d,h',rfl,hx,hd,hne,rfl,w,r,hn,e,q⟩:=h
 obtain ⟨o,h1,e1,f1⟩:=yi e
 have l1:Le K W (ygg W dx (.own x)):=ycA w hd
 have hx1:(ygg W dx (.own x)).H x=none:=(yL hne.symm).trans hx
 have l2:Le K (ygg W dx (.own x)) (ygg (ygg W dx (.own x)) x (.ins (K.A k) dx [])):=ycA l1.ok hx1
 have l:=l1.trans l2
 have gs:=ygl (K:=K) (N:=N.drop 1) w r
 have g:Good K W (ygg (ygg W dx (.own x)) x (.ins (K.A k) dx [])) (.own (.ins k [] [])::(xs.map .val++replicate (N.length-(xs.length+1)) .no)) (L2.start N (.ref x::args)):=by
  have es:L2.start N (.ref x::args)=some (.ref x)::L2.start (N.drop 1) args:=by
   have e3:N.length-(args.length+1)=(N.drop 1).length-args.length:=by rw [length_drop];omega
   unfold L2.start
   rw [map_cons,List.cons_append,length_cons,e3]
  have eN:N.length-(xs.length+1)=(N.drop 1).length-xs.length:=by rw [length_drop];omega
  rw [es,eN]
  have gs':=gs.step l
  have noown:∀ (j:Nat) (d:Nd),(xs.map PVar.val++replicate ((N.drop 1).length-xs.length) .no)[j]?≠some (.own d):=fun j d z=>by
   by_cases hj:j<xs.length
   .rw [getElem?_append_left (by simpa using hj),getElem?_map,List.getElem?_eq_getElem hj] at z
    cases z
   .rw [getElem?_append_right (by simp;omega),getElem?_replicate] at z
    split at z<;>cases z
  refine ⟨l,by rw [length_cons,length_cons,gs.len],fun j y z=>?_,fun j d z=>?_,fun i j d d' hij z z'=>?_⟩
  .cases j with
   | zero=>cases z
   | succ j=>exact gs'.val j y z
  .cases j with
   | zero=>cases z;exact ⟨x,rfl,w.out hx,hx,(fun z=>by cases z),w.ff hx,dx,[],yD,rfl,rfl⟩
   | succ j=>exact absurd z (noown j d)
  .cases i with
   | zero =>
    cases j with
    | zero=>exact absurd rfl hij
    | succ j=>exact absurd z' (noown j d')
   | succ i=>exact absurd z (noown i d)
 cases o with
 | rt y=>cases f1
 | bk ρ=>cases f1
 | ct ρ=>cases f1
 | nx ρ =>
  refine a W _ _ ρ _ _ h1 g e1 fun W' ew lf g'=>?_
  dsimp only at f1
  split at f1
  .rename_i d' hd'
   cases f1
   obtain ⟨p,b1,b2,b3,b4,b5⟩:=g'.own 0 _ hd'
   have b1:some (some (V.ref x))=some (some (V.ref p)):=b1
   cases b1
   exact q W' ew g'.le b2 b4 b5
  .cases f1
def yfJ (f:List PV->AH->Option (Nd×AH)) (a:XA):XO:=fun ρ h=>ob (a ρ h) f
theorem ynI {n k:Nat}{f} {ex:XK}{t:TA}{e:XA}(a:ylK K t e) (hn:∀ ρ h xs h',e ρ h=some (xs,h')->xs.length=n):ykN K (ysF (K.A k) (spI K n k f) [] ex t) (yfJ f e):=by
 intro W0 W ρ σ Q d h' g e' q
 obtain ⟨xs,h1,e1,e2⟩:=yi e'
 refine a W0 W ρ σ _ xs h1 g e1 fun vs W1 w1 l1 r1=>?_
 subst w1
 intro x dx hx hd hne
 rw [append_nil]
 exact ⟨W1,x,dx,vs,xs,d,h',rfl,hx,hd,hne,rfl,l1.ok,r1,hn _ _ _ _ e1,e2,fun W2 w2 l2 hm hdd at_=>⟨rfl,q x W2 w2 (l1.trans l2) hm (l1.fresh hx) hdd at_⟩⟩
def yqt (k:Nat):XO:=fun _ h=>some (.ins k [] [],h)
theorem yqu {k:Nat}:ykN K (yuU (K.A k)) (yqt k):=by
 intro W0 W ρ σ Q d h' g e q
 cases e
 intro x dx hx hd hne
 have w:=g.ok
 have l1:Le K W (ygg W dx (.own x)):=ycA w hd
 have hx1:(ygg W dx (.own x)).H x=none:=(yL hne.symm).trans hx
 have l2:Le K (ygg W dx (.own x)) (ygg (ygg W dx (.own x)) x (.ins (K.A k) dx [])):=ycA l1.ok hx1
 exact q x (ygg (ygg W dx (.own x)) x (.ins (K.A k) dx [])) rfl (l1.trans l2) (w.out hx) hx (fun z=>by cases z) ⟨w.ff hx,dx,[],yD,rfl,rfl⟩
def yoP (m:Str) (f:Nat->Fn) (e:XE):XE:=fun ρ h=>ob (e ρ h) fun x h1=>match ygL x h1 with|some (k,ns,_)=>if m∈ns then none else f k [x] h1|none=>none
theorem yto {m:Str}{f:Nat->Fn}{ta:TE}{ea:XE}(a:ybR K ta ea):ybR K (yuV K.A m (fun k=>spE K 1 (f k)) ta) (yoP m f ea):=by
 intro W0 W ρ σ Q z h' g e q
 obtain ⟨x,h1,e1,f1⟩:=yi e
 refine a W0 W ρ σ _ x h1 g e1 fun v W1 w1 l1 r1=>?_
 subst w1
 split at f1
 .rename_i k ns xs hi
  split at f1
  .cases f1
  .rename_i hm
   obtain ⟨b,dx,vs,ev,hp,hl,rs⟩:=yfI l1.ok hi r1
   exact ⟨b,k,dx,_,ev,hp,ydx hm,W1,[x],z,h',rfl,l1.ok,⟨v,[],rfl,r1,rfl⟩,rfl,f1,fun u W2 w2 l2 r2=>q u W2 w2 (l1.trans l2) r2⟩
 .cases f1
def yzo (tb:List (Nat×Nat×Bool)) (x c:PV) (h:AH):Option Bool:=match c with
 | .ty n=>(match x with
  | .int _=>if n = "int" then some true else if n = "bool"\/n = "str"\/n = "list"\/n = "tuple"\/n = "dict" then some false else none
  | .bl _=>if n = "int"\/n = "bool" then some true else if n = "str"\/n = "list"\/n = "tuple"\/n = "dict" then some false else none
  | .str _=>if n = "str" then some true else if n = "int"\/n = "bool"\/n = "list"\/n = "tuple"\/n = "dict" then some false else none
  | .non=>if n = "int"\/n = "bool"\/n = "str"\/n = "list"\/n = "tuple"\/n = "dict" then some false else none
  | .tup _=>if n = "tuple" then some true else if n = "int"\/n = "bool"\/n = "str"\/n = "list"\/n = "dict" then some false else none
  | _=>(match yW x h with|some _=>if n = "list" then some true else if n = "int"\/n = "bool"\/n = "str"\/n = "tuple"\/n = "dict" then some false else none|none=>none))
 | .cls c'=>(match ygL x h with|some (k,_)=>(tb.find? fun r=>r.1 == k && r.2.1 == c').map (·.2.2)|none=>none)
 | _=>none
def ykh (tb:List (Nat×Nat×Bool)):List PV->AH->Option (PV×AH):=fun xs h=>match xs with|[x,c]=>(match yzo tb x c h with|some b=>some (.bl b,h)|none=>none)|_=>none
theorem yfp {tb:List (Nat×Nat×Bool)}(ht:∀ r∈tb,∀ (H:Hp) (a dx:Addr) (fs:List (Str×V)),H a=some (.ins (K.A r.1) dx fs)->IsI K.K H (.ref a) (.ref (K.A r.2.1)) r.2.2):yhp K (yDO K.K) (ykh tb):=by
 intro W xs vs Q z h' w r e q
 unfold ykh at e
 split at e
 .rename_i x c
  split at e
  .rename_i b hb
   cases e
   obtain ⟨v,u,rfl,rx,ru⟩:=yEu r
   refine ⟨v,u,b,rfl,?_,q _ W rfl (.refl w) rfl⟩
   unfold yzo at hb
   split at hb
   .rename_i n
    obtain rfl:u=.ty n:=ru
    split at hb
    .rw [show v=_ from rx]
     repeat' split at hb
     all_goals cases hb
     .rename_i hn;subst hn;exact ylZ
     .rename_i hn;rcases hn with rfl|rfl|rfl|rfl|rfl
      .exact yku
      .exact ymf
      .exact yky
      .exact yjj
      .exact ykz
    .rw [show v=_ from rx]
     repeat' split at hb
     all_goals cases hb
     .rename_i hn;rcases hn with rfl|rfl
      .exact yoJ
      .exact ymb
     .rename_i hn;rcases hn with rfl|rfl|rfl|rfl
      .exact yoK
      .exact ymg
      .exact ykA
      .exact ymh
    .rw [show v=_ from rx]
     repeat' split at hb
     all_goals cases hb
     .rename_i hn;subst hn;exact ymc
     .rename_i hn;rcases hn with rfl|rfl|rfl|rfl|rfl
      .exact ymi
      .exact ykB
      .exact ykC
      .exact yjk
      .exact ykD
    .rw [show v=_ from rx]
     repeat' split at hb
     all_goals cases hb
     .rename_i hn;rcases hn with rfl|rfl|rfl|rfl|rfl|rfl
      .exact yma
      .exact ykE
      .exact ymj
      .exact ykF
      .exact yjl
      .exact ykG
    .obtain ⟨a,us,rfl,hs,_⟩:=rx
     have hp:(∃ xs,W.H a=some (.tup xs))\/∃ o,K.K.lookup a=some o/\o.cls=.type "tuple":=hs.elim (fun h=>.inl ⟨_,w.le _ _ h⟩) fun ⟨o,its,n,e1,e2,_⟩=>.inr ⟨o,e1,e2⟩
     repeat' split at hb
     all_goals cases hb
     .rename_i hn;subst hn;exact yjn hp
     .rename_i hn;rcases hn with rfl|rfl|rfl|rfl|rfl
      .exact ymm hp
      .exact ykJ hp
      .exact ymn hp
      .exact ykK hp
      .exact ykL hp
    .split at hb
     .rename_i ys hy
      obtain ⟨a,us,rfl,hp,_⟩:=yZ w hy rx
      repeat' split at hb
      all_goals cases hb
      .rename_i hn;subst hn;exact ykv hp
      .rename_i hn;rcases hn with rfl|rfl|rfl|rfl|rfl
       .exact ymk hp
       .exact ykH hp
       .exact yml hp
       .exact yjm hp
       .exact ykI hp
     .cases hb
   .rename_i c'
    obtain rfl:u=.ref (K.A c'):=ru
    split at hb
    .rename_i k p hi
     obtain ⟨r',h1,h2⟩:=Option.map_eq_some_iff.mp hb
     have hm:=List.mem_of_find?_eq_some h1
     have hp:=List.find?_some h1
     simp only [and_eq_true,beq_iff_eq] at hp
     obtain ⟨a,dx,us,rfl,hs,_⟩:=yfI w hi rx
     obtain ⟨p1,p2⟩:=hp
     have:=ht r' hm W.H a dx (p.1.zip us) (by rw [p1];exact hs)
     rw [p2,h2] at this
     exact this
    .cases hb
   .cases hb
  .cases e
 .cases e
end PX
namespace PX
open PySem L2
section
variable {ρ:PSt}{h h1:AH}{x y z:PV}{a b c:XE}{ca cb:XT}{aa:XA}{eo:XO}{s u:XS}{i:Nat}{p:P2}
theorem ybq {α β:Type}{x:α}{h:AH}{f:α->AH->Option β}:ob (some (x,h)) f=f x h:=id rfl
theorem yCc {α β:Type}{f:α->AH->Option β}:ob (none:Option (α×AH)) f=none:=id rfl
theorem yzp {α β γ:Type}{o:Option (α×AH)}{f:α->AH->Option (β×AH)}{g:β->AH->Option γ}:ob (ob o f) g=ob o fun x h=>ob (f x h) g:=by cases o<;>rfl
theorem yCd {α β:Type}{q:Prop} [Decidable q] {o o':Option (α×AH)}{f:α->AH->Option β}:ob (if q then o else o') f=if q then ob o f else ob o' f:=by split<;>rfl
theorem yzq:ye 0 (.val x::ρ) h=some (x,h):=id rfl
theorem yzr {v:PVar}{n:Nat}:ye (n+1) (v::ρ) h=ye n ρ h:=by simp [ye]
theorem x_c:xC x ρ h=some (x,h):=id rfl
theorem yCe:xOp p a b ρ h=ob (a ρ h) fun x h1=>ob (b ρ h1) fun y h2=>p x y h2:=id rfl
theorem yCf {p:P2O}:ykO p a b ρ h=ob (a ρ h) fun x h1=>ob (b ρ h1) fun y h2=>p x y h2:=id rfl
theorem yEv {p}:xUn p a ρ h=ob (a ρ h) fun x h1=>p x h1:=id rfl
theorem yDT {k:Bool}:oB (.bl k) h=some (k,h):=id rfl
theorem ywF {p p':P2}:yeZ p p' a b c ρ h=ob (a ρ h) fun x h1=>ob (b ρ h1) fun y h2=>ob (p x y h2) fun z h3=>ob (oB z h3) fun k h3=>if k=true then ob (c ρ h3) fun w h4=>p' y w h4 else some (.bl false,h3):=id rfl
theorem yvd:yq a ρ h=ob (a ρ h) oB:=id rfl
theorem yzs:yfF a b ρ h=ob (a ρ h) fun x h1=>ob (oB x h1) fun k h1=>if k=true then b ρ h1 else some (.bl false,h1):=id rfl
theorem yCg:yuW ca cb ρ h=ob (ca ρ h) fun k h1=>if k=true then cb ρ h1 else some (false,h1):=id rfl
theorem yEw:xOr ca cb ρ h=ob (ca ρ h) fun k h1=>if k=true then some (true,h1) else cb ρ h1:=id rfl
theorem yCh:ykP ca ρ h=ob (ca ρ h) fun k h1=>some (!k,h1):=id rfl
theorem yEx:xIf ca a b ρ h=ob (ca ρ h) fun k h1=>if k=true then a ρ h1 else b ρ h1:=id rfl
theorem ytp:yh ρ h=some ([],h):=id rfl
theorem yzt:yb a aa ρ h=ob (a ρ h) fun x h1=>ob (aa ρ h1) fun xs h2=>some (x::xs,h2):=id rfl
theorem yCi:ybS aa ρ h=ob (aa ρ h) fun xs h1=>if xs.length<=1000 then some (.tup xs,h1) else none:=id rfl
theorem yCj:ycR aa ρ h=ob (aa ρ h) fun xs h1=>if xs.length<=1000 then some (.lst xs,h1) else none:=id rfl
def fzN:Nd->AH->Option (PV×AH)
 | .lst xs,h=>some (.lst xs,h)
 | .ins k ns xs,h=>some (.ins k ns xs,h)
 | _,_=>none
theorem yBq:xFz eo ρ h=ob (eo ρ h) fzN:=by
 unfold xFz;congr;funext d h1;cases d<;>rfl
theorem yCk {xs:List PV}:fzN (.lst xs) h=some (.lst xs,h):=id rfl
theorem yCl:yfG eo ρ h=ob (eo ρ h) fun d h1=>some (.loc h1.length,h1++[d]):=id rfl
theorem x_call {f:Fn}:yY f aa ρ h=ob (aa ρ h) f:=id rfl
theorem yEy {f}:xCB f aa ρ h=ob (aa ρ h) f:=id rfl
theorem yCm {f}:yil f aa ρ h=ob (aa ρ h) f:=id rfl
theorem yzu {q} {p:PM}:xBM q p a aa ρ h=ob (a ρ h) fun x h1=>if q x h1=true then ob (aa ρ h1) fun xs h2=>p x xs h2 else none:=id rfl
theorem ywG {s:Str}:isStr (.str s) h=true:=id rfl
theorem yzv {f}:yfJ f aa ρ h=ob (aa ρ h) f:=id rfl
theorem yve:yJ ρ h=some (.nx ρ,h):=id rfl
noncomputable def sqK (u:XS):Out->AH->Option (Out×AH)
 | .nx ρ,h=>u ρ h
 | .rt x,h=>some (.rt x,h)
 | .bk ρ,h=>some (.bk ρ,h)
 | .ct ρ,h=>some (.ct ρ,h)
theorem ydq:ym s u ρ h=ob (s ρ h) (sqK u):=by
 unfold ym;congr;funext o h1;cases o<;>rfl
theorem yel:sqK u (.nx ρ) h=u ρ h:=id rfl
theorem yCn:sqK u (.rt x) h=some (.rt x,h):=id rfl
theorem ynJ:ybf a ρ h=ob (a ρ h) fun _ h1=>some (.nx ρ,h1):=id rfl
theorem yqv:yR a ρ h=ob (a ρ h) fun x h1=>some (.rt x,h1):=id rfl
theorem yzw:ybx ca s u ρ h=ob (ca ρ h) fun k h1=>if k=true then s ρ h1 else u ρ h1:=id rfl
theorem ytq {g:XG}:ybn a g ρ h=ob (a ρ h) fun x h1=>(g x ρ).bind fun ρ'=>some (.nx ρ',h1):=id rfl
theorem yzx:yqf eo i ρ h=ob (eo ρ h) fun d h1=>some (.nx (ρ.set i (.own d)),h1):=id rfl
theorem yzy:yt i x ρ=some (ρ.set i (.val x)):=id rfl
theorem yCo:yzb i s ρ h=s (ymq i ρ) h:=id rfl
theorem yCp {v:PVar}:ymq 0 (v::ρ)=ysZ v::ρ:=id rfl
theorem yCq {v:PVar}{n:Nat}:ymq (n+1) (v::ρ)=v::ymq n ρ:=id rfl
theorem yCr {xs:List PV}:ysZ (.own (.lst xs))=.val (.lst xs):=id rfl
theorem yzz {it:XA}{g:XG}:yqg it g s ρ h=ob (it ρ h) fun xs h1=>ygk g s xs ρ h1:=id rfl
def fnK:Out->AH->Option (PV×AH)
 | .rt x,h=>some (x,h)
 | .nx _,h=>some (.non,h)
 | _,_=>none
theorem yp {N:Nat}{xs:List PV}:ybo N s xs h=ob (s (xs.map .val++replicate (N-xs.length) .no) h) fnK:=by
 unfold ybo;congr;funext o h1;cases o<;>rfl
theorem yCs:fnK (.rt x) h=some (x,h):=id rfl
theorem yCt:fnK (.nx ρ) h=some (.non,h):=id rfl
def yfC (cs:List Nat) (f:Str) (x:PV) (h:AH):Option (PV×AH):=match ygL x h with|some (k,ns,xs)=>if k∈cs/\f∈ns then (match xs[ns.idxOf f]? with|some y=>some (y,h)|none=>none) else none|none=>none
theorem yjr {cs:List Nat}{f:Str}:ybd cs f a ρ h=ob (a ρ h) (yfC cs f):=id rfl
theorem x_i {g:Int->Int->PV}{i j:Int}:oI g (.int i) (.int j) h=some (g i j,h):=id rfl
theorem yDU {C:Int->Int->Prop} [∀ i j,Decidable (C i j)] {g:Int->Int->PV}{i j:Int}:oIc C g (.int i) (.int j) h=if C i j then some (g i j,h) else none:=id rfl
theorem ynK {i j:Int}(h1:-18446744073709551616<j) (h2:j<18446744073709551616):MulOk i j=True:=eq_true (.inr ⟨h1,h2⟩)
theorem yzA {i j:Int}(h1:-18446744073709551616<i) (h2:i<18446744073709551616):MulOk i j=True:=eq_true (.inl ⟨h1,h2⟩)
theorem yCu {i j:Int}(h1:0<=i) (h2:i<18446744073709551616) (h3:0<=j) (h4:j<=1000000):yqo i j=True:=eq_true ⟨⟨h1,h2⟩,h3,h4⟩
theorem yio {i j:Int}:oEq (.int i) (.int j) h=some (.bl (decide (i=j)),h):=by simp [oEq,sv,yuO]
theorem yCv {i j:Str}:oEq (.str i) (.str j) h=some (.bl (decide (i=j)),h):=by simp [oEq,sv,yuO]
theorem yCw {i j:Int}:oNe (.int i) (.int j) h=some (.bl (!decide (i=j)),h):=by simp [oNe,sv,yuO]
theorem yzB {i j:Str}:oNe (.str i) (.str j) h=some (.bl (!decide (i=j)),h):=by simp [oNe,sv,yuO]
theorem yCx:ywA x .non h=some (.bl (isN x),h):=id rfl
theorem yzC:yti x .non h=some (.bl (!isN x),h):=id rfl
theorem ykS {i j:Str}:yek (.str i) (.str j) h=if i.length+j.length<=100000 then some (.str (i++j),h) else none:=id rfl
theorem ykT {xs:List PV}{i:Int}:ycu (.lst xs) (.int i) h=(atI xs i).bind fun v=>some (v,h):=by
 simp only [ycu];cases atI xs i<;>rfl
theorem yCy {xs:List Int}{i:Int}:ycu (.scr xs) (.int i) h=(atI xs i).bind fun v=>some (.int v,h):=by
 simp only [ycu];cases atI xs i<;>rfl
theorem yzD {xs:List PV}{i:Int}:ybb (.tup xs) (.int i) h=(atI xs i).bind fun v=>some (v,h):=by
 simp only [ybb];cases atI xs i<;>rfl
theorem yCz {s:Str}{i:Int}:yzh (.str s) (.int i) h=(atI s.cps.toList i).bind fun c=>if s.length<=100000 then some (sgn c,h) else none:=by
 simp only [yzh];cases atI s.cps.toList i<;>rfl
theorem yCA {xs:List PV}{lo hi:Option Int}:yBp (.lst xs) lo hi h=some (.lst (yzi xs lo hi),h):=id rfl
theorem yzE {xs ys:List PV}:yhb (.lst xs) (.lst ys) h=if xs.length+ys.length<=100000 then some (.lst (xs++ys),h) else none:=id rfl
theorem yzF {xs:List PV}{k:Int}:ywB (.lst xs) (.int k) h=if -1000000<=k/\k<=100000/\xs.length*k.toNat<=100000 then some (.lst (repL k.toNat xs),h) else none:=id rfl
theorem yCB {p} {lo hi}:yBm p a lo hi ρ h=ob (a ρ h) fun x h1=>ob (lo ρ h1) fun l h2=>ob (hi ρ h2) fun u h3=>p x l u h3:=id rfl
theorem yzG:ysR a ρ h=ob (a ρ h) fun x h1=>match x with|.int i=>some (some i,h1)|_=>none:=id rfl
theorem ytr:yjo ρ h=some (none,h):=id rfl
theorem yqw {xs:List PV}:ycg [.lst xs] h=some (.int xs.length,h):=id rfl
theorem yzH {xs:List Int}:ycg [.scr xs] h=some (.int xs.length,h):=id rfl
theorem yzI {z:Str}:ymw [.str z] h=if z.length<=100000 then some (.int z.length,h) else none:=id rfl
theorem yvf {k:Int}:yin [.int k] h=if k.natAbs.log2<1920 then some (.str (toString k:String),h) else none:=id rfl
theorem ywH {xs:List PV}:ybg [.lst xs] h=some (.lst xs,h):=id rfl
theorem yEz {xs:List PV}(e:a ρ h=some (.lst xs,h1)):xIL a ρ h=some (xs,h1):=by unfold xIL;rw [e];rfl
theorem yvg {it:XA}{ix:List Nat}:yeD it ix a ρ h=ob (it ρ h) fun xs h1=>if xs.length<=100000 then ob (yij a (yeX ix ρ) xs h1) fun ys h2=>some (.lst ys,h2) else none:=id rfl
end
end PX
namespace L2
open PySem PySem.Spec PyProof.Rows
end L2
namespace L2
open PySem PySem.Spec PyProof.Rows
section
variable (P:Program) (w:World)
end
section
variable {P:Program}{w:World}{H H':Hp}{h h':Heap}{a:Addr}{o:HO}
end
section
variable {P:Program}{w:World}{H:Hp}{h h':Heap}{x e:Addr}{o':HO}
end
section
variable {fs fs' ex ex':List Addr}{H H1 H2:Hp}{h h1 h2 h':Heap}{a x e:Addr}{o:HO}
end
end L2
namespace L2
open PySem PySem.Spec PyProof.Rows
section
variable {X:Cx}{pins:List (Addr×Obj)}{σ:List (Option V)}{H H':Hp}{s:Shared}{h':Heap}
end
end L2
namespace L2
open PySem PySem.Spec PyProof.Rows
section
variable {X:Cx}
variable {a b:Expr}{ta tb:TE}{pos:Pos}
variable {tA tB':TT}{rest:List Expr}
end
end L2
namespace L2
open PySem PySem.Spec PyProof.Rows
section
variable {X:Cx}{pins:List (Addr×Obj)}{σ:St}{H:Hp}{s:Shared}{a:Addr}{xs ys:List V}
end
section
variable {X:Cx}{pins:List (Addr×Obj)}{σ:St}{H:Hp}{s:Shared}{E:Value->Shared->Prop}
end
section
variable {X:Cx}{st:Stmt}{rest:List Stmt}{t u:TS}{e:Expr}{te:TE}{pos:Pos}
end
section
variable {X:Cx}{pos:Pos}
end
section
variable {X:Cx}{pos:Pos}
end
end L2
namespace L2
open PySem PySem.Spec PyProof.Rows
section
variable {X:Cx}{tg:Expr}
end
end L2
namespace L2
open PySem PySem.Spec PyProof.Rows
section
variable {X:Cx}{a b c:Expr}{ta tb tc:TE}{pos:Pos}
end
section
variable {X:Cx}{a b c:Expr}{ta tb tc:TE}{pos:Pos}
end
end L2
namespace L2
open PySem PySem.Spec PyProof.Rows
section
variable {prog:Program}{w:World}{A:Around}{E:Value->Shared->Prop}{s:Shared}{K:PySem.W.Frag}{x dx C f:Addr}{mA:Str->Option Value}{name:Str}{v:Value}
end
section
variable {P:Program}{w:World}{H H':Hp}{h h':Heap}{a C dx:Addr}{fs fs':List (Str×V)}
end
section
variable {X:Cx}{pins:List (Addr×Obj)}{σ:St}{H:Hp}{s:Shared}{a C dx:Addr}{fs:List (Str×V)}{f:Str}{v:V}{A:Around}{E:Value->Shared->Prop}
end
section
variable {X:Cx}{o e value:Expr}{f:Str}{pos pos' tpos:Pos}{ta tv:TE}
end
section
variable {X:Cx}{pins:List (Addr×Obj)}{σ:St}{H:Hp}{s:Shared}{A:Around}{E:Value->Shared->Prop}{Q:Value->Shared->Prop}{c:Value}{b:Bool}
end
end L2
namespace L2
open PySem PySem.Spec PyProof.Rows
section
variable {X:Cx}{e:Expr}{es:List Expr}{te:TE}{t:TA}{pos:Pos}
end
section
variable {X:Cx}{pins:List (Addr×Obj)}{σ:St}{H:Hp}{s s':Shared}
end
section
variable {X:Cx}{CX:CXT}{k:Nat}{f C:Addr}{fd:FuncData}{ps:List Str}{sp:Sp}{dvs:List V}{ds:List Value}{E:XK}{x m:Str}{p pos apos:Pos}{e o:Expr}{es:List Expr}{ta:TE}{t:TA}
end
section
variable {X:Cx}{CX:CXT}{k:Nat}{f C:Addr}{fd:FuncData}{ps ks:List Str}{sp:Sp}{E:XK}{x m:Str}{p pos apos kpos:Pos}{e o:Expr}{es:List Expr}{kws:List Keyword}{te ta:TE}{t tk:TA}{nm:Option Str}
variable {g:List Value->List Value->List Value}{gV:List V->List V->List V}
end
end L2
namespace L2
open PySem PySem.Spec PyProof.Rows
section
variable {X:Cx}{x:Str}{p pos:Pos}{e:Expr}{es:List Expr}{t:TA}{id T:String}{r:List V->Hp->VK->Prop}
end
end L2
namespace L2
open PySem PySem.Spec PyProof.Rows
section
variable {κ:Type} [DecidableEq κ]
def ykU (kvs:List (κ×V)) (k:κ):Option V:=(kvs.find? fun kv=>decide (kv.1=k)).map (·.2)
noncomputable def putK (kvs:List (κ×V)) (k:κ) (v:V):List (κ×V) :=
 if (kvs.any fun kv=>decide (kv.1=k))=true then kvs.map (fun kv=>if kv.1=k then (kv.1,v) else kv) else kvs++[(k,v)]
theorem yjs {p:κ×V}{r:List (κ×V)}{k:κ}(e:p.1=k):ykU (p::r) k=some p.2:=by simp [ykU,find?_cons,e]
theorem yjt {p:κ×V}{r:List (κ×V)}{k:κ}(e:¬ p.1=k):ykU (p::r) k=ykU r k:=by simp [ykU,find?_cons,e]
theorem ynL (k:κ):∀ kvs:List (κ×V),(kvs.any fun kv=>decide (kv.1=k))=(ykU kvs k).isSome
 | []=>rfl
 | p::r=>by
  rw [any_cons]
  by_cases e:p.1=k
  .simp only [yjs e,decide_eq_true e,Bool.true_or,Option.isSome_some]
  .rw [yjt e,decide_eq_false e,Bool.false_or];exact ynL k r
theorem yfq (kvs:List (κ×V)) (k:κ) (v:V):(putK kvs k v).length<=kvs.length+1:=by
 unfold putK
 split
 .rw [length_map];omega
 .rw [length_append,length_cons,length_nil];omega
theorem RelO.isSome_eq {o:Option V}{u:Option Value}(r:RelO o u):o.isSome=u.isSome:=by
 cases o with
 | none=>cases u with
  | none=>rfl
  | some _=>exact (show False from r).elim
 | some _=>cases u with
  | none=>exact (show False from r).elim
  | some _=>rfl
theorem KV.val {kvs:List (κ×V)}{vs:List (κ×Value)}(r:KV kvs vs) (k:κ):RelO (ykU kvs k) (valueAt vs k):=by
 unfold KV at r
 induction r with
 | nil=>exact True.intro
 | @cons p q ps qs h t ih =>
  obtain ⟨h1,h2⟩:=h
  by_cases e:p.1=k
  .have e':q.1=k:=h1.symm.trans e
   have b:valueAt (q::qs) k=some q.2:=by simp [valueAt,find?_cons,e']
   rw [yjs e,b];exact h2
  .have e':¬ q.1=k:=fun z=>e (h1.trans z)
   have b:valueAt (q::qs) k=valueAt qs k:=by simp [valueAt,find?_cons,e']
   rw [yjt e,b];exact ih
theorem KV.any {kvs:List (κ×V)}{vs:List (κ×Value)}(r:KV kvs vs) (k:κ):(kvs.any fun kv=>decide (kv.1=k))=vs.any fun kv=>decide (kv.1=k):=by
 unfold KV at r
 induction r with
 | nil=>rfl
 | cons h t ih=>rw [any_cons,any_cons,ih,h.1]
theorem KV.repl {kvs:List (κ×V)}{vs:List (κ×Value)}(r:KV kvs vs) (k:κ) {y:V}{u:Value}(ry:RelV y u) :
  KV (kvs.map fun kv=>if kv.1=k then (kv.1,y) else kv) (vs.map fun kv=>if kv.1=k then (kv.1,u) else kv):=by
 unfold KV at r ⊢
 induction r with
 | nil=>exact .nil
 | @cons p q ps qs h t ih =>
  rw [map_cons,map_cons]
  refine .cons ?_ ih
  obtain ⟨h1,h2⟩:=h
  by_cases e:p.1=k
  .rw [if_pos e,if_pos (h1.symm.trans e)];exact ⟨h1,ry⟩
  .rw [if_neg e,if_neg (fun z=>e (h1.trans z))];exact ⟨h1,h2⟩
theorem KV.put {kvs:List (κ×V)}{vs:List (κ×Value)}(r:KV kvs vs) (k:κ) {y:V}{u:Value}(ry:RelV y u):KV (putK kvs k y) (stored vs k u):=by
 unfold putK stored
 rw [r.any k]
 by_cases e:(vs.any fun kv=>decide (kv.1=k))=true
 .rw [if_pos e,if_pos e];exact r.repl k ry
 .rw [if_neg e,if_neg e];exact Paired.snoc r ⟨rfl,ry⟩
theorem KV.length {kvs:List (κ×V)}{vs:List (κ×Value)}(r:KV kvs vs):kvs.length=vs.length:=Paired.length r
end
theorem yts {P:Program}{w:World}{k:Key}{u:Value}(r:RelV (kV k) u):(ycz P w).is k u=true:=by
 cases k with
 | inl i=>obtain ⟨t,e⟩:=(show ∃ t,u=Value.int i t from r);subst e;exact ylN P w i t
 | inr x=>obtain ⟨t,e⟩:=(show ∃ t,u=Value.str x t from r);subst e;exact ylO P w x t
theorem ykV {P:Program}{w:World}:∀ {ks:List Key}{us:List Value},Vals (ks.map kV) us->ItemsAre (ycz P w) ks us
 | [],_,r=>by rw [map_nil] at r;cases r;exact .nil
 | k::ks,_,r=>by
  rw [map_cons] at r
  cases r with
  | cons h t=>exact .cons (yts h) (ykV t)
abbrev KT (H:Hp):List (List Key×V)->List (List Key×Addr×Value)->Prop:=Paired fun p q=>p.1=q.1/\H q.2.1=some (.tup (p.1.map kV))/\RelV p.2 q.2.2
theorem KT.val {H:Hp}{kvs:List (List Key×V)}{xs:List (List Key×Addr×Value)}(r:KT H kvs xs) (k:List Key):RelO (ykU kvs k) ((atKey xs k).map (·.2)):=by
 induction r with
 | nil=>exact True.intro
 | @cons p q ps qs h t ih =>
  obtain ⟨h1,_,h2⟩:=h
  by_cases e:p.1=k
  .have e':q.1=k:=h1.symm.trans e
   have b:atKey (q::qs) k=some q.2:=by simp [atKey,find?_cons,e']
   rw [yjs e,b];exact h2
  .have e':¬ q.1=k:=fun z=>e (h1.trans z)
   have b:atKey (q::qs) k=atKey qs k:=by simp [atKey,find?_cons,e']
   rw [yjt e,b];exact ih
theorem KT.repl {H:Hp}{kvs:List (List Key×V)}{xs:List (List Key×Addr×Value)}(r:KT H kvs xs) (k:List Key) {y:V}{u:Value}(ry:RelV y u) :
  KT H (kvs.map fun kv=>if kv.1=k then (kv.1,y) else kv) (xs.map (putAt k u)):=by
 induction r with
 | nil=>exact .nil
 | @cons p q ps qs h t ih =>
  rw [map_cons,map_cons]
  refine .cons ?_ ih
  obtain ⟨h1,h2,h3⟩:=h
  unfold putAt
  by_cases e:p.1=k
  .rw [if_pos e,if_pos (h1.symm.trans e)];exact ⟨h1,h2,ry⟩
  .rw [if_neg e,if_neg (fun z=>e (h1.trans z))];exact ⟨h1,h2,h3⟩
theorem KT.put {H:Hp}{kvs:List (List Key×V)}{xs:List (List Key×Addr×Value)}(r:KT H kvs xs) (k:List Key) {b:Addr}{y:V}{u:Value}(hb:H b=some (.tup (k.map kV))) (ry:RelV y u) :
  KT H (putK kvs k y) (storedH xs k b u):=by
 have e:(kvs.any fun kv=>decide (kv.1=k))=(atKey xs k).isSome:=by
  rw [ynL,(r.val k).isSome_eq,isSome_map]
 unfold putK storedH
 rw [e]
 by_cases q:(atKey xs k).isSome=true
 .rw [if_pos q,if_pos q];exact r.repl k ry
 .rw [if_neg q,if_neg q];exact Paired.snoc r ⟨rfl,hb,ry⟩
theorem KT.keeps {H H':Hp}{kvs:List (List Key×V)}{xs:List (List Key×Addr×Value)}(r:KT H kvs xs) (ht:∀ b ys,H b=some (.tup ys)->H' b=some (.tup ys)):KT H' kvs xs :=
 Paired.mapP r fun _ _ z=>⟨z.1,ht _ _ z.2.1,z.2.2⟩
section
variable {P:Program}{w:World}{H:Hp}{h:Heap}{a:Addr}
theorem yzJ {u:HO}(ok:HOk P w H h) (e:Rd H a u):ObjOk P w H h a u:=e.ok ok
theorem ytt {kvs:List (Key×V)}(ok:HOk P w H h) (e:Rd H a (.dK kvs)):kvs.length<=sizeLine/\(a == sysModules)=false/\∃ vs,KV kvs vs/\h.DictOf (ycz P w) a vs :=
 show ObjOk P w H h a (.dK kvs) from yzJ ok e
theorem ywI {kvs:List (Key×V)}(ok:HOk P w H h) (e:H a=some (.dK kvs)):kvs.length<=sizeLine/\(a == sysModules)=false/\∃ vs,KV kvs vs/\h.DictOf (ycz P w) a vs:=ytt ok (.inl e)
theorem ynM {ks:List Key}(ok:HOk P w H h) (e:H a=some (.tup (ks.map kV))):(tupleKind (ycz P w)).is h ks a:=by
 obtain ⟨_,its,r,o,h1,h2,n,h3⟩:=(show ObjOk P w H h a (.tup (ks.map kV)) from ok a _ e)
 exact ⟨o,its.toArray,n,h1,h2,h3,by simpa using ykV r⟩
theorem ytu {kvs:List (List Key×V)}(ok:HOk P w H h) (e:Rd H a (.dT kvs)):kvs.length<=sizeLine/\(a == sysModules)=false /\
  ∃ xs,KT H kvs xs/\h.DictOfH (tupleKind (ycz P w)) a xs:=by
 obtain ⟨z,y,xs,r,o,es,ep,h1,h2,h3,h4,h5⟩:=(show ObjOk P w H h a (.dT kvs) from yzJ ok e)
 refine ⟨z,y,xs,r,o,es,ep,h1,h2,h3,h4,fun x hx=>?_,h5⟩
 have all:∀ {l:List (List Key×V)}{m:List (List Key×Addr×Value)},KT H l m->∀ x∈m,(tupleKind (ycz P w)).is h x.1 x.2.1:=by
  intro l m q
  induction q with
  | nil=>intro x hx;exact nomatch hx
  | @cons p q ps qs hq t ih =>
   intro x hx
   rcases mem_cons.mp hx with e|hx
   .subst e
    exact ynM ok (by rw [<- hq.1];exact hq.2.1)
   .exact ih x hx
 exact all r x hx
theorem yCC {kvs:List (List Key×V)}(ok:HOk P w H h) (e:H a=some (.dT kvs)):kvs.length<=sizeLine/\(a == sysModules)=false /\
  ∃ xs,KT H kvs xs/\h.DictOfH (tupleKind (ycz P w)) a xs:=ytu ok (.inl e)
end
noncomputable def DGet (H:Hp) (a:Addr) (y:V) (r:Option V):Prop :=
 (∃ kvs k,Rd H a (.dK kvs)/\y=kV k/\r=ykU kvs k)\/∃ kvs k b,Rd H a (.dT kvs)/\y=.ref b/\H b=some (.tup (k.map kV))/\r=ykU kvs k
def DPut (H:Hp) (a:Addr) (y v:V) (H':Hp):Prop :=
 (∃ kvs k,H a=some (.dK kvs)/\y=kV k/\kvs.length<sizeLine/\H'=upd H a (.dK (putK kvs k v))) \/
 ∃ kvs k b,H a=some (.dT kvs)/\y=.ref b/\H b=some (.tup (k.map kV))/\kvs.length<sizeLine/\H'=upd H a (.dT (putK kvs k v))
theorem DPut.k {H:Hp}{a:Addr}{kvs:List (Key×V)}{k:Key}{v:V}(e:H a=some (.dK kvs)) (hl:kvs.length<sizeLine):DPut H a (kV k) v (upd H a (.dK (putK kvs k v))):=.inl ⟨kvs,k,e,rfl,hl,rfl⟩
section
variable {X:Cx}{pins:List (Addr×Obj)}{σ:St}{H:Hp}{s:Shared}{a:Addr}{y v:V}{u r:Value}{o:Option V}{A:Around}{E:Value->Shared->Prop}
theorem Inv.big (I:Inv X pins σ H s):sysModules<s.heap.objs.size:=by
 have h:mainGlobals<s.heap.objs.size:=(I.mod.glob.keeps I.bk).lt
 exact Nat.lt_trans (by decide) h
theorem yqx {Q:Value->Shared->Prop}(hu:A.units+1<cLine) (I:Inv X pins σ H s) (g:DGet H a y (some v)) (ry:RelV y u) (h:∀ w' s',Inv X pins σ H s'->RelV v w'->Q w' s') :
  wpAny (model X.prog X.w) A (getItem (.ref a) u) Q E s:=by
 rcases g with ⟨kvs,k,e,ey,l⟩|⟨kvs,k,b,e,ey,eb,l⟩
 .subst ey
  obtain ⟨z,hd,vs,rel,dd⟩:=ytt I.hok e
  obtain ⟨w',hw,rw'⟩:=RelO.some_of (v:=v) (o:=valueAt vs k) (by rw [l];exact rel.val k)
  exact wpAny_getItem_of (yts ry) dd.mapOf hw (h w' _ (I.tok _) rw')
 .subst ey
  cases (show u=Value.ref b from ry)
  obtain ⟨z,hd,xs,rel,dd⟩:=ytu I.hok e
  obtain ⟨w',hw,rw'⟩:=RelO.some_of (v:=v) (o:=(atKey xs k).map (·.2)) (by rw [l];exact rel.val k)
  obtain ⟨p,hp,hp2⟩:=Option.map_eq_some_iff.mp hw
  refine wpAny_getItem_heap (tupleKind_room_in1 hu) (ynM I.hok eb) dd hp ?_
  rw [hp2]
  exact h w' _ (I.tok _) rw'
theorem yEA {Q:Value->Shared->Prop}(hu:A.units+1<cLine) (I:Inv X pins σ H s) (g:DGet H a y o) (ry:RelV y u) (h:∀ s',Inv X pins σ H s'->Q (.bool o.isSome) s') :
  wpAny (model X.prog X.w) A (compareOp .In u (.ref a)) Q E s:=by
 rcases g with ⟨kvs,k,e,ey,l⟩|⟨kvs,k,b,e,ey,eb,l⟩
 .subst ey
  obtain ⟨z,hd,vs,rel,dd⟩:=ytt I.hok e
  refine wpAny_in_of (yts ry) hd dd.mapOf ?_
  rw [<- (rel.val k).isSome_eq,<- l]
  exact h _ (I.tok _)
 .subst ey
  cases (show u=Value.ref b from ry)
  obtain ⟨z,hd,xs,rel,dd⟩:=ytu I.hok e
  refine wpAny_in_heap (tupleKind_room_in1 hu) (ynM I.hok eb) hd dd ?_
  have q:=(rel.val k).isSome_eq
  rw [isSome_map] at q
  rw [<- q,<- l]
  exact h _ (I.tok _)
theorem ymA {h':Heap}{t':Nat}{ob:HO}(I:Inv X pins σ H s) (mu:Mut (H a)) (hs:Heap.SameBut a s.heap h') (he:∃ q,h'.get? a=some q) (new:ObjOk X.prog X.w (upd H a ob) h' a ob) :
  Inv X pins σ (upd H a ob) { s with heap:=h',toks:=t' } :=
 I.write (x:=a) (e:=a) mu (.inl rfl) (fun b q hb z=>(hs.2 b hb).trans z) he new
theorem yvh {P:Program}{w:World}{H':Hp}{h':Heap}{kvs:List (Key×V)}{vs:List (Key×Value)}(z:kvs.length<=sizeLine) (hd:(a == sysModules)=false) (rel:KV kvs vs) (dd:h'.DictOf (ycz P w) a vs) :
  ObjOk P w H' h' a (.dK kvs):=⟨z,hd,vs,rel,dd⟩
theorem yqy {H':Hp}{Q:Unit->Shared->Prop}(hu:A.units+1<cLine) (I:Inv X pins σ H s) (g:DPut H a y v H') (ry:RelV y u) (rv:RelV v r) (h:∀ s',Inv X pins σ H' s'->Q () s') :
  wpAny (model X.prog X.w) A (setItem (.ref a) u r) Q E s:=by
 rcases g with ⟨kvs,k,e,ey,l,eH⟩|⟨kvs,k,b,e,ey,eb,l,eH⟩
 .subst ey eH
  obtain ⟨z,hd,vs,rel,dd⟩:=ywI I.hok e
  have hz:vs.length<=sizeLine:=by rw [<- rel.length];exact z
  have hl:(putK kvs k v).length<=sizeLine:=by have:=yfq kvs k v;omega
  refine wpAny_setItem_pairs (hsz:=hz) (yts ry) dd fun h' dd' hs=>h _ ?_
  have he:∃ q,h'.get? a=some q:=let ⟨q,_,_,hq,_⟩:=dd';⟨q,hq⟩
  exact ymA I (by rw [e];exact True.intro) hs he (yvh hl hd (rel.put k rv) dd')
 .subst ey eH
  cases (show u=Value.ref b from ry)
  obtain ⟨z,hd,xs,rel,dd⟩:=yCC I.hok e
  have hz:xs.length<=sizeLine:=by rw [<- Paired.length rel];exact z
  have hl:(putK kvs k v).length<=sizeLine:=by have:=yfq kvs k v;omega
  refine wpAny_setItem_heap (hsz:=hz) (tupleKind_room_in1 hu) (ynM I.hok eb) dd fun h' dd' hs=>h _ ?_
  obtain ⟨q,es,ep,hq,h2,h3,h4,_,h5⟩:=dd'
  refine ymA I (by rw [e];exact True.intro) hs ⟨q,hq⟩ ⟨hl,hd,_,(rel.put k eb rv).keeps fun c ys ec=>?_,q,es,ep,hq,h2,h3,h4,h5⟩
  rw [yL (yBu ec e (fun z=>nomatch z))]
  exact ec
end
section
variable {X:Cx}{pins:List (Addr×Obj)}{σ:St}{H:Hp}{s:Shared}{a:Addr}{kvs:List (Key×V)}{k:Key}{u:Value}{A:Around}{E:Value->Shared->Prop}
end
def yCD (i:Expr):Prop:=∀ ov iv,subscripted i false ov iv=operate [ov,iv] (getItem ov iv)
theorem ywJ {prog:Program}{w:World}{A:Around}{E:Value->Shared->Prop}{s:Shared}{env:Env}{value slice:Expr}{pos:Pos}{T id:String}{Q:Value->Shared->Prop}
  (hl:typeLookup (.type T) "__getitem__" = pure (some (.builtin id))) (hs:yCD slice)
  (h:wpAny (model prog w) A (eval value env) (fun o s₁=>wpAny (model prog w) A (eval slice env) (fun i s₂=>s₂.TypeIs o T/\wpAny (model prog w) A (getItem o i) Q E s₂) E s₁) E s) :
  wpAny (model prog w) A (eval (.Subscript value slice pos) env) Q E s:=by
 refine Subscript_ (wpAny_mono h (fun o s₁ h₁=>wpAny_mono h₁ (fun i s₂ h₂=>?_) fun _ _ x=>x) fun _ _ x=>x)
 obtain ⟨hT,h₂⟩:=h₂
 unfold subscriptTail
 refine wpAny_bind ?_
 rw [getitemInPython_of_ne hT.not_modules]
 refine wpAny_bind (wpAny_specialOf hT hl ?_)
 have fin:wpAny (model prog w) A (subscripted slice false o i) (fun r s₃=>wpAny (model prog w) A (letTemporaryGo value o r >>= fun _=>pure r) Q E s₃) E s₂:=by
  rw [hs o i]
  exact wpAny_operating (wpAny_mono h₂ (fun r s₃ h₃=>wpAny_bind (wpAny_letTemporaryGo (wpAny_pure h₃))) fun _ _ x=>x)
 first
  | exact wpAny_pure (wpAny_bind fin)
  | exact wpAny_bind (wpAny_pure (wpAny_bind fin))
  | exact wpAny_bind fin
theorem ymB {X:Cx}{pins:List (Addr×Obj)}{σ:St}{H:Hp}{s:Shared}{a:Addr}{y:V}{o:Option V}(I:Inv X pins σ H s) (g:DGet H a y o):s.TypeIs (.ref a) "dict":=by
 rcases g with ⟨kvs,k,e,_,_⟩|⟨kvs,k,b,e,_,_,_⟩
 .obtain ⟨_,_,vs,_,dd⟩:=ytt I.hok e
  exact dd.typeIs
 .obtain ⟨_,_,xs,_,dd⟩:=ytu I.hok e
  exact dd.typeIs
def yzK (td ty:TE):TE:=fun σ H Q=>td σ H fun x H1=>ty σ H1 fun y H2=>∃ a v,x=.ref a/\DGet H2 a y (some v)/\Q v H2
def yDV (ty td:TE):TE:=fun σ H Q=>ty σ H fun y H1=>td σ H1 fun x H2=>∃ a o,x=.ref a/\DGet H2 a y o/\Q (.bl o.isSome) H2
def yzL (td ty tv:TE):TS:=fun D σ H=>tv σ H fun v H1=>td σ H1 fun x H2=>ty σ H2 fun y H3=>∃ a H4,x=.ref a/\DPut H3 a y v H4/\D.nx σ H4
section
variable {X:Cx}{o i e value:Expr}{pos pos' tpos:Pos}{td ty tv:TE}
theorem ywK (hu:X.A.units+1<cLine) (ho:PE X o td) (hi:PE X i ty) (hs:yCD i):PE X (.Subscript o i pos) (yzK td ty):=by
 intro pins s σ H Q I h
 refine ywJ PySem.F.slot_dict_getitem.lookup hs (thn (ho pins s σ H _ I h) fun u s1 ⟨x,H1,I1,rx,q1⟩=>thn (hi pins s1 σ H1 _ I1 q1) fun iv s2 ⟨y,H2,I2,ry,a,v,ex,g,q2⟩=>?_)
 subst ex
 obtain rfl:u=Value.ref a:=rx
 exact ⟨ymB I2 g,yqx hu I2 g ry fun w' s3 I3 rw'=>⟨v,H2,I3,rw',q2⟩⟩
theorem yzM (hu:X.A.units+1<cLine) (hi:PE X i ty) (ho:PE X o td):PC X .In i o (yDV ty td):=by
 intro pins s σ H Q I h
 refine thn (hi pins s σ H _ I h) fun iv s1 ⟨y,H1,I1,ry,q1⟩=>thn (ho pins s1 σ H1 _ I1 q1) fun u s2 ⟨x,H2,I2,rx,a,ov,ex,g,q2⟩=>?_
 subst ex
 obtain rfl:u=Value.ref a:=rx
 exact yEA hu I2 g ry fun s3 I3=>⟨.bl ov.isSome,H2,I3,rfl,q2⟩
theorem ywL (hu:X.A.units+1<cLine) (ho:PE X o td) (hi:PE X i ty) (hv:PE X value tv) (hs:swapsWith value (some (.Subscript o i pos')) pos.line X.env=pure false) :
  PS X (.Assign [.Subscript o i pos'] value pos) (yzL td ty tv):=by
 intro pins s σ H D I h
 refine wpAny_Assign_Subscript (thn (hv pins s σ H _ I h) fun r s1 ⟨v,H1,I1,rv,q1⟩=>thn (ho pins s1 σ H1 _ I1 q1) fun u s2 ⟨x,H2,I2,rx,q2⟩=>thn (hi pins s2 σ H2 _ I2 q2) fun iv s3 ⟨y,H3,I3,ry,a,H4,ex,g,q3⟩=>?_) hs
 subst ex
 obtain rfl:u=Value.ref a:=rx
 exact yqy hu I3 g ry rv fun s4 I4=>⟨σ,H4,I4,q3⟩
end
theorem ytv {P:Program}{w:World}{H:Hp}(h:Heap) (hb:sysModules<h.objs.size):ObjOk P w H (h.push { cls:=.type "dict",data:=.dict #[] }) h.objs.size (.dK []) :=
 ⟨zero_le _,beq_eq_false_iff_ne.mpr (Ne.symm (ne_of_lt hb)),[],.nil,Heap.DictOf.new h⟩
def yvi:TE:=fun _ H Q=>∀ p,H p=none->Q (.ref p) (upd H p (.dK []))
section
variable {X:Cx}{pos:Pos}
theorem ytw:PE X (.Dict [] [] pos) yvi:=fun pins s σ H Q I h =>
 wpAny_Dict_empty ⟨.ref s.heap.objs.size,_,I.laid (a:=s.heap.objs.size) (o:=.dK []) (t':=s.toks) (fun _ _ q=>Heap.get?_push_of_some _ q) (Nat.le_refl _) (ytv s.heap I.big),rfl,h _ (I.hok.fresh (Nat.le_refl _))⟩
end
def yqz (kvs more:List (Key×V)):List (Key×V):=more.foldl (fun acc kv=>putK acc kv.1 kv.2) kvs
theorem KV.merge:∀ {more:List (Key×V)}{rs:List (Key×Value)}{kvs:List (Key×V)}{vs:List (Key×Value)},KV more rs->KV kvs vs->KV (yqz kvs more) (merged vs rs):=by
 intro more rs kvs vs r
 unfold KV at r
 induction r generalizing kvs vs with
 | nil=>intro q;exact q
 | @cons p q ps qs h t ih =>
  intro r0
  have e:KV (putK kvs p.1 p.2) (stored vs q.1 q.2):=by
   have:=r0.put p.1 h.2
   rw [<- h.1];exact this
  exact ih e
theorem yfK:∀ (more kvs:List (Key×V)),(yqz kvs more).length<=kvs.length+more.length
 | [],kvs=>by show kvs.length<=kvs.length+0;omega
 | p::r,kvs=>by
  have h1:=yfK r (putK kvs p.1 p.2)
  have h2:=yfq kvs p.1 p.2
  show (yqz (putK kvs p.1 p.2) r).length<=_
  rw [length_cons];omega
structure M2 (X:Cx) (o:Expr) (m:Str) (apos:Pos) (e f:Expr) (cpos:Pos):Prop where
 base:attributeBase o m X.env (eval o X.env)=eval o X.env
 few:((backTo cpos (starEach [e,f] X.env)).all (fun x=>!x.1) && (backToKw cpos (keywordEach [] X.env)).all (fun x=>x.1.isSome)
  && decide (([e,f]:List Expr).length+([]:List Keyword).length+(if ([]:List Keyword).isEmpty then 0 else 1)<30))=true
 line:(apos.endLine == cpos.line)=true
 trees:backTo cpos (starEach [e,f] X.env)=[(false,eval e X.env),(false,eval f X.env)]
section
variable {X:Cx}{pins:List (Addr×Obj)}{σ:St}{H:Hp}{s:Shared}{a:Addr}{y d:V}{u r:Value}{o:Option V}{A:Around}{E:Value->Shared->Prop}
end
section
variable {X:Cx}{o e f:Expr}{apos cpos:Pos}{td ty tx:TE}
end
section
variable {X:Cx}{pins:List (Addr×Obj)}{σ:St}{H:Hp}{s:Shared}{a:Addr}{kvs:List (Key×V)}{A:Around}{E:Value->Shared->Prop}
end
section
variable {X:Cx}{pins:List (Addr×Obj)}{σ:St}{H:Hp}{s:Shared}{a:Addr}{y:V}{u:Value}{A:Around}{E:Value->Shared->Prop}
end
end L2
namespace Att
open PySem PySem.W PySem.Calls PyProof.Rows
section
variable {prog:Program}{w:World}{A:Around}{E:Value->Shared->Prop}{s:Shared}{K:Frag}
end
end Att
namespace L2
open PySem PySem.Spec PyProof.Rows
end L2
namespace L2
open PySem PySem.Spec PyProof.Rows
end L2
namespace L2
open PySem PySem.Spec PyProof.Rows
section
variable {P:Program}{w:World}{K:PySem.W.Frag}{mg:Str->Option Value}{base:Heap}
end
section
variable {X:Cx}
end
section
variable {κ:Type} [DecidableEq κ]
end
end L2
namespace PX
open PySem L2
variable {K:Ck}
theorem yiM {α:Type}{l:List α}(h:l.Nodup) {i j:Nat}(hi:i<l.length) (hj:j<l.length) (e:l[i]=l[j]):i=j:=by
 have p:=List.pairwise_iff_getElem.mp h
 rcases Nat.lt_trichotomy i j with z|z|z
 .exact absurd e (p i j hi hj z)
 .exact z
 .exact absurd e.symm (p j i hj hi z)
def ymC (W:Wd) (n:Nat) (a:Addr) (o:HO) (d:Nd):Wd:=⟨W.F,upd W.H a o,W.m,W.h.set n d⟩
theorem yfr {W:Wd}(w:WOk K W) {n:Nat}{d d':Nd}{a:Addr}{o:HO}(e:W.h[n]?=some d) (hm:W.m[n]?=some a) (hF:W.F a=none) (at':NdAt K W.F (upd W.H a o) W.m d' a) (nf:∀ ks xs,d≠.fz ks xs:=by intro _ _ z;cases z):Le K W (ymC W n a o d'):=by
 have hn:n<W.h.length:=(List.getElem?_eq_some_iff.mp e).1
 have ham:a∈W.m:=mem_of_getElem? hm
 refine ⟨⟨fun b u q=>?_,by show W.m.length=(W.h.set n d').length;rw [length_set];exact w.len,w.nd,fun j dj b e1 e2=>?_⟩,Same.refl _,prefix_refl _,fun b u q hb=>?_,fun b u _ _ f=>f,fun b z z'=>absurd z z',fun j ks xs e1=>?_⟩
 .have:b≠a:=ybw q hF
  exact (yL this).trans (w.le _ _ q)
 .have e1:(W.h.set n d')[j]?=some dj:=e1
  by_cases hj:n=j
  .subst hj
   rw [getElem?_set_self hn] at e1
   cases e1
   have e2:W.m[n]?=some b:=e2
   rw [hm] at e2
   cases e2
   exact at'
  .rw [getElem?_set_ne hj] at e1
   have e2:W.m[j]?=some b:=e2
   have hb:b≠a:=fun z=>by
    subst z
    have h1:=(List.getElem?_eq_some_iff.mp hm)
    have h2:=(List.getElem?_eq_some_iff.mp e2)
    obtain ⟨l1,q1⟩:=h1
    obtain ⟨l2,q2⟩:=h2
    exact hj (yiM w.nd l1 l2 (q1.trans q2.symm))
   exact (w.at_ j dj b e1 e2).mono (Same.refl _) (prefix_refl _) (fun u q=>(yL hb).trans q) id
 .have:b≠a:=fun z=>hb (z ▸ ham)
  exact (yL this).trans q
 .have hj:n≠j:=fun z=>by
   subst z
   rw [e] at e1
   cases e1
   exact nf _ _ rfl
  refine ⟨(getElem?_set_ne hj).trans e1,fun b e2=>yL fun z=>?_⟩
  subst z
  obtain ⟨l1,q1⟩:=List.getElem?_eq_some_iff.mp hm
  obtain ⟨l2,q2⟩:=List.getElem?_eq_some_iff.mp e2
  exact hj (yiM w.nd l1 l2 (q1.trans q2.symm))
def yfs:PV->AH->Bool:=fun x h=>match yW x h with|some _=>true|none=>false
theorem ynN {W:Wd}{x:PV}{v:V}(w:WOk K W) (r:ycI K W x v) (c:yfs x W.h=true):tyV K.K "list" v W.H:=by
 unfold yfs at c
 split at c
 .rename_i xs hx
  obtain ⟨a,vs,rfl,hs,_⟩:=yZ w hx r
  exact .inl ⟨rfl,vs,SqL.of hs⟩
 .cases c
noncomputable def ygM:PM:=fun x ys h=>match x,ys with|.loc n,[y]=>(match h[n]? with|some (.lst xs)=>if xs.length<100000 then some (.non,h.set n (.lst (xs++[y]))) else none|_=>none)|_,_=>none
theorem ynO:yim K "list" yfs ylX ygM:=by
 refine ⟨fun W x v w r c=>ynN w r c,fun W x v xs vs Q z h' w rx r e q=>?_⟩
 unfold ygM at e
 split at e
 .rename_i n y
  split at e
  .rename_i ys hn
   split at e
   .rename_i hl
    cases e
    obtain ⟨u,rfl,ru⟩:=ymx r
    obtain ⟨a,ev,hm,hf,us,hp,rs⟩:=w.loc hn rx
    refine ⟨a,us,u,ev,rfl,hp,by rw [rs.len];exact big hl,?_⟩
    exact q .non (ymC W n a (.lst (us++[u])) (.lst (ys++[y]))) rfl (yfr w hn hm hf ⟨hf,_,yD,rs.snoc ru⟩) rfl
   .cases e
  .cases e
 .cases e
noncomputable def ygN:PM:=fun x ys h=>match x,ys with|.loc n,[]=>(match h[n]? with|some (.lst xs)=>(match xs[xs.length-1]? with|some y=>some (y,h.set n (.lst xs.dropLast))|none=>none)|_=>none)|_,_=>none
theorem RepL.dropLast {F:Hp}{m:List Addr}{xs:List PV}{vs:List V}(r:RepL K F m xs vs):RepL K F m xs.dropLast vs.dropLast:=by
 rw [List.dropLast_eq_take,List.dropLast_eq_take,r.len]
 exact r.take _
theorem ynP:yim K "list" yfs yDL ygN:=by
 refine ⟨fun W x v w r c=>ynN w r c,fun W x v xs vs Q z h' w rx r e q=>?_⟩
 unfold ygN at e
 split at e
 .rename_i n
  split at e
  .rename_i ys hn
   split at e
   .rename_i y hy
    cases e
    obtain rfl:vs=[]:=r
    obtain ⟨a,ev,hm,hf,us,hp,rs⟩:=w.loc hn rx
    obtain ⟨u,hu,ru⟩:=rs.get hy
    refine ⟨a,us,u,ev,rfl,hp,by rw [rs.len];exact hu,?_⟩
    exact q u (ymC W n a (.lst us.dropLast) (.lst ys.dropLast)) rfl (yfr w hn hm hf ⟨hf,_,yD,rs.dropLast⟩) ru
   .cases e
  .cases e
 .cases e
def ygO (eo ei ev:XE):XS:=fun ρ h=>ob (ev ρ h) fun v h1=>ob (eo ρ h1) fun o h2=>ob (ei ρ h2) fun i h3=>match o,i with
 | .loc n,.int k=>(match h3[n]? with|some (.lst xs)=>(match ixN xs.length k with|some j=>some (.nx ρ,h3.set n (.lst (xs.set j v)))|none=>none)|_=>none)
 | _,_=>none
theorem ytx {to ti tv:TE}{eo ei ev:XE}(a:ybR K to eo) (b:ybR K ti ei) (c:ybR K tv ev):yeY K (yuK tv (yDB to ti yyO)) (ygO eo ei ev):=by
 intro W0 W ρ σ D o h' g e q
 obtain ⟨v,h1,e1,f1⟩:=yi e
 obtain ⟨x,h2,e2,f2⟩:=yi f1
 obtain ⟨i,h3,e3,f3⟩:=yi f2
 refine c W0 W ρ σ _ v h1 g e1 fun vv W1 w1 l1 r1=>?_
 subst w1
 refine a W0 W1 ρ σ _ x h2 (g.step l1) e2 fun vx W2 w2 l2 r2=>?_
 subst w2
 refine b W0 W2 ρ σ _ i h3 (g.step (l1.trans l2)) e3 fun vi W3 w3 l3 r3=>?_
 subst w3
 have w:=l3.ok
 split at f3
 .rename_i n k
  split at f3
  .rename_i xs hn
   split at f3
   .rename_i j hj
    cases f3
    obtain ⟨p,ep,hm,hf,us,hp,rs⟩:=w.loc hn (l3.rep r2)
    refine ⟨p,us,k,j,ep,r3,hp,by rw [rs.len];exact hj,?_⟩
    have l4:Le K W3 (ymC W3 n p (.lst (us.set j vv)) (.lst (xs.set j v))):=yfr w hn hm hf ⟨hf,_,yD,rs.set j ((l2.trans l3).rep r1)⟩
    have l:=l1.trans (l2.trans (l3.trans l4))
    exact q _ σ rfl l.lf (g.step l)
   .cases f3
  .cases f3
 .cases f3
def keyOf:PV->Option Key
 | .int i=>some (.inl i)
 | .str s=>some (.inr s)
 | _=>none
theorem yhv {W:Wd}{x:PV}{v:V}{k:Key}(e:keyOf x=some k) (r:ycI K W x v):v=kV k:=by
 cases x<;>cases e<;>exact r
noncomputable def ykW (x:PV) (h:AH):Option (List Key×List PV):=match x with|.loc n=>(match h[n]? with|some (.dct ks xs)=>some (ks,xs)|_=>none)|_=>none
def yhw:List Key->List PV->Key->Option PV
 | k::ks,x::xs,j=>if k=j then some x else yhw ks xs j
 | _,_,_=>none
def yqA:List Key->Key->Bool
 | [],_=>false
 | k::ks,j=>if k=j then true else yqA ks j
noncomputable def setK {α:Type}:List Key->List α->Key->α->List α
 | k::ks,x::xs,j,y=>if k=j then y::setK ks xs j y else x::setK ks xs j y
 | _,xs,_,_=>xs
def ycQ (ks:List Key) (xs:List PV) (k:Key) (x:PV):List Key×List PV:=if yqA ks k=true then (ks,setK ks xs k x) else (ks++[k],xs++[x])
theorem yju {α:Type}:∀ (ks:List Key) (xs:List α) (j:Key) (y:α),(setK ks xs j y).length=xs.length
 | [],_,_,_=>by simp [setK]
 | _::_,[],_,_=>by simp [setK]
 | k::ks,x::xs,j,y=>by
  show (if k=j then y::setK ks xs j y else x::setK ks xs j y).length=_
  split<;>simp [yju ks xs j y]
theorem RepL.setK {F:Hp}{m:List Addr}:∀ {xs:List PV}{vs:List V}(ks:List Key) (j:Key) {y:PV}{u:V},RepL K F m xs vs->Rep K F m y u->RepL K F m (PX.setK ks xs j y) (PX.setK ks vs j u)
 | [],_,ks,j,y,u,h,_=>by rw [show _=[] from h];cases ks<;>exact rfl
 | x::xs,_,[],j,y,u,h,_=>by
  obtain ⟨v,r,e,h1,l⟩:=h
  subst e
  exact ⟨v,r,rfl,h1,l⟩
 | x::xs,_,k::ks,j,y,u,⟨v,r,e,h1,l⟩,ru=>by
  subst e
  show RepL K F m (if k=j then y::PX.setK ks xs j y else x::PX.setK ks xs j y) (if k=j then u::PX.setK ks r j u else v::PX.setK ks r j u)
  have ih:=RepL.setK ks j l ru
  split
  .exact ⟨u,_,rfl,ru,ih⟩
  .exact ⟨v,_,rfl,h1,ih⟩
theorem yjv {F:Hp}{m:List Addr}:∀ {ks:List Key}{xs:List PV}{vs:List V}(j:Key),RepL K F m xs vs->vs.length=ks.length->(∀ x,yhw ks xs j=some x->∃ v,ykU (ks.zip vs) j=some v/\Rep K F m x v)/\(yhw ks xs j=none->ykU (ks.zip vs) j=none)
 | [],xs,vs,j,r,hl=>by
  refine ⟨fun x e=>?_,fun _=>rfl⟩
  cases xs<;>cases e
 | k::ks,[],vs,j,r,hl=>by rw [show vs=[] from r] at hl;cases hl
 | k::ks,x::xs,_,j,⟨v,r',e,h,l⟩,hl=>by
  subst e
  have ih:=yjv j l (by simpa using hl)
  have hz:ykU ((k::ks).zip (v::r')) j=if k=j then some v else ykU (ks.zip r') j:=by
   unfold ykU
   rw [zip_cons_cons,find?_cons]
   by_cases hk:k=j
   .simp [hk]
   .simp [hk]
  rw [hz]
  show (∀ y,(if k=j then some x else yhw ks xs j)=some y->_)/\((if k=j then some x else yhw ks xs j)=none->_)
  by_cases hk:k=j
  .rw [if_pos hk,if_pos hk]
   exact ⟨fun y e=>by cases e;exact ⟨v,rfl,h⟩,fun e=>by cases e⟩
  .rw [if_neg hk,if_neg hk]
   exact ih
theorem yqB (j:Key):∀ (ks:List Key) (vs:List V),vs.length=ks.length->((ks.zip vs).any fun kv=>decide (kv.1=j))=yqA ks j
 | [],_,_=>by simp [yqA]
 | k::ks,[],h=>by cases h
 | k::ks,v::vs,h=>by
  rw [zip_cons_cons,any_cons,yqB j ks vs (by simpa using h)]
  show (decide (k=j) || yqA ks j)=if k=j then true else yqA ks j
  by_cases hk:k=j<;>simp [hk]
theorem yqC (j:Key) (y:V):∀ (ks:List Key) (vs:List V),vs.length=ks.length->(ks.zip vs).map (fun kv=>if kv.1=j then (kv.1,y) else kv)=ks.zip (setK ks vs j y)
 | [],_,_=>by simp
 | k::ks,[],h=>by cases h
 | k::ks,v::vs,h=>by
  rw [zip_cons_cons,map_cons,yqC j y ks vs (by simpa using h)]
  show (if k=j then (k,y) else (k,v))::_=(k::ks).zip (if k=j then y::setK ks vs j y else v::setK ks vs j y)
  by_cases hk:k=j
  .rw [if_pos hk,if_pos hk];rfl
  .rw [if_neg hk,if_neg hk];rfl
theorem ynQ (j:Key) (y:V) (ks:List Key) (vs:List V) (hl:vs.length=ks.length):putK (ks.zip vs) j y=if yqA ks j=true then ks.zip (setK ks vs j y) else (ks++[j]).zip (vs++[y]):=by
 unfold putK
 rw [yqB j ks vs hl,yqC j y ks vs hl,List.zip_append hl.symm]
 rfl
theorem ykX {W:Wd}(w:WOk K W) {x:PV}{v:V}{ks:List Key}{xs:List PV}(e:ykW x W.h=some (ks,xs)) (r:ycI K W x v):∃ a vs,v=.ref a/\W.H a=some (.dK (ks.zip vs))/\vs.length=ks.length/\ycJ K W xs vs:=by
 unfold ykW at e
 split at e
 .split at e
  .rename_i hn
   cases e
   obtain ⟨a,ev,hm,hf,vs,hp,hl,rs⟩:=w.loc hn r
   exact ⟨a,vs,ev,hp,hl,rs⟩
  .cases e
 .cases e
noncomputable def ywM (x:PV) (h:AH):Option (List Key×List PV):=match x with|.loc n=>(match h[n]? with|some (.dct ks xs)=>some (ks,xs)|some (.fz ks xs)=>some (ks,xs)|_=>none)|_=>none
theorem ynR {W:Wd}(w:WOk K W) {x:PV}{v:V}{ks:List Key}{xs:List PV}(e:ywM x W.h=some (ks,xs)) (r:ycI K W x v):∃ a vs,v=.ref a/\Rd W.H a (.dK (ks.zip vs))/\vs.length=ks.length/\ycJ K W xs vs:=by
 unfold ywM at e
 split at e
 .split at e
  .rename_i hn
   cases e
   obtain ⟨a,ev,hm,hf,vs,hp,hl,rs⟩:=w.loc hn r
   exact ⟨a,vs,ev,.inl hp,hl,rs⟩
  .rename_i hn
   cases e
   obtain ⟨a,ev,hm,hf,o,vs,hp,hl,rs⟩:=w.loc hn r
   exact ⟨a,vs,ev,.inr ⟨o,hp⟩,hl,rs⟩
  .cases e
 .cases e
theorem DGet.r {H:Hp}{a:Addr}{kvs:List (Key×V)}{k:Key}(e:Rd H a (.dK kvs)):DGet H a (kV k) (ykU kvs k):=.inl ⟨kvs,k,e,rfl,rfl⟩
def yhx (ed ek:XE):XE:=fun ρ h=>ob (ed ρ h) fun d h1=>ob (ek ρ h1) fun k h2=>match ywM d h2,keyOf k with|some (ks,xs),some j=>(match yhw ks xs j with|some x=>some (x,h2)|none=>none)|_,_=>none
theorem yty {td ty:TE}{ed ek:XE}(a:ybR K td ed) (b:ybR K ty ek):ybR K (yzK td ty) (yhx ed ek):=by
 intro W0 W ρ σ Q z h' g e q
 obtain ⟨d,h1,e1,f1⟩:=yi e
 obtain ⟨k,h2,e2,f2⟩:=yi f1
 refine a W0 W ρ σ _ d h1 g e1 fun vd W1 w1 l1 r1=>?_
 subst w1
 refine b W0 W1 ρ σ _ k h2 (g.step l1) e2 fun vk W2 w2 l2 r2=>?_
 subst w2
 split at f2
 .rename_i ks xs j hd hk
  split at f2
  .rename_i x hx
   cases f2
   obtain ⟨p,vs,ev,hp,hl,rs⟩:=ynR l2.ok hd (l2.rep r1)
   obtain ⟨v,h3,h4⟩:=(yjv j rs hl).1 _ hx
   have:=yhv hk r2
   subst this
   exact ⟨p,v,ev,by rw [<- h3];exact DGet.r hp,q _ W2 rfl (l1.trans l2) h4⟩
  .cases f2
 .cases f2
def yyd (neg:Bool) (ek ed:XE):XE:=fun ρ h=>ob (ek ρ h) fun k h1=>ob (ed ρ h1) fun d h2=>match ywM d h2,keyOf k with|some (ks,xs),some j=>some (.bl (if neg then !(yhw ks xs j).isSome else (yhw ks xs j).isSome),h2)|_,_=>none
theorem yoQ {F:Hp}{m:List Addr}{ks:List Key}{xs:List PV}{vs:List V}(j:Key) (r:RepL K F m xs vs) (hl:vs.length=ks.length):(ykU (ks.zip vs) j).isSome=(yhw ks xs j).isSome:=by
 have h:=yjv j r hl
 cases e:yhw ks xs j with
 | none=>rw [h.2 e];rfl
 | some x=>obtain ⟨v,h1,_⟩:=h.1 x e;rw [h1];rfl
theorem ywN {td ty:TE}{ed ek:XE}(b:ybR K ty ek) (a:ybR K td ed):ybR K (yDV ty td) (yyd false ek ed):=by
 intro W0 W ρ σ Q z h' g e q
 obtain ⟨k,h1,e1,f1⟩:=yi e
 obtain ⟨d,h2,e2,f2⟩:=yi f1
 refine b W0 W ρ σ _ k h1 g e1 fun vk W1 w1 l1 r1=>?_
 subst w1
 refine a W0 W1 ρ σ _ d h2 (g.step l1) e2 fun vd W2 w2 l2 r2=>?_
 subst w2
 split at f2
 .rename_i ks xs j hd hk
  cases f2
  obtain ⟨p,vs,ev,hp,hl,rs⟩:=ynR l2.ok hd r2
  have:=yhv hk (l2.rep r1)
  subst this
  exact ⟨p,_,ev,DGet.r hp,q _ W2 rfl (l1.trans l2) (by rw [yoQ j rs hl];rfl)⟩
 .cases f2
def yjw (ed ek ev:XE):XS:=fun ρ h=>ob (ev ρ h) fun v h1=>ob (ed ρ h1) fun d h2=>ob (ek ρ h2) fun k h3=>match d,keyOf k with
 | .loc n,some j=>(match h3[n]? with|some (.dct ks xs)=>if ks.length<1000 then some (.nx ρ,h3.set n (.dct (ycQ ks xs j v).1 (ycQ ks xs j v).2)) else none|_=>none)
 | _,_=>none
theorem ytz {td ty tv:TE}{ed ek ev:XE}(a:ybR K td ed) (b:ybR K ty ek) (c:ybR K tv ev):yeY K (yzL td ty tv) (yjw ed ek ev):=by
 intro W0 W ρ σ D o h' g e q
 obtain ⟨v,h1,e1,f1⟩:=yi e
 obtain ⟨x,h2,e2,f2⟩:=yi f1
 obtain ⟨i,h3,e3,f3⟩:=yi f2
 refine c W0 W ρ σ _ v h1 g e1 fun vv W1 w1 l1 r1=>?_
 subst w1
 refine a W0 W1 ρ σ _ x h2 (g.step l1) e2 fun vx W2 w2 l2 r2=>?_
 subst w2
 refine b W0 W2 ρ σ _ i h3 (g.step (l1.trans l2)) e3 fun vi W3 w3 l3 r3=>?_
 subst w3
 have w:=l3.ok
 split at f3
 .rename_i n j hk
  split at f3
  .rename_i ks xs hn
   split at f3
   .rename_i hc
    cases f3
    obtain ⟨p,ep,hm,hf,us,hp,hl,rs⟩:=w.loc hn (l3.rep r2)
    have:=yhv hk r3
    subst this
    have hput:=ynQ j vv ks us hl
    have rv:=(l2.trans l3).rep r1
    have key:∃ us',putK (ks.zip us) j vv=(ycQ ks xs j v).1.zip us'/\us'.length=(ycQ ks xs j v).1.length/\ycJ K W3 (ycQ ks xs j v).2 us':=by
     unfold ycQ
     by_cases hj:yqA ks j=true
     .rw [if_pos hj] at hput ⊢
      exact ⟨_,hput,by rw [yju];exact hl,rs.setK ks j rv⟩
     .rw [if_neg hj] at hput ⊢
      exact ⟨_,hput,by rw [length_append,length_append,hl];rfl,rs.snoc rv⟩
    obtain ⟨us',p1,p2,p3⟩:=key
    refine ⟨p,_,ep,DPut.k hp (by rw [length_zip,hl];exact ykt (by omega)),?_⟩
    rw [p1]
    have l4:Le K W3 (ymC W3 n p (.dK ((ycQ ks xs j v).1.zip us')) (.dct (ycQ ks xs j v).1 (ycQ ks xs j v).2)):=yfr w hn hm hf ⟨hf,us',yD,p2,p3⟩
    have l:=l1.trans (l2.trans (l3.trans l4))
    exact q _ σ rfl l.lf (g.step l)
   .cases f3
  .cases f3
 .cases f3
def yoR:XO:=fun _ h=>some (.dct [] [],h)
theorem ytA:ykN K yvi yoR:=by
 intro W0 W ρ σ Q d h' g e q
 cases e
 intro p hp
 exact q p (ygg W p (.dK [])) rfl (ycA g.ok hp) (g.ok.out hp) hp (fun z=>by cases z) ⟨g.ok.ff hp,[],yD,rfl,rfl⟩
end PX
namespace PX
open PySem L2
variable {K:Ck}
def itemsOf (x:PV) (h:AH):Option (List PV):=match x with|.tup xs=>some xs|_=>listOf x h
theorem ymD {W:Wd}(w:WOk K W) {x:PV}{v:V}{xs:List PV}(e:itemsOf x W.h=some xs) (r:ycI K W x v):∃ a vs,v=.ref a/\(SqL K.K W.H a vs\/SqT K.K W.H a vs)/\ycJ K W xs vs:=by
 unfold itemsOf at e
 split at e
 .cases e
  obtain ⟨a,vs,ev,hs,rs⟩:=r
  exact ⟨a,vs,ev,.inr (ydj w hs),rs⟩
 .obtain ⟨a,vs,ev,hs,rs⟩:=ygm w e r
  exact ⟨a,vs,ev,.inl hs,rs⟩
def svs:List PV->Option (List V)
 | []=>some []
 | x::xs=>match sv x,svs xs with|some v,some vs=>some (v::vs)|_,_=>none
theorem yqD {F:Hp}{m:List Addr}:∀ {xs:List PV}{us vs:List V},svs xs=some us->RepL K F m xs vs->vs=us/\us.all yfE=true
 | [],_,_,e,r=>by cases e;exact ⟨r,rfl⟩
 | x::xs,us,_,e,⟨v,r,ev,h,l⟩=>by
  unfold svs at e
  split at e
  .rename_i u us' e1 e2
   cases e
   obtain ⟨h1,h2⟩:=yqD e2 l
   have hv:v=u:=by cases x<;>cases e1<;>exact h
   have hf:yfE u=true:=by cases x<;>cases e1<;>rfl
   exact ⟨by rw [ev,hv,h1],by rw [List.all_cons,hf,h2];rfl⟩
  .cases e
theorem yjx {x:PV}{u:V}(e:sv x=some u):yfE u=true:=by cases x<;>cases e<;>rfl
def yqE (neg:Bool):P2:=fun x y h=>match sv x,itemsOf y h with|some v,some ys=>(match svs ys with|some us=>some (.bl (if neg then !inV v us else inV v us),h)|none=>none)|_,_=>none
theorem ywO {neg:Bool}:ych K (rIn K.K neg) (yqE neg):=by
 intro W x y v u Q z h' w rx ry e q
 unfold yqE at e
 split at e
 .rename_i v' ys ev ey
  split at e
  .rename_i us hu
   cases e
   obtain rfl:=yfb ev rx
   obtain ⟨a,vs,rfl,hs,rs⟩:=ymD w ey ry
   obtain ⟨rfl,hf⟩:=yqD hu rs
   exact ⟨a,vs,rfl,hs,yjx ev,hf,q _ W rfl (.refl w) rfl⟩
  .cases e
 .cases e
end PX
namespace PX
open PySem L2
theorem yCE [i:Decidable True]:decide True=true:=by simp
theorem yCF [i:Decidable False]:decide False=false:=by simp
theorem yCG:(false=true)=False:=by simp
theorem yCH:(true=false)=False:=by simp
theorem ynS {c:XT}{s:XS}{n:Nat}{ρ:PSt}{h:AH}:whl c s (n+1) ρ h=ob (c ρ h) fun k h1=>if k=true then ob (s ρ h1) fun o h2=>(match o with|.nx ρ'=>whl c s n ρ' h2|.ct ρ'=>whl c s n ρ' h2|.bk ρ'=>some (.nx ρ',h2)|.rt y=>some (.rt y,h2)) else some (.nx ρ,h1):=rfl
theorem yvj {a:XA}{ρ:PSt}{h h1:AH}{j:Int}(e:a ρ h=some ([.int j],h1)) (h0:-1000000000<=j) (h2:j<=1000000000):yms a ρ h=some (ygh 0 j.toNat,h1):=by
 unfold yms
 rw [e,ybq]
 show (if _ then _ else _)=_
 rw [if_pos ⟨h0,h2⟩]
theorem yeF {α:Type}{e:XE}{inn:PV->PSt}(f g:α->PV):∀ {ts:List α}{h:AH},(∀ t∈ts,e (inn (f t)) h=some (g t,h))->yij e inn (ts.map f) h=some (ts.map g,h)
 | [],_,_=>rfl
 | t::ts,h,k=>by
  show ob (e (inn (f t)) h) (fun y h1=>ob (yij e inn (ts.map f) h1) fun ys h2=>some (y::ys,h2))=_
  rw [k t mem_cons_self,ybq,yeF f g fun y hy=>k y (mem_cons_of_mem _ hy),ybq]
  rfl
theorem yzN {i:Nat}{e:XE}{ρ:PSt}{h:AH}{xs:List PV}(hx:ρ[i]?=some (.own (.lst xs))):ymr i e ρ h=ob (e ρ h) fun x h1=>if xs.length<100000 then some (.nx (ρ.set i (.own (.lst (xs++[x])))),h1) else none:=by
 unfold ymr
 rw [hx]
theorem yDW {α:Type}{a0:α}{xs:List α}:atI (a0::xs) 0=some a0:=ydw (j:=0) rfl
theorem yEB {α:Type}{a0 a1:α}{xs:List α}:atI (a0::a1::xs) 1=some a1:=ydw (j:=1) rfl
theorem yfL {h:AH}{n:Nat}{xs:List PV}(e:h[n]?=some (.lst xs)):ybg [.loc n] h=some (.lst xs,h):=by
 unfold ybg listOf
 simp only [e]
theorem yjy {h:AH}{n:Nat}{xs:List PV}(e:h[n]?=some (.lst xs)):ycg [.loc n] h=some (.int xs.length,h):=by
 unfold ycg yqr
 simp only [e]
theorem yjz {h:AH}{n:Nat}{xs:List PV}{y:PV}(e:h[n]?=some (.lst xs)) (hl:xs.length<100000):ygM (.loc n) [y] h=some (.non,h.set n (.lst (xs++[y]))):=by
 unfold ygM
 simp only [e]
 rw [if_pos hl]
theorem ydc {h:AH}{n:Nat}{xs:List PV}(e:h[n]?=some (.lst xs)):yfs (.loc n) h=true:=by
 unfold yfs yW
 simp only [e]
end PX
namespace PX
open PySem L2
variable {K:Ck}
section
variable {ta:TE}{ea:XE}
def ymE (i:Nat) (e:XE):XS:=fun ρ h=>match ρ[i]? with
 | some (.own (.lst xs))=>ob (e ρ h) fun x h1=>(match x with|.lst ys=>if xs.length+ys.length<=100000 then some (.nx (ρ.set i (.own (.lst (xs++ys)))),h1) else none|_=>none)
 | _=>none
theorem ytB (i:Nat) (a:ybR K ta ea):yeY K (ypw (tBM K.K "list" ypP (ypn i) (ylT ta ysD))) (ymE i ea):=by
 intro W0 W ρ σ D o h' g e q
 unfold ymE at e
 split at e
 .rename_i xs0 hx
  obtain ⟨x,h1,e1,f1⟩:=yi e
  split at f1
  .rename_i ys
   split at f1
   .rename_i hlen
    cases f1
    obtain ⟨p,a1,a2,a3,a4,hf,vs,hp,r⟩:=g.own i _ hx
    refine ⟨.ref p,a1,.inl ⟨rfl,_,SqL.of hp⟩,?_⟩
    refine a W0 W ρ σ _ _ _ g e1 fun v W1 w1 l1 r1=>?_
    obtain ⟨b,us,rfl,hb,rb⟩:=r1
    refine ⟨p,b,vs,us,rfl,rfl,l1.keep _ _ hp a2,l1.ok.le _ _ hb,by rw [r.len,rb.len];exact yww hlen,?_⟩
    have g1:=g.step l1
    obtain ⟨p',b1,b2,b3,b4,b5,vs',b6,b7⟩:=g1.own i _ hx
    rw [a1] at b1
    cases b1
    rw [l1.keep _ _ hp a2] at b6
    cases b6
    exact q (yqj W1 p (.lst (vs++us))) σ w1 (yqk l1 b2) (g1.mut hx a1 b2 b3 b5 (fun z=>by cases z) ⟨b5,_,yD,b7.app rb⟩)
   .cases f1
  .cases f1
 .cases e
def yoS (i:Nat):XE:=fun ρ h=>match ρ[i]? with|some (.own (.lst xs))=>some (.int xs.length,h)|_=>none
theorem ytC (i:Nat):ybR K (tCB (yyP K.K) (ylT (ypn i) ysD)) (yoS i):=by
 intro W0 W ρ σ Q x h' g e q
 unfold yoS at e
 split at e
 .rename_i xs hx
  cases e
  obtain ⟨p,a1,a2,a3,a4,hf,vs,hp,r⟩:=g.own i _ hx
  refine ⟨.ref p,a1,p,vs,rfl,.inl (SqL.of hp),?_⟩
  rw [r.len]
  exact q _ W rfl (.refl g.ok) rfl
 .cases e
end
end PX
namespace PX
open PySem L2
variable {K:Ck}
end PX
namespace PX
open PySem L2
variable {K:Ck}
def Odd (K:PySem.W.Frag) (H:Hp):Prop:=∃ a o ob,H a=some o/\K.lookup a=some ob
inductive EqR (K:PySem.W.Frag) (H:Hp):Nat->V->V->Bool->Prop where
 | flat {n:Nat}{x y:V}(fx:yfE x=true) (fy:yfE y=true):EqR K H n x y (eqV x y)
 | same {n:Nat}{a:Addr}:EqR K H n (.ref a) (.ref a) true
 | odd {n:Nat}{x y:V}{b:Bool}(h:Odd K H):EqR K H n x y b
 | nt {n:Nat}{b:Addr}{ys:List V}(hb:SqT K H b ys):EqR K H (n+1) .non (.ref b) false
 | tn {n:Nat}{b:Addr}{ys:List V}(hb:SqT K H b ys):EqR K H (n+1) (.ref b) .non false
 | lst {n:Nat}{a b:Addr}{xs ys:List V}{e:Nat->Bool}(ha:H a=some (.lst xs)) (hb:H b=some (.lst ys)) (hl:xs.length=ys.length) (hne:a≠b) (he:∀ j x y,xs[j]?=some x->ys[j]?=some y->EqR K H n x y (e j)):EqR K H (n+1) (.ref a) (.ref b) ((List.range xs.length).all e)
 | lstN {n:Nat}{a b:Addr}{xs ys:List V}(ha:H a=some (.lst xs)) (hb:H b=some (.lst ys)) (hl:xs.length≠ys.length):EqR K H (n+1) (.ref a) (.ref b) false
 | tup {n:Nat}{a b:Addr}{xs ys:List V}{e:Nat->Bool}(ha:SqT K H a xs) (hb:SqT K H b ys) (hne:a≠b) (he:∀ j x y,xs[j]?=some x->ys[j]?=some y->EqR K H n x y (e j)):EqR K H (n+1) (.ref a) (.ref b) ((List.range (min xs.length ys.length)).all e && xs.length == ys.length)
inductive RcR (K:PySem.W.Frag) (H:Hp):V->V->Bool->Prop where
 | nt {b:Addr}{ys:List V}(hb:SqT K H b ys):RcR K H .non (.ref b) false
 | tn {b:Addr}{ys:List V}(hb:SqT K H b ys):RcR K H (.ref b) .non false
 | lst {a b:Addr}{xs ys:List V}{e:Nat->Bool}(ha:H a=some (.lst xs)) (hb:H b=some (.lst ys)) (hl:xs.length=ys.length) (he:∀ j x y,xs[j]?=some x->ys[j]?=some y->EqR K H 40 x y (e j)):RcR K H (.ref a) (.ref b) ((List.range xs.length).all e)
 | lstN {a b:Addr}{xs ys:List V}(ha:H a=some (.lst xs)) (hb:H b=some (.lst ys)) (hl:xs.length≠ys.length):RcR K H (.ref a) (.ref b) false
 | tup {a b:Addr}{xs ys:List V}{e:Nat->Bool}(ha:SqT K H a xs) (hb:SqT K H b ys) (he:∀ j x y,xs[j]?=some x->ys[j]?=some y->EqR K H 40 x y (e j)):RcR K H (.ref a) (.ref b) ((List.range (min xs.length ys.length)).all e && xs.length == ys.length)
def yDX (K:PySem.W.Frag):R2:=fun x y H Q=>∃ b,RcR K H x y b/\Q (.bl b) H
def yDY (K:PySem.W.Frag):R2:=fun x y H Q=>∃ b,RcR K H x y b/\Q (.bl (!b)) H
noncomputable def ygw (f:PV->PV->Option Bool):List PV->List PV->Option Bool
 | x::xs,y::ys=>(match f x y,ygw f xs ys with|some b,some c=>some (b && c)|_,_=>none)
 | _,_=>some true
def pairE (f:PV->PV->Option Bool) (h:AH) (x y:PV):Option Bool:=match x,y with
 | .tup xs,.tup ys=>(match ygw f xs ys with|some b=>some (b && xs.length == ys.length)|none=>none)
 | .non,.tup _=>some false
 | .tup _,.non=>some false
 | x,y=>(match yW x h,yW y h with|some xs,some ys=>if xs.length=ys.length then ygw f xs ys else some false|_,_=>none)
def eqP:Nat->AH->PV->PV->Option Bool
 | 0,_,_,_=>none
 | n+1,h,x,y=>match sv x,sv y with
  | some u,some v=>some (eqV u v)
  | _,_=>pairE (eqP n h) h x y
theorem yjA:∀ {v:V},yfE v=true->eqV v v=true
 | .non,_=>rfl
 | .bl b,_=>by cases b<;>rfl
 | .int i,_=>by simp [eqV]
 | .str s,_=>by simp [eqV]
noncomputable def unV:Value->Option V
 | .none=>some .non
 | .bool b=>some (.bl b)
 | .int i _=>some (.int i)
 | .str x _=>some (.str x)
 | .bytes b _=>some (.byt b)
 | .float b _=>some (.flt b)
 | .ref a=>some (.ref a)
 | .type n=>some (.ty n)
 | _=>none
theorem yvk:∀ {v:V}{u:Value},RelV v u->unV u=some v
 | .non,_,h=>by rw [show _=Value.none from h];rfl
 | .bl _,_,h=>by rw [show _=Value.bool _ from h];rfl
 | .int _,_,⟨_,h⟩=>by rw [h];rfl
 | .str _,_,⟨_,h⟩=>by rw [h];rfl
 | .byt _,_,⟨_,h⟩=>by rw [h];rfl
 | .flt _,_,⟨_,h⟩=>by rw [h];rfl
 | .ref _,_,h=>by rw [show _=Value.ref _ from h];rfl
 | .ty _,_,h=>by rw [show _=Value.type _ from h];rfl
theorem ywP {v w:V}{u:Value}(h1:RelV v u) (h2:RelV w u):v=w:=Option.some.inj ((yvk h1).symm.trans (yvk h2))
theorem ytD {vs ws:List V}{us:List Value}(h1:Vals vs us):Vals ws us->vs=ws:=by
 induction h1 generalizing ws with
 | nil=>intro h2;cases h2;rfl
 | cons r _ ih=>intro h2;cases h2 with|cons r2 t2=>rw [ywP r r2,ih t2]
theorem yzO {F H:Hp}{a:Addr}{vs ws:List V}(s:Same F H) (h1:TpAt K.K F a vs) (h2:TpAt K.K F a ws):vs=ws\/Odd K.K H:=by
 rcases h1 with h1|⟨o,its,n,e1,e2,e3,e4,e5⟩
 .rcases h2 with h2|⟨o,its,n,e1,e2,e3,e4,e5⟩
  .rw [h1] at h2;cases h2;exact .inl rfl
  .exact .inr ⟨a,_,o,s _ _ h1,e1⟩
 .rcases h2 with h2|⟨o',its',n',e1',e2',e3',e4',e5'⟩
  .exact .inr ⟨a,_,o,s _ _ h2,e1⟩
  .rw [e1] at e1';cases e1'
   rw [e3] at e3';cases e3'
   exact .inl (ytD e5 e5')
theorem yhy {f:PV->PV->Option Bool}{W:Wd}(hf:∀ x y v b,f x y=some b->ycI K W x v->ycI K W y v->b=true\/Odd K.K W.H):∀ {xs ys:List PV}{vs:List V}{c:Bool},ycJ K W xs vs->ycJ K W ys vs->ygw f xs ys=some c->c=true\/Odd K.K W.H
 | [],_,_,_,_,_,e=>by simp [ygw] at e;exact .inl e
 | _::_,[],_,_,_,_,e=>by simp [ygw] at e;exact .inl e
 | x::xs,y::ys,_,c,⟨v,r,e1,h1,l1⟩,⟨u,q,e2,h2,l2⟩,e=>by
  rw [e1] at e2
  cases e2
  unfold ygw at e
  cases eb:f x y with
  | none=>rw [eb] at e;cases e
  | some b =>
   cases ec:ygw f xs ys with
   | none=>rw [eb,ec] at e;cases e
   | some c' =>
    rw [eb,ec] at e
    cases e
    rcases hf x y _ b eb h1 h2 with z|z
    .rcases yhy hf l1 l2 ec with z'|z'
     .exact .inl (by rw [z,z'];rfl)
     .exact .inr z'
    .exact .inr z
theorem yoT {f:PV->PV->Option Bool}{W:Wd}(w:WOk K W) (hf:∀ x y v b,f x y=some b->ycI K W x v->ycI K W y v->b=true\/Odd K.K W.H) {x y:PV}{v:V}{b:Bool}(e:pairE f W.h x y=some b) (rx:ycI K W x v) (ry:ycI K W y v):b=true\/Odd K.K W.H:=by
 unfold pairE at e
 split at e
 .rename_i xs ys
  obtain ⟨a,vs,ev,ha,ra⟩:=rx
  obtain ⟨a',vs',ev',ha',ra'⟩:=ry
  rw [ev] at ev'
  cases ev'
  rcases yzO w.le ha ha' with z|z
  .subst z
   cases ec:ygw f xs ys with
   | none=>rw [ec] at e;cases e
   | some c =>
    rw [ec] at e
    cases e
    rcases yhy hf ra ra' ec with z|z
    .left
     rw [z,<- ra.len,<- ra'.len]
     simp
    .exact .inr z
  .exact .inr z
 .obtain ⟨a',vs',ev',ha',ra'⟩:=ry
  have rx:v=.non:=rx
  rw [rx] at ev';cases ev'
 .obtain ⟨a',vs',ev',ha',ra'⟩:=rx
  have ry:v=.non:=ry
  rw [ry] at ev';cases ev'
 .split at e
  .rename_i xs ys hx hy
   obtain ⟨a,vs,ev,ha,ra⟩:=yZ w hx rx
   obtain ⟨a',vs',ev',ha',ra'⟩:=yZ w hy ry
   rw [ev] at ev'
   cases ev'
   rw [ha] at ha'
   cases ha'
   rw [if_pos (by rw [<- ra.len,<- ra'.len])] at e
   exact yhy hf ra ra' e
  .cases e
theorem yjB {W:Wd}(w:WOk K W):∀ (n:Nat) (x y:PV) (v:V) (b:Bool),eqP n W.h x y=some b->ycI K W x v->ycI K W y v->b=true\/Odd K.K W.H
 | 0,_,_,_,_,e,_,_=>by cases e
 | n+1,x,y,v,b,e,rx,ry=>by
  unfold eqP at e
  split at e
  .rename_i u u' hu hu'
   cases e
   rw [<- yfb hu rx,<- yfb hu' ry]
   exact .inl (yjA (by rw [yfb hu rx];exact yjx hu))
  .exact yoT w (yjB w n) e rx ry
theorem yhz {f:PV->PV->Option Bool}{W:Wd}{n:Nat}(hf:∀ x y v u b,f x y=some b->ycI K W x v->ycI K W y u->EqR K.K W.H n v u b):∀ {xs ys:List PV}{vs us:List V}{c:Bool},ycJ K W xs vs->ycJ K W ys us->ygw f xs ys=some c ->
  ∃ e:Nat->Bool,(∀ j v u,vs[j]?=some v->us[j]?=some u->EqR K.K W.H n v u (e j))/\c=(List.range (min vs.length us.length)).all e
 | [],_,_,_,c,h1,_,e=>by
  rw [show _=[] from h1]
  simp [ygw] at e
  exact ⟨fun _=>true,fun j v u hv=>by simp at hv,by simp [e]⟩
 | _::_,[],_,_,c,_,h2,e=>by
  rw [show _=[] from h2]
  simp [ygw] at e
  exact ⟨fun _=>true,fun j v u _ hu=>by simp at hu,by simp [e]⟩
 | x::xs,y::ys,_,_,c,⟨v,r,e1,h1,l1⟩,⟨u,q,e2,h2,l2⟩,e=>by
  subst e1 e2
  unfold ygw at e
  cases eb:f x y with
  | none=>rw [eb] at e;cases e
  | some b =>
   cases ec:ygw f xs ys with
   | none=>rw [eb,ec] at e;cases e
   | some c' =>
    rw [eb,ec] at e
    cases e
    obtain ⟨e',k1,k2⟩:=yhz hf l1 l2 ec
    refine ⟨fun j=>match j with|0=>b|j+1=>e' j,fun j v' u' hv hu=>?_,?_⟩
    .cases j with
     | zero =>
      simp at hv hu
      subst hv hu
      exact hf x y _ _ b eb h1 h2
     | succ j=>exact k1 j v' u' (by simpa using hv) (by simpa using hu)
    .rw [k2,length_cons,length_cons,show min (r.length+1) (q.length+1)=min r.length q.length+1 by omega,List.range_succ_eq_map,List.all_cons,List.all_map]
     rfl
theorem ynT {W:Wd}(w:WOk K W):∀ (n:Nat) (x y:PV) (v u:V) (b:Bool),eqP n W.h x y=some b->ycI K W x v->ycI K W y u->EqR K.K W.H n v u b
 | 0,_,_,_,_,_,e,_,_=>by cases e
 | n+1,x,y,v,u,b,e,rx,ry=>by
  have e0:=e
  unfold eqP at e
  split at e
  .rename_i v' u' hv hu
   cases e
   rw [yfb hv rx,yfb hu ry]
   exact .flat (yjx hv) (yjx hu)
  .unfold pairE at e
   split at e
   .rename_i xs ys _
    obtain ⟨a,vs,ev,ha,ra⟩:=rx
    obtain ⟨a',us,eu,ha',ra'⟩:=ry
    by_cases hab:a=a'
    .subst hab
     rcases yjB w (n+1) _ _ v b e0 ⟨a,vs,ev,ha,ra⟩ (by rw [ev,<- eu];exact ⟨a,us,eu,ha',ra'⟩) with this|z
     .rw [this,ev,eu]
      exact .same
     .exact .odd z
    .cases ec:ygw (eqP n W.h) xs ys with
     | none=>rw [ec] at e;cases e
     | some c =>
      rw [ec] at e
      cases e
      obtain ⟨e',k1,k2⟩:=yhz (ynT w n) ra ra' ec
      rw [ev,eu,k2,<- ra.len,<- ra'.len]
      exact .tup (ydj w ha) (ydj w ha') hab k1
   .obtain ⟨a',us,eu,ha',ra'⟩:=ry
    cases e
    rw [show v=.non from rx,eu]
    exact .nt (ydj w ha')
   .obtain ⟨a',us,eu,ha',ra'⟩:=rx
    cases e
    rw [show u=.non from ry,eu]
    exact .tn (ydj w ha')
   .split at e
    .rename_i xs ys hx hy
     obtain ⟨a,vs,ev,ha,ra⟩:=yZ w hx rx
     obtain ⟨a',us,eu,ha',ra'⟩:=yZ w hy ry
     by_cases hab:a=a'
     .subst hab
      rcases yjB w (n+1) _ _ v b e0 rx (by rw [ev,<- eu];exact ry) with this|z
      .rw [this,ev,eu]
       exact .same
      .exact .odd z
     .split at e
      .rename_i hl
       obtain ⟨e',k1,k2⟩:=yhz (ynT w n) ra ra' e
       have hl':vs.length=us.length:=by rw [ra.len,ra'.len,hl]
       rw [ev,eu,k2,<- hl',Nat.min_self]
       exact .lst ha ha' hl' hab k1
      .rename_i hl
       cases e
       rw [ev,eu]
       exact .lstN ha ha' (by rw [ra.len,ra'.len];exact hl)
    .cases e
def ypo:P2:=fun x y h=>match pairE (eqP 40 h) h x y with|some b=>some (.bl b,h)|none=>none
def ynU:P2:=fun x y h=>match pairE (eqP 40 h) h x y with|some b=>some (.bl (!b),h)|none=>none
theorem ynV {W:Wd}(w:WOk K W) {x y:PV}{v u:V}{b:Bool}(e:pairE (eqP 40 W.h) W.h x y=some b) (rx:ycI K W x v) (ry:ycI K W y u):RcR K.K W.H v u b:=by
 unfold pairE at e
 split at e
 .rename_i xs ys
  obtain ⟨a,vs,ev,ha,ra⟩:=rx
  obtain ⟨a',us,eu,ha',ra'⟩:=ry
  cases ec:ygw (eqP 40 W.h) xs ys with
  | none=>rw [ec] at e;cases e
  | some c =>
   rw [ec] at e
   cases e
   obtain ⟨e',k1,k2⟩:=yhz (ynT w 40) ra ra' ec
   rw [ev,eu,k2,<- ra.len,<- ra'.len]
   exact .tup (ydj w ha) (ydj w ha') k1
 .obtain ⟨a',us,eu,ha',ra'⟩:=ry
  cases e
  rw [show v=.non from rx,eu]
  exact .nt (ydj w ha')
 .obtain ⟨a',us,eu,ha',ra'⟩:=rx
  cases e
  rw [show u=.non from ry,eu]
  exact .tn (ydj w ha')
 .split at e
  .rename_i xs ys hx hy
   obtain ⟨a,vs,ev,ha,ra⟩:=yZ w hx rx
   obtain ⟨a',us,eu,ha',ra'⟩:=yZ w hy ry
   split at e
   .rename_i hl
    obtain ⟨e',k1,k2⟩:=yhz (ynT w 40) ra ra' e
    have hl':vs.length=us.length:=by rw [ra.len,ra'.len,hl]
    rw [ev,eu,k2,<- hl',Nat.min_self]
    exact .lst ha ha' hl' k1
   .rename_i hl
    cases e
    rw [ev,eu]
    exact .lstN ha ha' (by rw [ra.len,ra'.len];exact hl)
  .cases e
theorem ytE:ych K (yDX K.K) ypo:=by
 intro W x y v u Q z h' w rx ry e q
 unfold ypo at e
 split at e
 .rename_i b hb
  cases e
  exact ⟨b,ynV w hb rx ry,q _ W rfl (.refl w) rfl⟩
 .cases e
theorem yoU:ych K (yDY K.K) ynU:=by
 intro W x y v u Q z h' w rx ry e q
 unfold ynU at e
 split at e
 .rename_i b hb
  cases e
  exact ⟨b,ynV w hb rx ry,q _ W rfl (.refl w) rfl⟩
 .cases e
end PX
namespace PX
open PySem L2
variable {K:Ck}
def ydW:XS:=fun _ _=>none
theorem ytF:yeY K yuJ ydW:=fun _ _ _ _ _ _ _ _ e _=>by cases e
def yk (k:Nat) (m:Str) (f:Fn) (e:XE) (as:XA):XE:=fun ρ h=>ob (e ρ h) fun x h1=>match ygL x h1 with
 | some (k',ns,_)=>if k'=k/\m∉ns then ob (as ρ h1) fun ys h2=>f (x::ys) h2 else none
 | none=>none
theorem ykY {k n:Nat}{m:Str}{f:Fn}{ex:XK}{ta:TE}{t:TA}{ea:XE}{as:XA}(a:ybR K ta ea) (b:ylK K t as) (hn:∀ ρ h xs h',as ρ h=some (xs,h')->xs.length=n) :
  ybR K (yvQ (K.A k) m (spE K (n+1) f) [] ex ta t) (yk k m f ea as):=by
 intro W0 W ρ σ Q z h' g e q
 obtain ⟨x,h1,e1,f1⟩:=yi e
 refine a W0 W ρ σ _ x h1 g e1 fun v W1 w1 l1 r1=>?_
 subst w1
 split at f1
 .rename_i k' ns xs hi
  split at f1
  .rename_i hc
   obtain ⟨ys,h2,e2,f2⟩:=yi f1
   obtain ⟨p,dx,vs,ev,hp,hl,rs⟩:=yfI l1.ok hi r1
   rw [hc.1] at hp
   refine ⟨p,dx,_,ev,hp,ydx hc.2,?_⟩
   refine b W0 W1 ρ σ _ ys h2 (g.step l1) e2 fun us W2 w2 l2 r2=>?_
   subst w2
   rw [append_nil]
   exact ⟨W2,x::ys,z,h',rfl,l2.ok,⟨v,us,rfl,l2.rep r1,r2⟩,by rw [length_cons,hn _ _ _ _ e2],f2,fun u W3 w3 l3 r3=>q u W3 w3 ((l1.trans l2).trans l3) r3⟩
  .cases f1
 .cases f1
def ydd (cs:List Nat) (f:Str) (eo ev:XE):XS:=fun ρ h=>ob (ev ρ h) fun y h1=>ob (eo ρ h1) fun x h2=>match x with
 | .loc n=>(match h2[n]? with|some (.ins k ns xs)=>if k∈cs/\ns.length<1000 then some (.nx ρ,h2.set n (.ins k (putN f y ns xs).1 (putN f y ns xs).2)) else none|_=>none)
 | _=>none
theorem ytG {cs:List Nat}{f:Str}{ta tv:TE}{ea ev:XE}(hc:∀ k∈cs,Cls K.K (K.A k)/\NoAttr K.K (K.A k) f) (a:ybR K ta ea) (c:ybR K tv ev):yeY K (yBF K.K ta tv f) (ydd cs f ea ev):=by
 intro W0 W ρ σ D o h' g e q
 obtain ⟨y,h1,e1,f1⟩:=yi e
 obtain ⟨x,h2,e2,f2⟩:=yi f1
 refine c W0 W ρ σ _ y h1 g e1 fun vy W1 w1 l1 r1=>?_
 subst w1
 refine a W0 W1 ρ σ _ x h2 (g.step l1) e2 fun vx W2 w2 l2 r2=>?_
 subst w2
 have w:=l2.ok
 split at f2
 .rename_i n
  split at f2
  .rename_i k ns xs hn
   split at f2
   .rename_i hk
    cases f2
    obtain ⟨p,ep,hm,hf,dx,us,hp,hl,rs⟩:=w.loc hn r2
    obtain ⟨us',p1,p2,p3⟩:=rs.putN (f:=f) hl (l2.rep r1)
    refine ⟨p,_,dx,_,ep,hp,(hc k hk.1).1,(hc k hk.1).2,by rw [length_zip,hl];simpa using hk.2,?_⟩
    rw [p1]
    have l4:Le K W2 (ymC W2 n p (.ins (K.A k) dx ((putN f y ns xs).1.zip us')) (.ins k (putN f y ns xs).1 (putN f y ns xs).2)):=yfr w hn hm hf ⟨hf,dx,us',yD,p2,p3⟩
    have l:=l1.trans (l2.trans l4)
    exact q _ σ rfl l.lf (g.step l)
   .cases f2
  .cases f2
 .cases f2
end PX
namespace PX
open PySem L2
variable {K:Ck}
def ymF (r d:Addr):HO:=.ext fun h=>h.get? r=some { cls:=.type "dict_items",data:=.fields #[.ref d] }
noncomputable def yvl:V->List V->Hp->VK->Prop:=fun x vs H Q=>∃ d kvs,x=.ref d/\vs=[]/\H d=some (.dK kvs)/\∀ r,H r=none->Q (.ref r) (upd H r (ymF r d))
noncomputable def ynW (H:Hp) (as:List Addr) (ts:List (List V)):Hp:=fun b=>match (as.zip ts).lookup b with|some t=>some (.tup t)|none=>H b
def yBr (H:Hp) (p:Addr) (as:List Addr) (ts:List (List V)):Hp:=upd (ynW H as ts) p (.lst (as.map V.ref))
def rSI:List V->Hp->VK->Prop:=fun xs H Q=>∃ (r d:Addr) (kvs:List (Key×V)) (ns:List Int),xs=[.ref r]/\H r=some (ymF r d)/\H d=some (.dK kvs)/\kvs.map (·.1)=ns.map .inl/\kvs.length<3 /\
 ∀ (p:Addr) (as:List Addr) (q:List Nat),q.Perm (List.range ns.length)->q.Pairwise (fun i j=>ns.getD i 0<=ns.getD j 0)->ns.Nodup->as.length=q.length->(∀ a∈p::as,H a=none)->(p::as).Nodup ->
  Q (.ref p) (yBr H p as (q.map fun i=>[V.int (ns.getD i 0),(kvs.map (·.2)).getD i .non]))
def yye (p:Int×PV):List (Int×PV)->List (Int×PV)
 | []=>[p]
 | q::r=>if p.1<=q.1 then p::q::r else q::yye p r
def yqF:List (Int×PV)->List (Int×PV)
 | []=>[]
 | p::r=>yye p (yqF r)
def yqG:List Key->Option (List Int)
 | []=>some []
 | .inl i::r=>(yqG r).map (i::·)
 | .inr _::_=>none
theorem ynX:∀ {ks:List Key}{ns:List Int},yqG ks=some ns->ks=ns.map .inl
 | [],ns,h=>by cases h;rfl
 | .inl i::r,ns,h=>by
  obtain ⟨m,e,rfl⟩:=Option.map_eq_some_iff.mp h
  rw [map_cons,<- ynX e]
 | .inr _::_,_,h=>by cases h
theorem yhA (p:Int×PV):∀ l,(yye p l).Perm (p::l)
 | []=>.refl _
 | q::r=>by
  unfold yye
  split
  .exact .refl _
  .exact ((yhA p r).cons q).trans (.swap _ _ _)
theorem ygn:∀ l,(yqF l).Perm l
 | []=>.refl _
 | p::r=>(yhA p _).trans ((ygn r).cons p)
theorem yqH {p:Int×PV}:∀ {l:List (Int×PV)},l.Pairwise (fun a b=>a.1<=b.1)->(yye p l).Pairwise (fun a b=>a.1<=b.1)
 | [],_=>List.pairwise_singleton _ _
 | q::r,h=>by
  obtain ⟨h1,h2⟩:=List.pairwise_cons.mp h
  unfold yye
  split
  .rename_i hc
   exact List.pairwise_cons.mpr ⟨fun b hb=>by
    rcases mem_cons.mp hb with rfl|hb
    .exact hc
    .exact Int.le_trans hc (h1 b hb),h⟩
  .rename_i hc
   refine List.pairwise_cons.mpr ⟨fun b hb=>?_,yqH h2⟩
   rcases mem_cons.mp ((yhA p r).mem_iff.mp hb) with rfl|hb
   .omega
   .exact h1 b hb
theorem ynY:∀ l,(yqF l).Pairwise (fun a b=>a.1<=b.1)
 | []=>.nil
 | _::r=>yqH (ynY r)
theorem ytH {ns:List Int}{xs:List PV}{q:List Nat}(hl:xs.length=ns.length) (hp:q.Perm (List.range ns.length)) (hs:q.Pairwise fun i j=>ns.getD i 0<=ns.getD j 0) (nd:ns.Nodup) :
  (q.map fun i=>(ns.getD i 0,xs.getD i .non))=yqF (ns.zip xs):=by
 have hz:((List.range ns.length).map fun i=>(ns.getD i 0,xs.getD i .non))=ns.zip xs:=by
  apply List.ext_getElem
  .simp [hl]
  .intro i h1 h2
   have h3:i<ns.length:=by simpa using h1
   simp [getD,List.getElem?_eq_getElem h3,List.getElem?_eq_getElem (show i<xs.length by omega)]
 have hm:(q.map fun i=>(ns.getD i 0,xs.getD i .non)).Perm (ns.zip xs):=by rw [<- hz];exact hp.map _
 have hk:(ns.zip xs).map (·.1)=ns:=List.map_fst_zip (by omega)
 refine List.Perm.eq_of_pairwise (le:=fun a b=>a.1<=b.1) (fun a b ha hb h1 h2=>?_) (List.pairwise_map.mpr hs) (ynY _) (hm.trans (ygn _).symm)
 have ha:=hm.mem_iff.mp ha
 have hb:=(ygn _).mem_iff.mp hb
 obtain ⟨i,hi,rfl⟩:=getElem_of_mem ha
 obtain ⟨j,hj,rfl⟩:=getElem_of_mem hb
 have hi':i<ns.length:=by rw [length_zip] at hi;omega
 have hj':j<ns.length:=by rw [length_zip] at hj;omega
 have e:ns[i]=ns[j]:=by
  have:((ns.zip xs)[i]).1=((ns.zip xs)[j]).1:=Int.le_antisymm h1 h2
  simpa using this
 have:=yiM nd hi' hj' e
 subst this
 rfl
def yDZ (W:Wd) (as:List Addr) (ts:List (List V)):Wd:=⟨ynW W.F as ts,ynW W.H as ts,W.m,W.h⟩
theorem lookup_mem {α:Type}:∀ {as:List Addr}{ts:List α}{b:Addr}{t:α},(as.zip ts).lookup b=some t->b∈as
 | [],_,_,_,h=>by simp at h
 | _::_,[],_,_,h=>by simp at h
 | a::as,u::ts,b,t,h=>by
  rw [zip_cons_cons,lookup_cons] at h
  split at h
  .rename_i hb;rw [eq_of_beq hb];exact mem_cons_self
  .exact mem_cons_of_mem _ (lookup_mem h)
theorem ygo {H:Hp}{as:List Addr}{ts:List (List V)}{b:Addr}(h:b∉as):ynW H as ts b=H b:=by
 unfold ynW
 split
 .rename_i e;exact absurd (lookup_mem e) h
 .rfl
theorem ywQ {W:Wd}{as:List Addr}{ts:List (List V)}(w:WOk K W) (h:∀ a∈as,W.H a=none):Le K W (yDZ W as ts):=by
 have nm:∀ a∈as,a∉W.m:=fun a ha=>w.out (h a ha)
 have sF:Same W.F (ynW W.F as ts):=fun b o e=>by
  rw [ygo fun z=>by rw [w.ff (h b z)] at e;cases e];exact e
 have sH:Same W.H (ynW W.H as ts):=fun b o e=>by
  rw [ygo fun z=>by rw [h b z] at e;cases e];exact e
 refine ⟨⟨?_,w.len,w.nd,fun n d a e1 e2=>?_⟩,sF,prefix_refl _,fun b u e _=>sH b u e,fun b u e _ f=>?_,fun b z n=>absurd z n,fun n ks xs e1=>⟨e1,fun a e2=>ygo fun z=>nm a z (mem_of_getElem? e2)⟩⟩
 .intro b u e
  have e:ynW W.F as ts b=some u:=e
  show ynW W.H as ts b=some u
  unfold ynW at e ⊢
  split at e
  .exact e
  .exact w.le _ _ e
 .have ha:a∉as:=fun z=>nm a z (mem_of_getElem? e2)
  exact (w.at_ n d a e1 e2).mono sF (prefix_refl _) (fun u e=>sH _ _ e) fun f=>(ygo ha).trans f
 .exact (ygo fun z=>by rw [h b z] at e;cases e).trans f
theorem ykZ {F:Hp}{m:List Addr}{Y:Nat->PV}{T:Nat->List V}{Z:Nat->List PV}(hY:∀ i,Y i=.tup (Z i)):∀ (as:List Addr) (q:List Nat),as.length=q.length->as.Nodup->(∀ a∈as,∀ i,i∈q->(as.zip (q.map T)).lookup a=some (T i)->F a=some (.tup (T i))) ->
  (∀ i∈q,RepL K F m (Z i) (T i))->RepL K F m (q.map Y) (as.map V.ref)
 | [],[],_,_,_,_=>rfl
 | [],_::_,h,_,_,_=>by cases h
 | _::_,[],h,_,_,_=>by cases h
 | a::as,i::q,hl,hn,hF,hR=>by
  obtain ⟨n1,n2⟩:=List.nodup_cons.mp hn
  refine ⟨.ref a,_,rfl,?_,ykZ hY as q (by simpa using hl) n2 (fun b hb j hj e=>?_) fun j hj=>hR j (mem_cons_of_mem _ hj)⟩
  .rw [hY]
   exact ⟨a,T i,rfl,.inl (hF a mem_cons_self i mem_cons_self (by simp)),hR i mem_cons_self⟩
  .refine hF b (mem_cons_of_mem _ hb) j (mem_cons_of_mem _ hj) ?_
   rw [map_cons,zip_cons_cons,lookup_cons]
   have:(b == a)=false:=beq_eq_false_iff_ne.mpr fun z=>n1 (z ▸ hb)
   rw [this]
   exact e
noncomputable def sortI (ks:List Key) (xs:List PV):Option (List PV):=match yqG ks with|some ns=>if ns.length<3 then some ((yqF (ns.zip xs)).map fun p=>.tup [.int p.1,p.2]) else none|none=>none
def yiN (e:XE):XO:=fun ρ h=>ob (e ρ h) fun x h1=>match ykW x h1 with|some (ks,xs)=>(match sortI ks xs with|some l=>some (.lst l,h1)|none=>none)|none=>none
theorem yvm {W:Wd}{x:PV}{v:V}{ks:List Key}{xs:List PV}(w:WOk K W) (e:ykW x W.h=some (ks,xs)) (r:ycI K W x v):tyV K.K "dict" v W.H:=by
 obtain ⟨a,vs,rfl,hp,_⟩:=ykX w e r
 exact .inr (.inr (.inl ⟨rfl,.inl ⟨_,hp⟩⟩))
theorem yqI {ta:TE}{ea:XE}(a:ybR K ta ea):ykN K (tCB rSI (ylT (yBI K.K "dict" yvl ta) ysD)) (yiN ea):=by
 intro W0 W ρ σ Q z h' g e q
 obtain ⟨x,h1,e1,f1⟩:=yi e
 refine a W0 W ρ σ _ x h1 g e1 fun v W1 w1 l1 r1=>?_
 subst w1
 split at f1
 .rename_i ks xs hd
  split at f1
  .rename_i l hl
   cases f1
   refine ⟨yvm l1.ok hd r1,?_⟩
   obtain ⟨d,vs,ev,hp,hvl,rs⟩:=ykX l1.ok hd r1
   subst ev
   refine ⟨d,_,rfl,rfl,hp,fun r hr=>?_⟩
   unfold sortI at hl
   split at hl
   .rename_i ns hk
    split at hl
    .rename_i h64
     cases hl
     have hk:=ynX hk
     have l2:=ycA (o:=ymF r d) l1.ok hr
     have hnl:ks.length=ns.length:=by rw [hk,length_map]
     have hxl:xs.length=ns.length:=by rw [<- rs.len];omega
     show rSI [.ref r] (upd W1.H r (ymF r d)) Q
     refine ⟨r,d,ks.zip vs,ns,rfl,yD,(yL (ybw hp hr)).trans hp,by rw [List.map_fst_zip (by omega),hk],by rw [length_zip];omega,fun p as o hperm hs nd hal hfree hnd=>?_⟩
     rw [List.map_snd_zip (by omega)]
     generalize hW2:ygg W1 r (ymF r d)=W2 at l2
     have hH2:W2.H=upd W1.H r (ymF r d):=by rw [<- hW2];rfl
     rw [<- hH2] at hfree ⊢
     have l3:=ywQ (ts:=o.map fun i=>[V.int (ns.getD i 0),vs.getD i .non]) l2.ok fun a ha=>hfree a (mem_cons_of_mem _ ha)
     obtain ⟨n1,n2⟩:=List.nodup_cons.mp hnd
     have hp3:(yDZ W2 as (o.map fun i=>[V.int (ns.getD i 0),vs.getD i .non])).H p=none:=(ygo n1).trans (hfree p mem_cons_self)
     have l4:=ycA (o:=.lst (as.map V.ref)) l3.ok hp3
     have l:=l2.trans (l3.trans l4)
     have inq:∀ i∈o,i<ns.length:=fun i hi=>by have:=hperm.mem_iff.mp hi;simpa using this
     refine q p _ (by rw [<- hW2];rfl) (l1.trans l) (l3.ok.out hp3) ((l1.trans l2).fresh (hfree p mem_cons_self)) (fun z=>by cases z) ⟨l3.ok.ff hp3,_,yD,?_⟩
     rw [<- ytH hxl hperm hs nd,map_map]
     refine ykZ (T:=fun i=>[V.int (ns.getD i 0),vs.getD i .non]) (Z:=fun i=>[.int (ns.getD i 0),xs.getD i .non]) (fun i=>rfl) as o hal n2 (fun a ha i hi e=>?_) fun i hi=>⟨_,_,rfl,rfl,_,_,rfl,?_,rfl⟩
     .show ynW W2.F as _ a=_
      unfold ynW
      rw [e]
     .have hi':=inq i hi
      obtain ⟨u,h3,h4⟩:=(l2.trans (l3.trans l4)).repL rs |>.get (List.getElem?_eq_getElem (show i<xs.length by omega))
      have e5:xs.getD i .non=xs[i]'(by omega):=by simp [getD,List.getElem?_eq_getElem (show i<xs.length by omega)]
      have e6:vs.getD i .non=u:=by simp [getD,h3]
      rw [e5,e6]
      exact h4
    .cases hl
   .cases hl
  .cases f1
 .cases f1
end PX
namespace PX
open PySem L2
variable {K:Ck}
def ItR (K:PySem.W.Frag) (a:Addr) (m:Nat):It :=
 ⟨fun i H=>i<m/\∃ xs x,SqL K H a xs/\xs[m-1-i]?=some x,fun i H x H'=>H'=H/\∀ xs,SqL K H a xs->xs[m-1-i]?=some x,fun i _=>i=m⟩
def yEa (K:PySem.W.Frag) (tl:TE):TI:=fun σ H R=>tl σ H fun x H1=>∃ a xs,x=.ref a/\SqL K H1 a xs/\R (ItR K a xs.length) H1
def ylL (n:Nat) (rev:Bool) (g:XG) (s:XS):Nat->Nat->PSt->AH->Option (Out×AH)
 | 0,i,ρ,h=>match h[n]? with|some (.lst xs)=>if xs.length=i then some (.nx ρ,h) else none|_=>none
 | k+1,i,ρ,h=>match h[n]? with
  | some (.lst xs)=>(match xs[if rev then k else i]? with
   | some x=>(g x ρ).bind fun ρ1=>ob (s ρ1 h) fun o h1=>match o with|.nx ρ'=>ylL n rev g s k (i+1) ρ' h1|.ct ρ'=>ylL n rev g s k (i+1) ρ' h1|.bk ρ'=>some (.nx ρ',h1)|.rt y=>some (.rt y,h1)
   | none=>none)
  | _=>none
def yjC (rev:Bool) (e:XE) (g:XG) (s:XS):XS:=fun ρ h=>ob (e ρ h) fun x h1=>match x with
 | .loc n=>(match h1[n]? with|some (.lst xs)=>ylL n rev g s xs.length 0 ρ h1|_=>none)
 | _=>none
structure ItX (K:Ck) (n:Nat) (rev:Bool) (m:Nat) (a:Addr) (J:It):Prop where
 go:∀ (i:Nat) (H:Hp) (vs:List V) (v:V),H a=some (.lst vs)->i<m->vs[if rev then m-1-i else i]?=some v->J.go i H
 yld:∀ (i:Nat) (H:Hp) (vs:List V) (v:V) (H2:Hp),H a=some (.lst vs)->i<m->J.yld i H v H2->H2=H/\vs[if rev then m-1-i else i]?=some v
 stop:∀ (H:Hp) (vs:List V),H a=some (.lst vs)->vs.length=m->J.stop m H
section
variable {ta:TE}{ea:XE}{t:TS}{s:XS}
theorem yla {n:Nat}{xs:List PV}{p:Addr}{us:List V}{J:It}{rev:Bool}{g:TG}{y:XG}(b:yuZ K g y) (c:yeY K t s) {W0 W W1:Wd}{ρ:PSt}{σ:St}{D:Ends}{o:Out}{h':AH}(gd:Good K W0 W ρ σ) (l1:Le K W W1) (q:Ends.Ok K W0 W D h' o)
  (f1:ylL n rev y s xs.length 0 ρ W1.h=some (o,h')) (hn:W1.h[n]?=some (.lst xs)) (hm:W1.m[n]?=some p) (rs:ycJ K W1 xs us) (J1:ItX K n rev us.length p J) :
  ∃ Z:Nat->Nat->St->Hp->Prop,(∃ m,Z 0 m σ W1.H)/\∀ i m σ H,Z i m σ H ->
   (J.stop i H/\D.nx σ H)\/(J.go i H/\∃ N:St->Hp->Prop,(∀ σ' H',N σ' H'->∃ m',m'<m/\Z (i+1) m' σ' H')/\∀ x H',J.yld i H x H'->g x σ H' fun σ2 H2=>t { D with nx:=N,ct:=N,bk:=D.nx } σ2 H2):=by
   have q1:=q.from_ l1.lf
   have hul:us.length=xs.length:=rs.len
   rw [hul] at J1
   refine ⟨fun i m σ H=>m=xs.length-i/\i<=xs.length/\∃ W' ρ',W'.H=H/\Lf K W1 W'/\Good K W0 W' ρ' σ/\ylL n rev y s (xs.length-i) i ρ' W'.h=some (o,h'),⟨_,rfl,zero_le _,W1,ρ,rfl,.refl,gd.step l1,f1⟩,?_⟩
   rintro i m σ _ ⟨rfl,hi,W',ρ',rfl,l,g',f⟩
   have hm':W'.m[n]?=some p:=yej l.pre hm
   by_cases hlt:i<xs.length
   .obtain ⟨k,hk⟩:∃ k,xs.length-i=k+1:=⟨xs.length-i-1,by omega⟩
    rw [hk] at f
    unfold ylL at f
    split at f
    .rename_i ys hy
     split at f
     .rename_i z hz
      obtain ⟨p',ev',hm2,hf',vs,hp',rs'⟩:=g'.ok.loc hy (v:=.ref p) ⟨p,rfl,hm'⟩
      cases ev'
      have hix:(if rev=true then xs.length-1-i else i)=(if rev=true then k else i):=by rw [show xs.length-1-i=k by omega]
      obtain ⟨vz,hv1,hv2⟩:=rs'.get hz
      obtain ⟨ρ1,k1,f⟩:=Option.bind_eq_some_iff.mp f
      obtain ⟨o1,h2,k2,f3⟩:=yi f
      refine .inr ⟨J1.go i W'.H vs vz hp' hlt (by rw [hix];exact hv1),fun σ2 H2=>i+1<=xs.length/\∃ W2 ρ2,W2.H=H2/\Lf K W1 W2/\Good K W0 W2 ρ2 σ2/\ylL n rev y s (xs.length-(i+1)) (i+1) ρ2 W2.h=some (o,h'),fun σ2 H2 ⟨n1,n2⟩=>⟨xs.length-(i+1),by omega,rfl,n1,n2⟩,fun v H2 hy=>?_⟩
      obtain ⟨rfl,hx⟩:=J1.yld i W'.H vs v H2 hp' hlt hy
      rw [hix,hv1] at hx
      cases hx
      have ek:xs.length-(i+1)=k:=by omega
      refine b W0 W' ρ' ρ1 σ _ vz _ g' hv2 k1 fun σ2 g2=>?_
      refine c W0 W' ρ1 σ2 _ o1 h2 g2 k2 ?_
      cases o1 with
      | nx ρ2=>exact fun W2 σ3 w2 l2 g3=>⟨hlt,W2,ρ2,rfl,l.trans l2,g3,by rw [w2,ek];exact f3⟩
      | ct ρ2=>exact fun W2 σ3 w2 l2 g3=>⟨hlt,W2,ρ2,rfl,l.trans l2,g3,by rw [w2,ek];exact f3⟩
      | bk ρ2=>cases f3;exact fun W2 σ3 w2 l2 g3=>q1 W2 σ3 w2 (l.trans l2) g3
      | rt x=>cases f3;exact q1
     .cases f
    .cases f
   .have ei:i=xs.length:=by omega
    subst ei
    rw [sub_self] at f
    unfold ylL at f
    split at f
    .rename_i ys hy
     obtain ⟨p',ev',hm2,hf',vs,hp',rs'⟩:=g'.ok.loc hy (v:=.ref p) ⟨p,rfl,hm'⟩
     cases ev'
     split at f
     .rename_i hyl
      cases f
      exact .inl ⟨J1.stop W'.H vs hp' (by rw [rs'.len,hyl]),q1 W' σ rfl l g'⟩
     .cases f
    .cases f
theorem yCI {n m:Nat}{a:Addr}:ItX K n false m a (Itl K.K a) where
 go:=fun i H vs v h _ e=>⟨vs,v,SqL.of h,e⟩
 yld:=fun i H vs v H2 h _ e=>⟨e.1,e.2 vs (SqL.of h)⟩
 stop:=fun H vs h e=>⟨vs,SqL.of h,le_of_eq e⟩
theorem yCJ {n m:Nat}{a:Addr}:ItX K n true m a (ItR K.K a m) where
 go:=fun i H vs v h hi e=>⟨hi,vs,v,SqL.of h,e⟩
 yld:=fun i H vs v H2 h _ e=>⟨e.1,e.2 vs (SqL.of h)⟩
 stop:=fun H vs h e=>rfl
theorem ytI {g:TG}{y:XG}(a:ybR K ta ea) (b:yuZ K g y) (c:yeY K t s):yeY K (yBk (ysw K.K ta) g t) (yjC false ea y s):=by
 intro W0 W ρ σ D o h' gd e q
 obtain ⟨x,h1,e1,f1⟩:=yi e
 refine a W0 W ρ σ _ x h1 gd e1 fun v W1 w1 l1 r1=>?_
 subst w1
 split at f1
 .rename_i n
  split at f1
  .rename_i xs hn
   obtain ⟨p,ev,hm,hf,us,hp,rs⟩:=l1.ok.loc hn r1
   exact ⟨p,ev,⟨us,SqL.of hp⟩,yla b c gd l1 q f1 hn hm rs yCI⟩
  .cases f1
 .cases f1
theorem ytJ {g:TG}{y:XG}(a:ybR K ta ea) (b:yuZ K g y) (c:yeY K t s):yeY K (yBk (yEa K.K ta) g t) (yjC true ea y s):=by
 intro W0 W ρ σ D o h' gd e q
 obtain ⟨x,h1,e1,f1⟩:=yi e
 refine a W0 W ρ σ _ x h1 gd e1 fun v W1 w1 l1 r1=>?_
 subst w1
 split at f1
 .rename_i n
  split at f1
  .rename_i xs hn
   obtain ⟨p,ev,hm,hf,us,hp,rs⟩:=l1.ok.loc hn r1
   exact ⟨p,us,ev,SqL.of hp,yla b c gd l1 q f1 hn hm rs yCJ⟩
  .cases f1
 .cases f1
end
end PX
namespace PX
open PySem L2
variable {K:Ck}
def yCK (kvs more:List (Key×V)):List (Key×V):=more.foldl (fun acc kv=>putK acc kv.1 kv.2) kvs
def yEb:V->List V->Hp->VK->Prop:=fun x vs H Q=>∃ d o kvs more,x=.ref d/\vs=[.ref o]/\d≠o/\H d=some (.dK kvs)/\H o=some (.dK more)/\kvs.length+more.length<=sizeLine/\Q .non (upd H d (.dK (yCK kvs more)))
def yjD:List Key->List PV->List Key->List PV->List Key×List PV
 | j::js,y::ys,ks,xs=>yjD js ys (ycQ ks xs j y).1 (ycQ ks xs j y).2
 | _,_,ks,xs=>(ks,xs)
def yoV:PV->AH->Bool:=fun x h=>(ykW x h).isSome
theorem ytK {W:Wd}{x:PV}{v:V}(w:WOk K W) (r:ycI K W x v) (c:yoV x W.h=true):tyV K.K "dict" v W.H:=by
 obtain ⟨⟨ks,xs⟩,hd⟩:=Option.isSome_iff_exists.mp c
 exact yvm w hd r
theorem yqJ {F:Hp}{m:List Addr}:∀ {js:List Key}{ys:List PV}{us:List V}{ks:List Key}{xs:List PV}{vs:List V},RepL K F m ys us->us.length=js.length->RepL K F m xs vs->vs.length=ks.length ->
  ∃ ws,yCK (ks.zip vs) (js.zip us)=(yjD js ys ks xs).1.zip ws/\ws.length=(yjD js ys ks xs).1.length/\RepL K F m (yjD js ys ks xs).2 ws
 | [],ys,us,ks,xs,vs,r,hl,r2,hl2=>by
  obtain rfl:us=[]:=List.length_eq_zero_iff.mp (by simpa using hl)
  cases ys with
  | cons y ys=>obtain ⟨v,r',e,_⟩:=r;cases e
  | nil=>exact ⟨vs,rfl,hl2,r2⟩
 | j::js,[],us,ks,xs,vs,r,hl,r2,hl2=>by
  obtain rfl:us=[]:=r
  cases hl
 | j::js,y::ys,_,ks,xs,vs,⟨u,us,e,ru,rr⟩,hl,r2,hl2=>by
  subst e
  have key:∃ ws,putK (ks.zip vs) j u=(ycQ ks xs j y).1.zip ws/\ws.length=(ycQ ks xs j y).1.length/\RepL K F m (ycQ ks xs j y).2 ws:=by
   have hput:=ynQ j u ks vs hl2
   unfold ycQ
   by_cases hj:yqA ks j=true
   .rw [if_pos hj] at hput ⊢
    exact ⟨_,hput,by rw [yju];exact hl2,r2.setK ks j ru⟩
   .rw [if_neg hj] at hput ⊢
    exact ⟨_,hput,by rw [length_append,length_append,hl2];rfl,r2.snoc ru⟩
  obtain ⟨ws,p1,p2,p3⟩:=key
  have ih:=yqJ (js:=js) rr (by simpa using hl) p3 p2
  show ∃ ws,yCK (putK (ks.zip vs) j u) (js.zip us)=_/\_
  rw [p1]
  exact ih
def yyf:PM:=fun x ys h=>match x,ys with|.loc n,[.loc k]=>(match h[n]?,h[k]? with|some (.dct ks xs),some (.dct js zs)=>if n≠k/\ks.length+js.length<1000 then some (.non,h.set n (.dct (yjD js zs ks xs).1 (yjD js zs ks xs).2)) else none|_,_=>none)|_,_=>none
theorem yCL:yim K "dict" yoV yEb yyf:=by
 refine ⟨fun W x v w r c=>ytK w r c,fun W x v xs vs Q z h' w rx r e q=>?_⟩
 unfold yyf at e
 split at e
 .rename_i n k
  split at e
  .rename_i ks xs js zs hn hk
   split at e
   .rename_i hc
    cases e
    obtain ⟨u,rfl,ru⟩:=ymx r
    obtain ⟨a,ev,hm,hf,us,hp,hl,rs⟩:=w.loc hn rx
    obtain ⟨b,ev2,hm2,hf2,us2,hp2,hl2,rs2⟩:=w.loc hk ru
    have hne:a≠b:=fun z=>by
     subst z
     obtain ⟨l1,q1⟩:=List.getElem?_eq_some_iff.mp hm
     obtain ⟨l2,q2⟩:=List.getElem?_eq_some_iff.mp hm2
     exact hc.1 (yiM w.nd l1 l2 (q1.trans q2.symm))
    obtain ⟨ws,p1,p2,p3⟩:=yqJ rs2 hl2 rs hl
    refine ⟨a,b,_,_,ev,by rw [ev2],hne,hp,hp2,by rw [length_zip,length_zip];exact small (by omega),?_⟩
    rw [p1]
    exact q .non (ymC W n a (.dK ((yjD js zs ks xs).1.zip ws)) (.dct (yjD js zs ks xs).1 (yjD js zs ks xs).2)) rfl (yfr w hn hm hf ⟨hf,_,yD,p2,p3⟩) rfl
   .cases e
  .cases e
 .cases e
end PX
namespace PX
open PySem L2
variable {K:Ck}
noncomputable def yzP (J:It) (tc:TT) (te:TE) (inn:V->St) (D:Addr) (Q:VK) (H:Hp):Prop:=∃ W:Nat->Nat->Hp->Prop,(∃ m,W 0 m H)/\∀ i m H,W i m H ->
 (J.stop i H/\Q (.ref D) H)\/(J.go i H/\∀ x H',J.yld i H x H'->tc (inn x) H' fun b H1=>if b=true then te (inn x) H1 fun y H2=>∃ acc,H2 D=some (.lst acc)/\acc.length<sizeLine/\∃ m',m'<m/\W (i+1) m' (upd H2 D (.lst (acc++[y]))) else ∃ m',m'<m/\W (i+1) m' H1)
def yhB (wi:TI) (ix:List Nat) (tc:TT) (te:TE):TE:=fun σ H Q=>wi σ H fun J H1=>∀ D,H1 D=none->yzP J tc te (inner ix σ) D Q (upd H1 D (.lst []))
def yyg (c:XT) (e:XE) (inn:PV->PSt):List PV->AH->Option (List PV×AH)
 | [],h=>some ([],h)
 | x::xs,h=>ob (c (inn x) h) fun b h1=>if b=true then ob (e (inn x) h1) fun y h2=>ob (yyg c e inn xs h2) fun ys h3=>some (y::ys,h3) else yyg c e inn xs h1
def yhC (it:XA) (ix:List Nat) (c:XT) (e:XE):XO:=fun ρ h=>ob (it ρ h) fun xs h1=>if xs.length<100000 then ob (yyg c e (yeX ix ρ) xs h1) fun ys h2=>some (.lst ys,h2) else none
theorem yqK {ta:TE}{ea:XE}{tA:TT}{eA:XT}{wi:TI}{it:XA}(ix:List Nat) (a:yva K wi it) (c:ykM K tA eA) (b:ybR K ta ea):ykN K (yhB wi ix tA ta) (yhC it ix eA ea):=by
 intro W0 W ρ σ Q d h' gd e q
 obtain ⟨xs,h1,e1,f1⟩:=yi e
 split at f1
 .rename_i hlen
  obtain ⟨zs,h2,e2,f2⟩:=yi f1
  cases f2
  refine a W0 W ρ σ _ xs h1 gd e1 fun J W1 w1 l1 J1=>?_
  subst w1
  intro D hD
  have nm:=l1.ok.out hD
  have nf:=l1.ok.ff hD
  refine ⟨fun i m H=>m=xs.length-i/\i<=xs.length/\∃ W' acc done rest,W'.H=H/\Le K W1 W'/\D∉W'.m/\W'.F D=none/\H D=some (.lst acc)/\ycJ K W' done acc/\done.length<=i/\zs=done++rest/\yyg eA ea (yeX ix ρ) (xs.drop i) W'.h=some (rest,h'),⟨_,rfl,zero_le _,ygg W1 D (.lst []),[],[],zs,rfl,ycA l1.ok hD,nm,nf,yD,rfl,Nat.le_refl _,rfl,by rw [List.drop_zero];exact e2⟩,?_⟩
  rintro i m _ ⟨rfl,hi,W',acc,done,rest,rfl,l,n1,n2,hd,rd,ld,ez,f⟩
  by_cases hlt:i<xs.length
  .rw [List.drop_eq_getElem_cons hlt] at f
   obtain ⟨k0,h0,k00,f0⟩:=yi f
   refine .inr ⟨J1.go i W' l.lf l.ok hlt,fun v H2 hy=>?_⟩
   obtain ⟨rfl,x,hx,rx⟩:=J1.yld i W' v H2 l.lf l.ok hlt hy
   rw [List.getElem?_eq_getElem hlt] at hx
   cases hx
   refine c W' W' _ _ _ k0 h0 (yfH gd (l1.trans l) ix rx) k00 fun W0' w0' l0=>?_
   subst w0'
   have hd0:=l0.keep _ _ hd n1
   have nm0:D∉W0'.m:=fun z=>by rw [l0.mn D z n1] at hd;cases hd
   have nf0:W0'.F D=none:=l0.new D _ hd n1 n2
   cases k0 with
   | false =>
    rw [if_neg (by decide)] at f0 ⊢
    exact ⟨xs.length-(i+1),by omega,rfl,hlt,W0',acc,done,rest,rfl,l.trans l0,nm0,nf0,hd0,l0.repL rd,by omega,ez,f0⟩
   | true =>
   rw [if_pos rfl] at f0 ⊢
   obtain ⟨y,h3,k1,f3⟩:=yi f0
   obtain ⟨ys,h4,k2,f4⟩:=yi f3
   cases f4
   refine b W0' W0' _ _ _ y h3 (yfH gd (l1.trans (l.trans l0)) ix (l0.rep rx)) k1 fun w W2 w2 l2 r2=>?_
   have nm2:D∉W2.m:=fun z=>by rw [l2.mn D z nm0] at hd0;cases hd0
   have nf2:W2.F D=none:=l2.new D _ hd0 nm0 nf0
   refine ⟨acc,l2.keep _ _ hd0 nm0,?_,xs.length-(i+1),by omega,rfl,hlt,yqj W2 D (.lst (acc++[w])),acc++[w],done++[y],ys,rfl,yhr ((l.trans l0).trans l2) nm2 nf2 hD,nm2,nf2,yD,((l0.trans l2).repL rd).snoc r2,by simp;omega,by simp [ez],?_⟩
   .rw [rd.len];exact big (by omega)
   .show yyg eA ea (yeX ix ρ) (xs.drop (i+1)) W2.h=some (ys,h')
    rw [w2];exact k2
  .have ei:i=xs.length:=by omega
   subst ei
   rw [List.drop_length] at f
   cases f
   refine .inl ⟨J1.stop W' l.lf l.ok,?_⟩
   rw [append_nil] at ez
   subst ez
   exact q D W' rfl (l1.trans l) n1 (l1.fresh hD) (fun z=>by cases z) ⟨n2,acc,hd,rd⟩
 .cases f1
end PX
namespace PX
open PySem L2
variable {K:Ck}
end PX
namespace PX
open PySem L2
variable {K:Ck}
def yjE:Key->PV|.inl i=>.int i|.inr s=>.str s
theorem yqL {W:Wd}(k:Key):ycI K W (yjE k) (kV k):=by cases k<;>exact rfl
def ItD (a:Addr) (ob:Obj) (kvs:List (Key×V)):It :=
 ⟨fun i H=>i<kvs.length/\H a=some (.frz ob (.dK kvs)),fun i H x H'=>H'=H/\∃ kv,kvs[i]?=some kv/\x=kV kv.1,fun i H=>i=kvs.length/\H a=some (.frz ob (.dK kvs))⟩
def yzQ (NF:Addr->Prop) (te:TE):TI:=fun σ H R=>te σ H fun x H1=>∃ a kvs,x=.ref a/\H1 a=some (.dK kvs)/\∀ ob,NF a->R (ItD a ob kvs) (upd H1 a (.frz ob (.dK kvs)))
theorem ywR {W:Wd}(w:WOk K W) {n:Nat}{d d':Nd}{a:Addr}{o:HO}(e:W.h[n]?=some d) (hm:W.m[n]?=some a) (hF:W.F a=none) (at':NdAt K W.F (upd W.H a o) W.m d' a):WOk K (ymC W n a o d'):=by
 have hn:n<W.h.length:=(List.getElem?_eq_some_iff.mp e).1
 refine ⟨fun b u q=>?_,by show W.m.length=(W.h.set n d').length;rw [length_set];exact w.len,w.nd,fun j dj b e1 e2=>?_⟩
 .have:b≠a:=ybw q hF
  exact (yL this).trans (w.le _ _ q)
 .have e1:(W.h.set n d')[j]?=some dj:=e1
  by_cases hj:n=j
  .subst hj
   rw [getElem?_set_self hn] at e1
   cases e1
   have e2:W.m[n]?=some b:=e2
   rw [hm] at e2
   cases e2
   exact at'
  .rw [getElem?_set_ne hj] at e1
   have e2:W.m[j]?=some b:=e2
   have hb:b≠a:=fun z=>by
    subst z
    obtain ⟨l1,q1⟩:=List.getElem?_eq_some_iff.mp hm
    obtain ⟨l2,q2⟩:=List.getElem?_eq_some_iff.mp e2
    exact hj (yiM w.nd l1 l2 (q1.trans q2.symm))
   exact (w.at_ j dj b e1 e2).mono (Same.refl _) (prefix_refl _) (fun u q=>(yL hb).trans q) id
theorem ywS {W0 W':Wd}(w:WOk K W') (pre:W0.m <+: W'.m) (fz:∀ (n:Nat) (ks:List Key) (xs:List PV),W0.h[n]?=some (.fz ks xs)->W'.h[n]?=some (.fz ks xs)/\∀ a,W0.m[n]?=some a->W'.H a=W0.H a)
  {n:Nat}{a:Addr}{o:HO}{d:Nd}(hm:W'.m[n]?=some a) (n0:∀ ks xs,W0.h[n]?≠some (.fz ks xs)) (j:Nat) (ks:List Key) (xs:List PV) (e1:W0.h[j]?=some (.fz ks xs)) :
  (ymC W' n a o d).h[j]?=some (.fz ks xs)/\∀ b,W0.m[j]?=some b->(ymC W' n a o d).H b=W0.H b:=by
 obtain ⟨h1,h2⟩:=fz j ks xs e1
 have hj:n≠j:=fun z=>by subst z;exact n0 _ _ e1
 refine ⟨(getElem?_set_ne hj).trans h1,fun b e2=>(yL fun z=>?_).trans (h2 b e2)⟩
 subst z
 obtain ⟨l1,q1⟩:=List.getElem?_eq_some_iff.mp hm
 obtain ⟨l2,q2⟩:=List.getElem?_eq_some_iff.mp (yej pre e2)
 exact hj (yiM w.nd l1 l2 (q1.trans q2.symm))
theorem ywT {W0 W':Wd}(l:Le K W0 W') {n:Nat}{a:Addr}{o:HO}{d d':Nd}(e:W'.h[n]?=some d) (hm:W'.m[n]?=some a) (hF:W'.F a=none) (at':NdAt K W'.F (upd W'.H a o) W'.m d' a) (n0:∀ ks xs,W0.h[n]?≠some (.fz ks xs)):Le K W0 (ymC W' n a o d') where
 ok:=ywR l.ok e hm hF at'
 fs:=l.fs
 pre:=l.pre
 keep:=fun b u q hb=>by
  have:b≠a:=fun z=>by
   subst z
   rw [l.mn b (mem_of_getElem? hm) hb] at q
   cases q
  exact (yL this).trans (l.keep b u q hb)
 new:=l.new
 mn:=l.mn
 fz:=ywS l.ok l.pre l.fz hm n0
theorem yzR {W W1:Wd}(l:Le K W W1) {n:Nat}{d:Nd}(e:W1.h[n]?=some d) (nf:∀ ks xs,d≠.fz ks xs) (ks:List Key) (xs:List PV):W.h[n]?≠some (.fz ks xs):=fun z=>by
 have:=(l.fz n ks xs z).1
 rw [e] at this
 cases this
 exact nf _ _ rfl
section
variable {ta:TE}{ea:XE}{t:TS}{s:XS}
end
end PX
namespace PX
open PySem L2
variable {K:Ck}
def spJ (K:Ck) (n k:Nat) (f:List PV->AH->Option (Nd×AH)):Sp:=fun vs H Q _=>∃ (W0 W:Wd) (x:Addr) (args:List V) (xs:List PV) (d:Nd) (h':AH),vs=.ref x::args/\W.H=H/\Le K W0 W/\W0.H x=none/\x∉W.m/\NdAt K W.F W.H W.m (.ins k [] []) x /\
 ycJ K W xs args/\xs.length=n/\f xs W.h=some (d,h')/\∀ W',W'.h=h'->Lf K W W'->Le K W0 W'->x∉W'.m->d≠.dead->NdAt K W'.F W'.H W'.m d x->Q .non W'.H
theorem ywU {n k:Nat}{f} {vs:List V}{H:Hp}{Q:VK}{E:XK}(h:spJ K n k f vs H Q E):vs.length=n+1:=by
 obtain ⟨W0,W,x,args,xs,d,h',rfl,_,_,_,_,_,r,hn,_⟩:=h
 rw [length_cons,r.len,hn]
theorem yqM {N:List Str}{n k:Nat}{t:TS}{s:XS}{vs:List V}{H:Hp}{Q:VK}{E:XK}{bk ct:St->Hp->Prop}(hN:n+1<=N.length) (a:ysp K t s) (h:spJ K n k (ymz N.length k s) vs H Q E):t ⟨fun _ H'=>Q .non H',Q,bk,ct⟩ (L2.start N vs) H:=by
 obtain ⟨W0,W,x,args,xs,d,h',rfl,rfl,le,hx,hm,at_,r,hn,e,q⟩:=h
 obtain ⟨o,h1,e1,f1⟩:=yi e
 have gs:=ygl (K:=K) (N:=N.drop 1) le.ok r
 have g:Good K W0 W (.own (.ins k [] [])::(xs.map .val++replicate (N.length-(xs.length+1)) .no)) (L2.start N (.ref x::args)):=by
  have es:L2.start N (.ref x::args)=some (.ref x)::L2.start (N.drop 1) args:=by
   have e3:N.length-(args.length+1)=(N.drop 1).length-args.length:=by rw [length_drop];omega
   unfold L2.start
   rw [map_cons,List.cons_append,length_cons,e3]
  have eN:N.length-(xs.length+1)=(N.drop 1).length-xs.length:=by rw [length_drop];omega
  rw [es,eN]
  have noown:∀ (j:Nat) (d:Nd),(xs.map PVar.val++replicate ((N.drop 1).length-xs.length) .no)[j]?≠some (.own d):=fun j d z=>by
   by_cases hj:j<xs.length
   .rw [getElem?_append_left (by simpa using hj),getElem?_map,List.getElem?_eq_getElem hj] at z
    cases z
   .rw [getElem?_append_right (by simp;omega),getElem?_replicate] at z
    split at z<;>cases z
  refine ⟨le,by rw [length_cons,length_cons,gs.len],fun j y z=>?_,fun j d z=>?_,fun i j d d' hij z z'=>?_⟩
  .cases j with
   | zero=>cases z
   | succ j=>exact gs.val j y z
  .cases j with
   | zero=>cases z;exact ⟨x,rfl,hm,hx,(fun z=>by cases z),at_⟩
   | succ j=>exact absurd z (noown j d)
  .cases i with
   | zero =>
    cases j with
    | zero=>exact absurd rfl hij
    | succ j=>exact absurd z' (noown j d')
   | succ i=>exact absurd z (noown i d)
 cases o with
 | rt y=>cases f1
 | bk ρ=>cases f1
 | ct ρ=>cases f1
 | nx ρ =>
  refine a W0 W _ ρ _ _ h1 g e1 fun W' ew lf g'=>?_
  dsimp only at f1
  split at f1
  .rename_i d' hd'
   cases f1
   obtain ⟨p,b1,b2,b3,b4,b5⟩:=g'.own 0 _ hd'
   have b1:some (some (V.ref x))=some (some (V.ref p)):=b1
   cases b1
   exact q W' ew lf g'.le b2 b4 b5
  .cases f1
def yzS:PVar->Bool|.own _=>false|_=>true
def xBI (k:Nat) (f:List PV->AH->Option (Nd×AH)) (a:XA):XS:=fun ρ h=>match ρ with
 | .own (.ins k' [] [])::r=>if k'=k/\r.all yzS=true then ob (a ρ h) fun xs h1=>ob (f xs h1) fun d h2=>(match d with|.dead=>none|d=>some (.nx (.own d::r),h2)) else none
 | _=>none
theorem ywV {n k:Nat}{f} {E:XK}{t:TA}{aa:XA}(a:ylK K t aa) (hn:∀ ρ h xs h',aa ρ h=some (xs,h')->xs.length=n):ysp K (ypw (ysE (spJ K n k f) [] E (ylT (ypn 0) t))) (xBI k f aa):=by
 intro W0 W ρ ρ' σ D h' g e q
 unfold xBI at e
 split at e
 .rename_i k' r
  split at e
  .rename_i c
   obtain ⟨rfl,hr⟩:=c
   obtain ⟨xs,h1,e1,f1⟩:=yi e
   obtain ⟨d,h2,e2,f2⟩:=yi f1
   have nodead:d≠.dead:=fun z=>by subst z;cases f2
   have f2:some (Out.nx (.own d::r),h2)=some (.nx ρ',h'):=by
    cases d<;>first|exact f2|cases f2
   cases f2
   obtain ⟨p,b1,b2,b3,b4,b5⟩:=g.own 0 _ rfl
   refine ⟨.ref p,b1,?_⟩
   refine a W0 W _ σ _ xs h1 g e1 fun vs W1 w1 l1 r1=>?_
   subst w1
   have g1:=g.step l1
   obtain ⟨p',c1,c2,c3,c4,c5⟩:=g1.own 0 _ rfl
   rw [b1] at c1
   cases c1
   rw [append_nil]
   refine ⟨W0,W1,p,vs,xs,d,h',rfl,rfl,g1.le,c3,c2,c5,r1,hn _ _ _ _ e1,e2,fun W2 w2 lf le hm hd at_=>?_⟩
   refine q W2 w2 (l1.lf.trans lf) ⟨le,g1.len,fun j y z=>?_,fun j d' z=>?_,fun i j d1 d2 hij z1 z2=>?_⟩
   .cases j with
    | zero=>cases z
    | succ j =>
     obtain ⟨v,z1,z2⟩:=g1.val (j+1) y z
     exact ⟨v,z1,lf.rep z2⟩
   .cases j with
    | zero=>cases z;exact ⟨p,b1,hm,c3,hd,at_⟩
    | succ j =>
     have z:r[j]?=some (.own d'):=z
     have:=List.all_eq_true.mp hr _ (mem_of_getElem? z)
     cases this
   .cases i with
    | zero =>
     cases j with
     | zero=>exact absurd rfl hij
     | succ j =>
      have z:r[j]?=some (.own d2):=z2
      have:=List.all_eq_true.mp hr _ (mem_of_getElem? z)
      cases this
    | succ i =>
     have z:r[i]?=some (.own d1):=z1
     have:=List.all_eq_true.mp hr _ (mem_of_getElem? z)
     cases this
  .cases e
 .cases e
theorem ytL {a:Addr}{ss:List Str}(h:KTp K.K a (ss.map V.str)):ybR K (tC (.ref a)) (xC (.tup (ss.map PV.str))):=by
 intro W0 W ρ σ Q x h' g e q
 cases e
 refine q _ W rfl (.refl g.ok) ⟨a,_,rfl,.inr h,?_⟩
 clear h q
 induction ss with
 | nil=>exact rfl
 | cons s ss ih=>exact ⟨_,_,rfl,rfl,ih⟩
end PX
namespace PX
open PySem L2
variable {K:Ck}
end PX
namespace PX
open PySem L2
variable {K:Ck}
end PX
namespace PX
open PySem L2
variable {K:Ck}
noncomputable def yqN (c:Nat):List Nat->List (List Nat)
 | []=>[[]]
 | k::r=>if k=c then []::yqN c r else match yqN c r with|[]=>[[k]]|w::ws=>(k::w)::ws
theorem ylb {c:Nat}:∀ {w:List Nat},c∉w->yqN c w=[w]
 | [],_=>rfl
 | k::r,h=>by
  have h1:k≠c:=fun z=>h (z ▸ mem_cons_self ..)
  unfold yqN
  rw [if_neg h1,ylb fun z=>h (mem_cons_of_mem _ z)]
theorem ynZ {c:Nat}:∀ {w r:List Nat},c∉w->yqN c (w++c::r)=w::yqN c r
 | [],r,_=>by
  rw [List.nil_append]
  show (if c=c then []::yqN c r else _)=_
  rw [if_pos rfl]
 | k::w,r,h=>by
  have h1:k≠c:=fun z=>h (z ▸ mem_cons_self ..)
  rw [List.cons_append]
  show (if k=c then []::yqN c (w++c::r) else match yqN c (w++c::r) with|[]=>[[k]]|w::ws=>(k::w)::ws)=_
  rw [if_neg h1,ynZ fun z=>h (mem_cons_of_mem _ z)]
def yqO (z:Str):List Str:=(yqN 32 z.cps.toList).map fun w=>⟨w.toArray⟩
theorem yhD:∀ (ws:List Str),ws≠[]->(∀ w∈ws,32∉w.cps.toList)->yqO (Str.join " " ws)=ws
 | [],h,_=>absurd rfl h
 | [w],_,h=>by
  have h1:=ylb (h w (List.mem_singleton.mpr rfl))
  show (yqN 32 w.cps.toList).map _=_
  rw [h1];rfl
 | w::v::r,_,h=>by
  have ih:=yhD (v::r) (fun z=>by cases z) fun u hu=>h u (mem_cons_of_mem _ hu)
  show yqO (w++" "++Str.join " " (v::r))=_
  have e:(w++(" ":Str)++Str.join " " (v::r)).cps.toList=w.cps.toList++32::(Str.join " " (v::r)).cps.toList:=by
   show (w.cps++(" ":Str).cps++(Str.join " " (v::r)).cps).toList=_
   rw [show (" ":Str).cps = #[32] by rfl']
   simp
  unfold yqO at ih ⊢
  rw [e,ynZ (h w (mem_cons_self ..)),map_cons,ih]
def yvn:V->List V->Hp->VK->Prop:=fun x vs H Q=>∃ z:Str,x=.str z/\vs=[.str " "]/\z.length<=100000/\∀ p,H p=none->Q (.ref p) (upd H p (.lst ((yqO z).map V.str)))
def ylc:PM:=fun x xs h=>match x,xs with|.str z,[.str y]=>if y = " "/\z.length<=100000 then some (.lst ((yqO z).map .str),h) else none|_,_=>none
theorem RepL.of_strs {F:Hp}{m:List Addr}:∀ (ts:List Str),RepL K F m (ts.map PV.str) (ts.map V.str)
 | []=>rfl
 | _::ts=>⟨_,_,rfl,rfl,RepL.of_strs ts⟩
theorem m_split:yim K "str" isStr yvn ylc:=by
 refine ⟨fun W x v w r c=>?_,fun W x v xs vs Q z h' w rx r e q=>?_⟩
 .unfold isStr at c
  split at c
  .rw [show v=_ from r];rfl
  .cases c
 .unfold ylc at e
  split at e
  .rename_i z y
   split at e
   .rename_i c
    cases e
    obtain ⟨u,rfl,ru⟩:=ymx r
    have ru:u=.str y:=ru
    refine ⟨z,rx,by rw [ru,c.1],c.2,fun p hp=>?_⟩
    have l2:=yqb (o:=.lst ((yqO z).map V.str)) w hp
    exact q (.ref p) (ywl W p (.lst ((yqO z).map V.str))) rfl l2 ⟨p,_,rfl,yD,RepL.of_strs _⟩
   .cases e
  .cases e
theorem ywW {z:Str}{h:AH}(e:z.length<=100000):ylc (.str z) [.str " "] h=some (.lst ((yqO z).map .str),h):=by
 unfold ylc;exact if_pos ⟨rfl,e⟩
variable {t:TS}{s:XS}
end PX
namespace PX
open PySem L2
variable {K:Ck}
mutual
noncomputable def clean:PV->Bool
 | .loc _=>false
 | .lst xs=>yoa xs
 | .tup xs=>yoa xs
 | .ins _ _ xs=>yoa xs
 | _=>true
noncomputable def yoa:List PV->Bool
 | []=>true
 | x::xs=>clean x && yoa xs
end
noncomputable def yqP (f:PV->Option PV):List PV->Option (List PV)
 | []=>some []
 | x::xs=>match f x,yqP f xs with|some y,some ys=>some (y::ys)|_,_=>none
def see:Nat->AH->PV->Option PV
 | 0,_,x=>if clean x=true then some x else none
 | n+1,h,x=>match x with
  | .loc m=>(match h[m]? with|some (.lst xs)=>(yqP (see n h) xs).map .lst|some (.ins k ns xs)=>(yqP (see n h) xs).map (.ins k ns)|_=>none)
  | x=>if clean x=true then some x else none
section
variable {F H:Hp}{m:List Addr}
end
variable {t:TA}{e:XA}
end PX
namespace PX
open PySem L2
variable {K:Ck}
end PX
namespace PX
open PySem L2
variable {K:Ck}
theorem yCM {W W1:Wd}(l1:Le K W W1) {p:Addr}{d:Nd}(hm:p∉W1.m) (hn:W.H p=none) (at_:NdAt K W1.F W1.H W1.m d p):Le K W ⟨W1.F,W1.H,W1.m++[p],W1.h++[d]⟩/\ycI K ⟨W1.F,W1.H,W1.m++[p],W1.h++[d]⟩ (.loc W1.h.length) (.ref p):=by
 have pre:W1.m <+: W1.m++[p]:=List.prefix_append _ _
 refine ⟨⟨⟨l1.ok.le,?_,?_,fun n d' a e1 e2=>?_⟩,l1.fs,l1.pre.trans pre,l1.keep,l1.new,fun b z n=>?_,fun n ks xs e1=>⟨by
  have:=(l1.fz n ks xs e1).1
  show (W1.h++[d])[n]?=_
  rw [getElem?_append_left (List.getElem?_eq_some_iff.mp this).1];exact this,(l1.fz n ks xs e1).2⟩⟩,⟨p,rfl,?_⟩⟩
 .show (W1.m++[p]).length=(W1.h++[d]).length
  rw [length_append,length_append,l1.ok.len];rfl
 .show (W1.m++[p]).Nodup
  rw [List.nodup_append]
  refine ⟨l1.ok.nd,by simp,?_⟩
  intro a ha b hb
  simp at hb
  subst hb
  exact fun z=>hm (z ▸ ha)
 .have e1:(W1.h++[d])[n]?=some d':=e1
  have e2:(W1.m++[p])[n]?=some a:=e2
  by_cases hlt:n<W1.h.length
  .rw [getElem?_append_left hlt] at e1
   rw [getElem?_append_left (by rw [l1.ok.len];exact hlt)] at e2
   exact (l1.ok.at_ n d' a e1 e2).mono (Same.refl _) pre (fun _ f1=>f1) id
  .rw [getElem?_append_right (by omega)] at e1
   rw [getElem?_append_right (by rw [l1.ok.len];omega)] at e2
   rw [l1.ok.len] at e2
   cases hk:n-W1.h.length with
   | zero =>
    rw [hk] at e1 e2
    simp at e1 e2
    subst e1 e2
    exact at_.mono (Same.refl _) pre (fun _ f1=>f1) id
   | succ k=>rw [hk] at e1;simp at e1
 .have z:b∈W1.m++[p]:=z
  rcases List.mem_append.mp z with z|z
  .exact l1.mn b z n
  .simp at z;subst z;exact hn
 .show (W1.m++[p])[W1.h.length]?=some p
  rw [<- l1.ok.len];simp
def yhE (k:Nat) (f:Fn) (a:XA):XE:=fun ρ h=>ob (a ρ h) fun xs h1=>ob (f (.loc h1.length::xs) (h1++[.ins k [] []])) fun x h2=>match x with|.non=>some (.loc h1.length,h2)|_=>none
theorem ymG {k:Nat}{f:Fn}{aa:XA}{ρ:PSt}{h:AH}:yhE k f aa ρ h=ob (aa ρ h) fun xs h1=>ob (f (.loc h1.length::xs) (h1++[.ins k [] []])) fun x h2=>match x with|.non=>some (.loc h1.length,h2)|_=>none:=id rfl
theorem yqQ {n k:Nat}{f:Fn}{ex:XK}{t:TA}{e:XA}(a:ylK K t e) (hn:∀ ρ h xs h',e ρ h=some (xs,h')->xs.length=n):ybR K (ysF (K.A k) (spE K (n+1) f) [] ex t) (yhE k f e):=by
 intro W0 W ρ σ Q z h' g e' q
 obtain ⟨xs,h1,e1,e2⟩:=yi e'
 obtain ⟨y,h2,e3,e4⟩:=yi e2
 refine a W0 W ρ σ _ xs h1 g e1 fun vs W1 w1 l1 r1=>?_
 subst w1
 intro x dx hx hd hne
 rw [append_nil]
 have a1:Le K W1 (ygg W1 dx (.own x)):=ycA l1.ok hd
 have hx1:(ygg W1 dx (.own x)).H x=none:=(yL hne.symm).trans hx
 have a2:Le K (ygg W1 dx (.own x)) (ygg (ygg W1 dx (.own x)) x (.ins (K.A k) dx [])):=ycA a1.ok hx1
 obtain ⟨a3,r3⟩:=yCM (d:=.ins k [] []) (a1.trans a2) (l1.ok.out hx) hx ⟨l1.ok.ff hx,dx,[],yD,rfl,rfl⟩
 refine ⟨⟨W1.F,upd (upd W1.H dx (.own x)) x (.ins (K.A k) dx []),W1.m++[x],W1.h++[Nd.ins k [] []]⟩,.loc W1.h.length::xs,y,h2,rfl,a3.ok,⟨_,_,rfl,r3,a3.repL r1⟩,by rw [length_cons,hn _ _ _ _ e1],e3,fun v W' w' l' r'=>?_⟩
 split at e4
 .cases e4
  exact ⟨r',q (.ref x) W' w' (l1.trans (a3.trans l')) (l'.rep r3)⟩
 .cases e4
noncomputable def yEc:List V->Hp->VK->Prop:=fun xs H Q=>∃ (p:Addr) (bs:List Bool),xs=[.ref p]/\H p=some (.lst (bs.map V.bl))/\Q (.bl (bs.any id)) H
def ytM:List PV->AH->Option (PV×AH):=fun xs h=>match xs with|[x]=>(match yW x h with|some ys=>(match yht ys with|some ns=>some (.bl (ns.any id),h)|none=>none)|none=>none)|_=>none
theorem yzT:yhp K yEc ytM:=by
 intro W xs vs Q z h' w r e q
 unfold ytM at e
 split at e
 .split at e
  .rename_i ys hy
   split at e
   .rename_i ns hn
    cases e
    obtain ⟨v,rfl,rx⟩:=ymx r
    obtain ⟨a,us,rfl,hs,rs⟩:=yZ w hy rx
    have:=yhu hn rs
    subst this
    exact ⟨a,ns,rfl,hs,q _ W rfl (.refl w) rfl⟩
   .cases e
  .cases e
 .cases e
def ytN (n:Nat) (e:XE) (inn:PV->PSt):Nat->Nat->AH->Option (List PV×AH)
 | 0,i,h=>match h[n]? with|some (.lst xs)=>if xs.length=i then some ([],h) else none|_=>none
 | k+1,i,h=>match h[n]? with
  | some (.lst xs)=>(match xs[i]? with|some x=>ob (e (inn x) h) fun y h1=>ob (ytN n e inn k (i+1) h1) fun ys h2=>some (y::ys,h2)|none=>none)
  | _=>none
def yle (e:XE) (ix:List Nat) (el:XE):XO:=fun ρ h=>ob (e ρ h) fun x h1=>match x with
 | .loc n=>(match h1[n]? with|some (.lst xs)=>if xs.length<=10000 then ob (ytN n el (yeX ix ρ) xs.length 0 h1) fun ys h2=>some (.lst ys,h2) else none|_=>none)
 | _=>none
theorem yqR {ta tb:TE}{ea eb:XE}(ix:List Nat) (a:ybR K ta ea) (b:ybR K tb eb):ykN K (yoI (ysw K.K ta) ix tb) (yle ea ix eb):=by
 intro W0 W ρ σ Q d h' gd e q
 obtain ⟨x,h1,e1,f1⟩:=yi e
 refine a W0 W ρ σ _ x h1 gd e1 fun v W1 w1 l1 r1=>?_
 subst w1
 split at f1
 .rename_i n
  split at f1
  .rename_i xs hn
   split at f1
   .rename_i hlen
    obtain ⟨zs,h2,e2,f2⟩:=yi f1
    cases f2
    obtain ⟨p,ev,hm,hf,us,hp,rs⟩:=l1.ok.loc hn r1
    refine ⟨p,ev,⟨us,SqL.of hp⟩,fun D hD=>?_⟩
    have nm:=l1.ok.out hD
    have nf:=l1.ok.ff hD
    refine ⟨fun i m H=>m=xs.length-i/\i<=xs.length/\∃ W' acc done rest,W'.H=H/\Le K W1 W'/\D∉W'.m/\W'.F D=none/\H D=some (.lst acc)/\ycJ K W' done acc/\done.length=i/\zs=done++rest/\ytN n eb (yeX ix ρ) (xs.length-i) i W'.h=some (rest,h'),⟨_,rfl,zero_le _,ygg W1 D (.lst []),[],[],zs,rfl,ycA l1.ok hD,nm,nf,yD,rfl,rfl,rfl,e2⟩,?_⟩
    rintro i m _ ⟨rfl,hi,W',acc,done,rest,rfl,l,n1,n2,hd,rd,ld,ez,f⟩
    have hm':W'.m[n]?=some p:=yej l.pre hm
    by_cases hlt:i<xs.length
    .obtain ⟨k,hk⟩:∃ k,xs.length-i=k+1:=⟨xs.length-i-1,by omega⟩
     rw [hk] at f
     unfold ytN at f
     split at f
     .rename_i ys hy
      split at f
      .rename_i z hz
       obtain ⟨p',ev',hm2,hf',vs,hp',rs'⟩:=l.ok.loc hy (v:=.ref p) ⟨p,rfl,hm'⟩
       cases ev'
       obtain ⟨y,h3,k1,f3⟩:=yi f
       obtain ⟨ys',h4,k2,f4⟩:=yi f3
       cases f4
       obtain ⟨vz,hv1,hv2⟩:=rs'.get hz
       refine .inr ⟨⟨vs,vz,SqL.of hp',hv1⟩,fun v H2 hy=>?_⟩
       obtain ⟨rfl,hx⟩:=hy
       have hx:=hx vs (SqL.of hp')
       rw [hv1] at hx
       cases hx
       refine b W' W' _ _ _ y h3 (yfH gd (l1.trans l) ix hv2) k1 fun w W2 w2 l2 r2=>?_
       have nm2:D∉W2.m:=fun z=>by rw [l2.mn D z n1] at hd;cases hd
       have nf2:W2.F D=none:=l2.new D _ hd n1 n2
       refine ⟨acc,l2.keep _ _ hd n1,?_,xs.length-(i+1),by omega,rfl,hlt,yqj W2 D (.lst (acc++[w])),acc++[w],done++[y],ys',rfl,yhr (l.trans l2) nm2 nf2 hD,nm2,nf2,yD,(l2.repL rd).snoc r2,by simp [ld],by simp [ez],?_⟩
       .rw [rd.len,ld];exact big (by omega)
       .show ytN n eb (yeX ix ρ) (xs.length-(i+1)) (i+1) W2.h=some (ys',h')
        rw [w2,show xs.length-(i+1)=k by omega];exact k2
      .cases f
     .cases f
    .have ei:i=xs.length:=by omega
     subst ei
     rw [sub_self] at f
     unfold ytN at f
     split at f
     .rename_i ys hy
      obtain ⟨p',ev',hm2,hf',vs,hp',rs'⟩:=l.ok.loc hy (v:=.ref p) ⟨p,rfl,hm'⟩
      cases ev'
      split at f
      .rename_i hyl
       cases f
       refine .inl ⟨⟨vs,SqL.of hp',by rw [rs'.len,hyl];exact Nat.le_refl _⟩,?_⟩
       rw [append_nil] at ez
       subst ez
       exact q D W' rfl (l1.trans l) n1 (l1.fresh hD) (fun z=>by cases z) ⟨n2,acc,hd,rd⟩
      .cases f
     .cases f
   .cases f1
  .cases f1
 .cases f1
end PX
namespace PX
open PySem L2
variable {K:Ck}
def yiO (e:XE) (ix:List Nat) (el:XE):XO:=fun ρ h=>ob (e ρ h) fun x h1=>match x with
 | .loc n=>(match h1[n]? with|some (.dct ks xs)=>if ks.length<=10000 then ob (yij el (yeX ix ρ) (ks.map yjE) (h1.set n (.fz ks xs))) fun ys h2=>some (.lst ys,h2.set n (.dct ks xs)) else none|_=>none)
 | _=>none
def yvo (NF:Addr->Prop) (te:TE) (ix:List Nat) (tb:TE):TE:=fun σ H Q=>yoI (yzQ NF te) ix tb σ H fun v H'=>∃ a ob kvs,NF a/\H' a=some (.frz ob (.dK kvs))/\Q v (upd H' a (.dK kvs))
theorem yqS {NF:Addr->Prop}{ta tb:TE}{ea eb:XE}(ix:List Nat) (a:ybR K ta ea) (b:ybR K tb eb):ykN K (yvo NF ta ix tb) (yiO ea ix eb):=by
 intro W0 W ρ σ Q d h' gd e q
 obtain ⟨x,h1,e1,f1⟩:=yi e
 refine a W0 W ρ σ _ x h1 gd e1 fun v W1 w1 l1 r1=>?_
 subst w1
 split at f1
 .rename_i n
  split at f1
  .rename_i ks xs hn
   split at f1
   .rename_i hlen
    obtain ⟨zs,h2,e2,f2⟩:=yi f1
    cases f2
    have hz:=ymt e2
    rw [length_map] at hz
    obtain ⟨p,ev,hm,hf,us,hp,hl,rs⟩:=l1.ok.loc hn r1
    have hzl:(ks.zip us).length=ks.length:=by rw [length_zip,hl,Nat.min_self]
    refine ⟨p,ks.zip us,ev,hp,fun ob nf=>?_⟩
    have lf:Le K W1 (ymC W1 n p (.frz ob (.dK (ks.zip us))) (.fz ks xs)):=yfr l1.ok hn hm hf ⟨hf,ob,us,yD,hl,rs⟩
    have hnl:n<W1.h.length:=(List.getElem?_eq_some_iff.mp hn).1
    have still:∀ W',Lf K (ymC W1 n p (.frz ob (.dK (ks.zip us))) (.fz ks xs)) W'->W'.h[n]?=some (.fz ks xs)/\W'.H p=some (.frz ob (.dK (ks.zip us))):=fun W' l=>by
     obtain ⟨z1,z2⟩:=l.fz n ks xs (getElem?_set_self hnl)
     exact ⟨z1,(z2 p hm).trans yD⟩
    have l2:=l1.trans lf
    generalize hW2:ymC W1 n p (.frz ob (.dK (ks.zip us))) (.fz ks xs)=W2 at *
    have hW2h:W2.h=W1.h.set n (.fz ks xs):=by rw [<- hW2];rfl
    have hW2H:W2.H=upd W1.H p (.frz ob (.dK (ks.zip us))):=by rw [<- hW2];rfl
    have hW2m:W2.m=W1.m:=by rw [<- hW2];rfl
    rw [<- hW2h] at e2
    rw [<- hW2H]
    intro D hD
    have nm:=lf.ok.out hD
    have nf2:=lf.ok.ff hD
    refine ⟨fun i m H=>m=ks.length-i/\i<=ks.length/\∃ W' acc done rest,W'.H=H/\Le K W2 W'/\D∉W'.m/\W'.F D=none/\H D=some (.lst acc)/\ycJ K W' done acc/\done.length=i/\zs=done++rest/\yij eb (yeX ix ρ) ((ks.map yjE).drop i) W'.h=some (rest,h2),⟨_,rfl,zero_le _,ygg W2 D (.lst []),[],[],zs,rfl,ycA lf.ok hD,nm,nf2,yD,rfl,rfl,rfl,by rw [List.drop_zero];exact e2⟩,?_⟩
    rintro i m _ ⟨rfl,hi,W',acc,done,rest,rfl,l,n1,n2,hd,rd,ld,ez,f⟩
    obtain ⟨z1,z2⟩:=still W' l.lf
    by_cases hlt:i<ks.length
    .have hlt':i<(ks.map yjE).length:=by rw [length_map];exact hlt
     rw [List.drop_eq_getElem_cons hlt'] at f
     obtain ⟨y,h3,k1,f3⟩:=yi f
     obtain ⟨ys,h4,k2,f4⟩:=yi f3
     cases f4
     refine .inr ⟨⟨by rw [hzl];exact hlt,z2⟩,fun v H2 hy=>?_⟩
     obtain ⟨rfl,kv,y1,rfl⟩:=hy
     obtain ⟨y4,y5⟩:=List.getElem?_eq_some_iff.mp y1
     have ek:(ks.map yjE)[i]=yjE kv.1:=by rw [List.getElem_map,<- y5,List.getElem_zip]
     rw [ek] at k1
     refine b W' W' _ _ _ y h3 (yfH gd (l2.trans l) ix (yqL kv.1)) k1 fun w W3 w3 l3 r3=>?_
     have nm3:D∉W3.m:=fun z=>by rw [l3.mn D z n1] at hd;cases hd
     have nf3:W3.F D=none:=l3.new D _ hd n1 n2
     refine ⟨acc,l3.keep _ _ hd n1,?_,ks.length-(i+1),by omega,rfl,hlt,yqj W3 D (.lst (acc++[w])),acc++[w],done++[y],ys,rfl,yhr (l.trans l3) nm3 nf3 hD,nm3,nf3,yD,(l3.repL rd).snoc r3,by simp [ld],by simp [ez],?_⟩
     .rw [rd.len,ld];exact big (by omega)
     .show yij eb (yeX ix ρ) ((ks.map yjE).drop (i+1)) W3.h=some (ys,h2)
      rw [w3];exact k2
    .have ei:i=ks.length:=by omega
     subst ei
     rw [List.drop_of_length_le (by rw [length_map];exact Nat.le_refl _)] at f
     cases f
     refine .inl ⟨⟨hzl.symm,z2⟩,p,ob,ks.zip us,nf,z2,?_⟩
     rw [append_nil] at ez
     subst ez
     have hm':W'.m[n]?=some p:=yej l.pre (by rw [hW2m];exact hm)
     obtain ⟨z3,_⟩:=l.ok.at_ n _ p z1 hm'
     have at':NdAt K W'.F (upd W'.H p (.dK (ks.zip us))) W'.m (.dct ks xs) p:=⟨z3,us,yD,hl,RepL.mono (lf.fs.trans l.fs) (lf.pre.trans l.pre) _ _ rs⟩
     have nW:=yzR l1 hn (fun _ _ z=>by cases z)
     have hDp:D≠p:=fun z=>by subst z;exact n1 (mem_of_getElem? hm')
     refine q D (ymC W' n p (.dK (ks.zip us)) (.dct ks xs)) rfl (ywT (l2.trans l) z1 hm' z3 at' nW) n1 (l2.fresh hD) (fun z=>by cases z) ⟨n2,acc,(yL hDp).trans hd,rd⟩
   .cases f1
  .cases f1
 .cases f1
end PX
namespace L2
open PySem PySem.Spec PyProof.Rows PX
def PTs (X:Cx) (cs:List Expr) (t:TT):Prop :=
 ∀ (pins:List (Addr×Obj)) (s:Shared) (σ:St) (H:Hp) (Q:Bool->Hp->Prop),Inv X pins σ H s->t σ H Q->wpAny (model X.prog X.w) X.A (forIn cs true fun c r=>if r=true then do let ok <- isTrue c X.env (eval c X.env);pure (ForInStep.yield ok) else pure (ForInStep.yield r)) (TP X pins σ Q) X.xe s
theorem PTs.one {X:Cx}{c:Expr}{t:TT}(h:PT X c t):PTs X [c] t:=fun p s σ H Q I q=>wpAny_tests_one (h p s σ H Q I q)
def yBs:TT:=fun _ H Q=>Q true H
theorem PTs.nil {X:Cx}:PTs X [] yBs:=fun p s σ H Q I q=>wpAny_tests_nil ⟨H,I,q⟩
theorem yqT {wi:TI}{ix:List Nat}{te:TE}:yhB wi ix yBs te=yoI wi ix te:=rfl
theorem ywX {X:Cx}{e:Expr}{wi:TI}{ix:List Nat}{te:TE}(h:PE X e (yhB wi ix yBs te)):PE X e (yoI wi ix te):=yqT ▸ h
theorem yCN {X:Cx}{e:Stmt}{wi:TI}{ix:List Nat}{te:TE}{g:TG}(h:PS X e (yuK (yhB wi ix yBs te) g)):PS X e (yuK (yoI wi ix te) g):=yqT ▸ h
theorem ylf {X:Cx}{elt iter:Expr}{cs:List Expr}{tc:TT}{x:Str}{px:Pos}{scope:Scope}{cpos:Pos}{wi:TI}{te:TE}(ix:List Nat) (fr:List Str) (hc:X.calm=true) (hi:PI X (.Name x px) iter wi) (hfr:FrOk X scope ix fr)
  (he:∀ (cl:List (Str×Addr)) (C:Addr) (s₃:Shared) (H₃:Hp) (fp:List Addr) (pins:List (Addr×Obj)),PE (cxC X scope cl C (x::fr) s₃ H₃ fp pins) elt te)
  (hq:∀ (cl:List (Str×Addr)) (C:Addr) (s₃:Shared) (H₃:Hp) (fp:List Addr) (pins:List (Addr×Obj)),PTs (cxC X scope cl C (x::fr) s₃ H₃ fp pins) cs tc)
  (hnd:(x::fr).Nodup) (hkind:scope.kind=.function) (hcell:∀ y∈scope.names,y.2≠.cell)
  (hnames:∀ y∈scope.names,y.2=.local->scope.names.lookup y.1=some .local) (hfree0:∀ y∈scope.names,y.2=.free->y.1∈fr) (hx:scope.names.lookup x=some .local)
  (hs:∀ v,foldedSetIterable iter X.env v=pure v)
  {pins:List (Addr×Obj)}{s:Shared}{σ:St}{H:Hp}{Qf:VK}{use:Option (Value->Sem Unit)}{QQ:Value->Shared->Prop}{p2:Pos}(I:Inv X pins σ H s) (h:yhB wi ix tc te σ H Qf)
  (fin0:∀ {cl:List (Str×Addr)}{C:Addr}{s3:Shared}{H3:Hp}{fp:List Addr},Inv X pins σ H3 s3->(∀ b∈fp,ysm X pins H3 b)->s3.heap.objs.size=C->∀ {D:Addr}{σ':St}{H':Hp}{s':Shared},Inv (cxC X scope cl C (x::fr) s3 H3 fp pins) [] σ' H' s'->Qf (.ref D) H'->compPost (model X.prog X.w) X.A X.xe use QQ (.ref D) C (.ok .next) s') :
  wpAny (model X.prog X.w) X.A (comprehension (.ListComp elt [⟨.Name x px,iter,cs,0⟩] scope cpos) scope X.env p2 (newList []) false (eval iter X.env) use) QQ X.xe s:=by
 have hfn:X.env.scope.kind=.function:=I.ok.kind
 have hfree:∀ y∈scope.names,y.2=.free->X.env.kindOf y.1=some .cell/\scope.names.lookup y.1=some .free:=fun y hy e=>by
  obtain ⟨j,hj,ej⟩:=getElem_of_mem (hfree0 y hy e)
  obtain ⟨i,_,_,h3,h4⟩:=hfr.get (j:=j) (y:=y.1) (by rw [List.getElem?_eq_getElem hj,ej])
  exact ⟨h4,h3⟩
 obtain ⟨cl,ecl,hcl1,hcl2⟩:=yeC (env:=X.env) scope.names [] fun n hn=>I.ok.has n (.inl (hfree _ hn rfl).1)
 have hclos:closureFor scope X.env=pure cl:=by
  unfold closureFor
  have:(forIn scope.names ([]:List (Str×Addr)) (fun (x:Str×NameKind) (r:List (Str×Addr))=>if (x.2 == NameKind.free)=true then do let c <- cellOf X.env x.1;pure (ForInStep.yield ((x.1,c)::r)) else pure (ForInStep.yield r)):Sem (List (Str×Addr)))=pure cl:=ecl
  first
   | exact (by simpa using congrArg (· >>= fun r=>pure r) this)
   | (rw [show (pure cl:Sem (List (Str×Addr)))=(pure cl >>= fun r=>pure r) from rfl,<- this];rfl)
 have hcle:∀ y c,cl.lookup y=some c->X.env.cells.lookup y=some c/\(y,NameKind.free)∈scope.names:=fun y c e=>by
  by_cases hy:(y,NameKind.free)∈scope.names
  .exact ⟨by rw [<- hcl1 y hy];exact e,hy⟩
  .rw [hcl2 y hy] at e;simp at e
 refine wpAny_comprehension_free rfl hs hclos hkind hnames ?_
 refine thn (hi pins s σ H _ I h) fun v s1 h1=>thn h1 fun itv s2 h2=>?_
 obtain ⟨it,fp,tn,J,H2,e,I2,T,st2,f2,q2⟩:=h2
 subst e
 refine wpAny_newObj_type ?_
 generalize hs3:({ s2 with heap:=s2.heap.push { cls:=.type "list",dict:=none,data:=.seq ([]:List Value).toArray } }:Shared)=s3
 generalize hD:s2.heap.objs.size=D
 have hDn:H2 D=none:=by rw [<- hD];exact I2.hok.fresh (Nat.le_refl _)
 have I3:Inv X pins σ (upd H2 D (.lst [])) s3:=by
  rw [<- hs3,<- hD]
  exact I2.lnew (t':=s2.toks) (ys:=[]) (its:=[]) .nil (zero_le _)
 have k3:∀ b o,s2.heap.get? b=some o->s3.heap.get? b=some o:=fun b o e=>by rw [<- hs3];exact Heap.get?_push_of_some _ e
 have st3:tn 0 s3.heap:=T.keep _ _ _ st2 fun b _ o e=>k3 b o e
 have fne:∀ b∈fp,b≠D:=fun b hb=>by
  obtain ⟨o,e,_⟩:=T.obj _ _ st2 b hb
  rw [<- hD]
  exact ne_of_lt (Heap.lt_size e)
 have f3:∀ b∈fp,ysm X pins (upd H2 D (.lst [])) b:=fun b hb=>⟨by rw [yL (fne b hb)];exact (f2 b hb).1,(f2 b hb).2⟩
 have q3:=q2 D hDn
 generalize upd H2 D (.lst [])=H3 at I3 f3 q3
 obtain ⟨W,⟨m0,w0⟩,turn⟩:=q3
 refine wpAny_newFunctionEnv hcell (by intro y hy;simp at hy) (fun h4 hns hsb=>?_) hkind
 try dsimp only at hns hsb ⊢
 generalize hC:s3.heap.objs.size=C at hns hsb ⊢
 have k4:∀ b o,s3.heap.get? b=some o->h4.get? b=some o:=fun b o e=>(hsb.2 b (by rw [<- hC];exact ne_of_lt (Heap.lt_size e))).trans (Heap.get?_push_of_some _ e)
 have Cne:∀ b o,s3.heap.get? b=some o->b≠C:=fun b o e=>by rw [<- hC];exact ne_of_lt (Heap.lt_size e)
 have stk:=I3.stkSub
 have pinF:∀ p∈X.pn++pins,p.1∉frs X.stack:=fun p hp z=>by
  obtain ⟨_,_,n1,n2,_⟩:=I3.pin p hp
  rcases mem_cons.mp (stk _ z) with z|z
  .exact n1 z
  .exact n2 z
 have okC:(cxC X scope cl C (x::fr) s3 H3 fp pins).Ok:=by
  refine ⟨I3.ok.mod,by show (relabel scope X.env).kind=_;exact hkind,I3.ok.glob,I3.ok.blt,le_of_eq hC,fun y z c h1 h2=>I3.ok.inj y z c (hcle y c h1).1 (hcle z c h2).1,fun y hy=>?_,fun y c hf _=>(by cases hf),I3.ok.hd,I3.ok.frames,.inl rfl,fun b hb=>⟨?_,fun y c e z=>?_⟩,I3.bs,?_,fun b o e hb=>?_,fun b hb z=>?_,I3.stack,I3.stkFree⟩
  .have hy:((relabel scope X.env).names.lookup y=some .cell)\/((relabel scope X.env).names.lookup y=some .free):=hy
   rw [show (relabel scope X.env).names.lookup y=_ from ydO y scope.names] at hy
   cases e:scope.names.lookup y with
   | none=>rw [e] at hy;simp at hy
   | some k =>
    have hm:(y,k)∈scope.names:=PySem.mem_of_lookup e
    have hkf:k=.free:=by
     rw [e] at hy
     cases k<;>simp at hy ⊢
     exact absurd rfl (hcell _ hm)
    subst hkf
    obtain ⟨c,hc'⟩:=I3.ok.has y (.inl (hfree _ hm rfl).1)
    exact ⟨c,by show cl.lookup y=_;rw [hcl1 y hm];exact hc'⟩
  .obtain ⟨o,e,_⟩:=T.obj _ _ st3 b hb
   exact Cne b o e
  .exact (f3 b hb).2.2.2.2.1 y c (hcle y c e).1 z
  .exact Nat.le_trans I3.ok.bsz I3.sz
  .rcases (f3 b hb).2.2.2.1 with z|z
   .exact I3.ok.noex b o e z
   .exact absurd (lt_of_lt_of_le (Heap.lt_size e) (Nat.le_trans I3.ok.bsz z)) (lt_irrefl _)
  .rcases mem_cons.mp (stk _ z) with z|z
   .exact (f3 b hb).2.1 z
   .exact (f3 b hb).2.2.1 z
 have inn:∀ v,(inner ix σ v)=some v::ix.map fun i=>(σ[i]?).getD none:=fun _=>rfl
 have I4:Inv (cxC X scope cl C (x::fr) s3 H3 fp pins) [] (none::ix.map fun i=>(σ[i]?).getD none) H3 { s3 with heap:=h4,toks:=s3.toks+([]:List (Str×Value)).length }:=by
  refine ⟨okC,rfl,I3.bare,Un.kept k4,⟨_,hns,fun j y v e1 e2 e3=>?_⟩,fun y c e=>?_,I3.hok.fresh (le_of_eq hC),fun y c e=>I3.freeC y c (hcle y c e).1,fun p hp=>?_,I3.hok.kept k4,?_⟩
  .match j,e1,e2 with
   | 0,e1,e2=>simp at e2
   | j+1,e1,e2 =>
    obtain ⟨i,hi1,hi2,hi3,hi4⟩:=hfr.get (j:=j) (y:=y) (by have e1':(x::fr)[j+1]?=some y:=e1;simpa using e1')
    have e2':σ[i]?=some (some v):=by
     have e2:(ix.map fun i=>(σ[i]?).getD none)[j]?=some (some v):=by simpa using e2
     rw [getElem?_map,hi1] at e2
     simp at e2
     cases z:σ[i]? with
     | none=>rw [z] at e2;simp at e2
     | some o=>rw [z] at e2;simp at e2;rw [e2]
    obtain ⟨m,_,hl⟩:=I3.loc
    obtain ⟨u,r,l⟩:=hl i y v hi2 e2' (.inr (.inl hi4))
    refine ⟨u,r,?_⟩
    rcases l with ⟨k,_⟩|⟨k,c,ec,z⟩
    .rw [hi4] at k;cases k
    .have hm:(y,NameKind.free)∈scope.names:=PySem.mem_of_lookup hi3
     refine .inr ⟨.inl ?_,c,by show cl.lookup y=_;rw [hcl1 y hm];exact ec,?_⟩
     .show (relabel scope X.env).names.lookup y=_
      rw [show (relabel scope X.env).names.lookup y=_ from ydO y scope.names,hi3]
      simp [hfn,hi4]
     .obtain ⟨o,ho,hd⟩:=z
      exact ⟨o,k4 _ _ ho,hd⟩
  .obtain ⟨v,o,ho,hd⟩:=I3.cell y c (hcle y c e).1
   exact ⟨v,o,k4 _ _ ho,hd⟩
  .have hp:p∈X.pn++pins:=by simpa [cxC] using hp
   obtain ⟨e,n,ne,nf,d⟩:=I3.pin p hp
   exact ⟨k4 _ _ e,n,Cne _ _ e,pinF p hp,d⟩
  .show (none::ix.map fun i=>(σ[i]?).getD none).length=(x::fr).length
   rw [length_cons,length_cons,length_map,hfr.len]
 have st4:tn 0 h4:=T.keep _ _ _ st3 fun b _ o e=>k4 b o e
 have f4:∀ b∈fp,b≠C/\b∉frs X.stack/\(∀ y c,cl.lookup y=some c->c≠b)/\∀ p∈(X.pn++pins)++([]:List (Addr×Obj)),p.1≠b:=fun b hb=>by
  obtain ⟨o,e,_⟩:=T.obj _ _ st3 b hb
  refine ⟨Cne b o e,fun z=>?_,fun y c e=>(f3 b hb).2.2.2.2.1 y c (hcle y c e).1,fun p hp=>(f3 b hb).2.2.2.2.2 p (by simpa using hp)⟩
  rcases mem_cons.mp (stk _ z) with z|z
  .exact (f3 b hb).2.1 z
  .exact (f3 b hb).2.2.1 z
 have stat:∀ {H':Hp},(∀ b∈fp,H' b=none)->∀ b∈fp,ysm (cxC X scope cl C (x::fr) s3 H3 fp pins) [] H' b:=fun hn b hb=>⟨hn b hb,(f4 b hb).1,(f4 b hb).2.1,.inl hb,(f4 b hb).2.2.1,(f4 b hb).2.2.2⟩
 have loop:∀ s5:Shared,s5={ s3 with heap:=h4,toks:=s3.toks+([]:List (Str×Value)).length } ->
   codeAny (model X.prog X.w) X.A (.compLoop (.ListComp elt [⟨.Name x px,iter,cs,0⟩] scope cpos) 0 (.ref it) (.ref D) (compEnvC scope cl C X.env)) (compPost (model X.prog X.w) X.A X.xe use QQ (.ref D) C) s5:=by
  rintro s5 rfl
  refine codeAny_loop rfl (fun n s'=>∃ i o H',Inv (cxC X scope cl C (x::fr) s3 H3 fp pins) [] (o::ix.map fun i=>(σ[i]?).getD none) H' s'/\tn i s'.heap/\(∀ b∈fp,H' b=none)/\W i n H') ?_ m0 ⟨0,none,H3,I4,st4,fun b hb=>(f3 b hb).1,w0⟩
  rintro n s6 ⟨i,o,H6,I6,st6,fr6,w6⟩
  show wpAny _ _ ((compTurn (.ListComp elt [⟨.Name x px,iter,cs,0⟩] scope cpos) 0 (.ref it) (.ref D) (compEnvC scope cl C X.env)).onRaise (fun x=>do noteFrame x (compEnvC scope cl C X.env);theTreesLotGoes x)) _ _ s6
  refine wpAny_noted ?_
  rw [compTurn_list]
  rcases turn i n H6 w6 with ⟨stop,qn⟩|⟨go,step⟩
  .refine wpAny_bind (wpAny_standAt (wpAny_bind (thn (T.done (cxC X scope cl C (x::fr) s3 H3 fp pins) rfl rfl rfl hc i [] s6 _ H6 _ I6 (stat fr6) st6 stop) fun r s7 ⟨hr,I7⟩=>?_)))
   subst hr
   exact wpAny_pure (fin0 I3 f3 hC I7 qn)
  .refine wpAny_bind (wpAny_standAt (wpAny_bind (thn (T.item (cxC X scope cl C (x::fr) s3 H3 fp pins) rfl rfl rfl hc i [] s6 _ H6 _ I6 (stat fr6) st6 go) fun r s7 ⟨u,hr,h7⟩=>?_)))
   subst hr
   refine wpAny_bind (thn h7 fun _ s8 ⟨y,H8,I8,r8,y8,st8,fr8⟩=>?_)
   have I8':=I8.pinned (stat fr8) (T.obj _ _ st8)
   have hx':Loc (cxC X scope cl C (x::fr) s3 H3 fp pins).env.scope x:=.inl (lookup_relabel_local hx)
   refine wpAny_bind (wpAny_mono (ylQ (X:=cxC X scope cl C (x::fr) s3 H3 fp pins) (i:=0) (x:=x) (pos:=px) hnd rfl hx' (.inr (lookup_relabel_local hx)) _ s8 _ H8 y u (fun σ9 H9=>σ9=inner ix σ y/\H9=H8) I8' r8 ⟨rfl,rfl⟩) (fun _ s9 ⟨σ9,H9,I9,e9,e9'⟩=>?_) fun _ _ f=>f.elim)
   subst e9 e9'
   refine wpAny_bind (wpAny_mono (hq cl C s3 H3 fp pins _ s9 _ _ _ I9 (step y _ y8)) (fun kb s9b hkb=>?_) fun _ _ f=>f.elim)
   obtain ⟨H9b,I9b,q9b⟩:=hkb
   cases kb with
   | false =>
    rw [if_neg (by decide)] at q9b
    obtain ⟨m',hm',w10⟩:=q9b
    refine wpAny_pure ⟨rfl,m',hm',i+1,some y,_,I9b.unpinned,T.keep _ _ _ st8 fun b hb o e=>(I9b.pin (b,o) (mem_append_right _ (mem_append_right _ (ycU hb e)))).1,fun b hb=>?_,w10⟩
    obtain ⟨o,e,d⟩:=T.obj _ _ st8 b hb
    exact (I9b.pin (b,o) (mem_append_right _ (mem_append_right _ (ycU hb e)))).2.1
   | true =>
   rw [if_pos rfl] at q9b
   refine wpAny_bind (wpAny_bind (wpAny_mono (he cl C s3 H3 fp pins _ s9b _ _ _ I9b q9b) (fun v s10 ⟨z,H10,I10,r10,acc,a10,l10,m',hm',w10⟩=>?_) fun _ _ f=>f.elim))
   refine wpAny_bind (wpAny_mono (ydU (X:=cxC X scope cl C (x::fr) s3 H3 fp pins) _ s10 _ H10 (.ref D) [z] (.ref D) [v] (fun _ H11=>H11=upd H10 D (.lst (acc++[z]))) I10 rfl (.cons r10 .nil) ⟨D,acc,z,rfl,rfl,a10,l10,rfl⟩) (fun _ s11 ⟨_,H11,I11,_,e11⟩=>?_) fun _ _ f=>f.elim)
   subst e11
   refine wpAny_pure (wpAny_pure ⟨rfl,m',hm',i+1,some y,_,I11.unpinned,T.keep _ _ _ st8 fun b hb o e=>(I11.pin (b,o) (mem_append_right _ (mem_append_right _ (ycU hb e)))).1,fun b hb=>?_,w10⟩)
   obtain ⟨o,e,d⟩:=T.obj _ _ st8 b hb
   exact (I11.pin (b,o) (mem_append_right _ (mem_append_right _ (ycU hb e)))).2.1
 exact codeAny_compStart_list (loop _ rfl) (T.self X.A 0 _ _ _ st4 (loop _ rfl))
theorem yhc {X:Cx}{elt iter:Expr}{cs:List Expr}{tc:TT}{x:Str}{px:Pos}{scope:Scope}{cpos:Pos}{wi:TI}{te:TE}(ix:List Nat) (fr:List Str) (hc:X.calm=true) (hi:PI X (.Name x px) iter wi) (hfr:FrOk X scope ix fr)
  (he:∀ (cl:List (Str×Addr)) (C:Addr) (s₃:Shared) (H₃:Hp) (fp:List Addr) (pins:List (Addr×Obj)),PE (cxC X scope cl C (x::fr) s₃ H₃ fp pins) elt te)
  (hq:∀ (cl:List (Str×Addr)) (C:Addr) (s₃:Shared) (H₃:Hp) (fp:List Addr) (pins:List (Addr×Obj)),PTs (cxC X scope cl C (x::fr) s₃ H₃ fp pins) cs tc)
  (hnd:(x::fr).Nodup) (hkind:scope.kind=.function) (hcell:∀ y∈scope.names,y.2≠.cell)
  (hnames:∀ y∈scope.names,y.2=.local->scope.names.lookup y.1=some .local) (hfree0:∀ y∈scope.names,y.2=.free->y.1∈fr) (hx:scope.names.lookup x=some .local)
  (hs:∀ v,foldedSetIterable iter X.env v=pure v):PE X (.ListComp elt [⟨.Name x px,iter,cs,0⟩] scope cpos) (yhB wi ix tc te):=by
 intro pins s σ H Q I h
 rw [eval_ListComp]
 refine ylf (use:=none) (QQ:=EP X pins σ Q) (Qf:=Q) ix fr hc hi hfr he hq hnd hkind hcell hnames hfree0 hx hs I h (fun {cl C s3 H3 fp} I3 f3 hC {D σ' H' s'} I' q'=>?_)
 have Cne:∀ b o,s3.heap.get? b=some o->b≠C:=fun b o e=>by rw [<- hC];exact ne_of_lt (Heap.lt_size e)
 obtain ⟨m,hn,_⟩:=I'.loc
 refine ⟨m,hn,fun h' sb=>⟨.ref D,H',?_,rfl,q'⟩⟩
 have hCn:H' C=none:=I'.free
 have same:∀ b,b≠C->h'.get? b=s'.heap.get? b:=fun b hb=>sb.2 b hb
 have U:=I'.base
 have U':Un (frs X.stack) fp H3 H' s3.heap h':=by
  refine ⟨fun b o e n h1 h2=>?_,fun b o e n h1 h2=>?_,U.free,fun b o e h2=>?_,U.tups,U.frzs,U.tbls⟩
  .rw [same b (Cne b o e)];exact U.keep b o e n h1 h2
  .rw [same b (Cne b o e)];exact U.slot b o e n h1 h2
  .rw [same b (Cne b o e)];exact U.there b o e h2
 refine I3.call' (s':={ s' with heap:=h' }) (by show s'.os=s3.os;exact I'.os) U' ?_ I'.bare fun b hb=>⟨(f3 b hb).2.2.2.1,(f3 b hb).2.1,(f3 b hb).2.2.2.2.1,(f3 b hb).2.2.2.2.2⟩
 intro b ob e
 refine (I'.hok b ob e).stay (fun c w' hc q=>?_) (fun _ q=>q) fun _ _ q=>q
 show h'.get? c=_
 rw [same c ?_]
 .exact q
 rintro rfl
 rcases hc with rfl|hc
 .rw [hCn] at e;cases e
 .rw [hCn] at hc;cases hc
theorem ytO {y:Str}{py spos:Pos}{iy:Nat}{X:Cx}{elt iter:Expr}{cs:List Expr}{tc:TT}{x:Str}{px:Pos}{scope:Scope}{cpos:Pos}{wi:TI}{te:TE}(ix:List Nat) (fr:List Str) (hc:X.calm=true) (hi:PI X (.Name x px) iter wi) (hfr:FrOk X scope ix fr)
  (he:∀ (cl:List (Str×Addr)) (C:Addr) (s₃:Shared) (H₃:Hp) (fp:List Addr) (pins:List (Addr×Obj)),PE (cxC X scope cl C (x::fr) s₃ H₃ fp pins) elt te)
  (hq:∀ (cl:List (Str×Addr)) (C:Addr) (s₃:Shared) (H₃:Hp) (fp:List Addr) (pins:List (Addr×Obj)),PTs (cxC X scope cl C (x::fr) s₃ H₃ fp pins) cs tc)
  (hnd:(x::fr).Nodup) (hkind:scope.kind=.function) (hcell:∀ y∈scope.names,y.2≠.cell)
  (hnames:∀ y∈scope.names,y.2=.local->scope.names.lookup y.1=some .local) (hfree0:∀ y∈scope.names,y.2=.free->y.1∈fr) (hx:scope.names.lookup x=some .local)
  (hs:∀ v,foldedSetIterable iter X.env v=pure v)
  (hN:X.N.Nodup) (hyi:X.N[iy]?=some y) (hyx:Loc X.env.scope y) (hyf:X.fn y=true\/X.env.scope.names.lookup y=some .local) (hsw:swapsWith (.ListComp elt [⟨.Name x px,iter,cs,0⟩] scope cpos) (some (.Name y py)) spos.line X.env=pure true) :
  PS X (.Assign [.Name y py] (.ListComp elt [⟨.Name x px,iter,cs,0⟩] scope cpos) spos) (yuK (yhB wi ix tc te) (yoz iy)):=by
 intro pins s σ H D0 I h
 rw [exec_Assign_Name_used _ _ _ _ hsw]
 refine wpAny_bind (wpAny_standAt (wpAny_bind ?_))
 show wpAny _ X.A (do let _ <- comprehension (.ListComp elt [⟨.Name x px,iter,cs,0⟩] scope cpos) scope X.env _ (newList []) false (eval iter X.env) (some (assign (.Name y py) X.env))) _ _ s
 refine wpAny_bind (wpAny_mono (ylf (use:=some (assign (.Name y py) X.env)) (QQ:=fun _ s'=>SP X pins D0 .next s') (Qf:=fun v H'=>yoz iy v σ H' D0.nx) ix fr hc hi hfr he hq hnd hkind hcell hnames hfree0 hx hs I h (fun {cl C s3 H3 fp} I3 f3 hC {D σ' H' s'} I' q'=>?_)) (fun _ s' hq=>wpAny_pure (wpAny_pure hq)) fun _ _ e=>e)
 obtain ⟨m,hn,_⟩:=I'.loc
 have hCn:H' C=none:=I'.free
 have U:=I'.base
 have U':Un (frs X.stack) fp H3 H' s3.heap s'.heap:=⟨U.keep,U.slot,U.free,U.there,U.tups,U.frzs,U.tbls⟩
 have IX:Inv X pins σ H' s':=I3.call' (s':=s') (by show s'.os=s3.os;exact I'.os) U' I'.hok I'.bare fun b hb=>⟨(f3 b hb).2.2.2.1,(f3 b hb).2.1,(f3 b hb).2.2.2.2.1,(f3 b hb).2.2.2.2.2⟩
 have hCf:ysm X pins H' C:=I3.fpOk (le_of_eq hC) hCn
 obtain ⟨o,es,ep,eo,r1,r2,r3⟩:=hn
 have IP:=IX.pinned (fp:=[C]) (fun b hb=>by have e:b=C:=(by simpa using hb);subst e;exact hCf) (fun b hb=>by have e:b=C:=(by simpa using hb);subst e;exact ⟨o,eo,fun v z=>by rw [r1] at z;cases z⟩)
 refine thn (ylQ hN hyi hyx hyf _ s' σ H' (.ref D) (.ref D) D0.nx IP rfl q') fun _ s2 ⟨σ2,H2',I2',q2'⟩=>?_
 have pc:=I2'.pin (C,o) (mem_append_right _ (mem_append_right _ (ycU (by simp) eo)))
 exact ⟨m,⟨o,es,ep,pc.1,r1,r2,r3⟩,fun h' sb=>⟨σ2,H2',I2'.unpinned.turned (t':=s2.toks) (fun b ob hb e=>(sb.2 b hb).trans e) pc.2.1 hCf.2.1 hCf.2.2.2.1 hCf.2.2.2.2.1 hCf.2.2.2.2.2,q2'⟩⟩
end L2
namespace PX
open PySem L2 PySem.Spec PyProof.Rows
section
variable (K:Ck)
noncomputable def cE (x:XE):TE:=fun σ H Q=>∃ (W0 W:Wd) (ρ:PSt) (y:PV) (h':AH),W.H=H/\Good K W0 W ρ σ/\x ρ W.h=some (y,h')/\∀ v W',W'.h=h'->Le K W W'->ycI K W' y v->Q v W'.H
def cO (x:XO):TE:=fun σ H Q=>∃ (W0 W:Wd) (ρ:PSt) (d:Nd) (h':AH),W.H=H/\Good K W0 W ρ σ/\x ρ W.h=some (d,h')/\∀ p W',W'.h=h'->Le K W W'->p∉W'.m->W.H p=none->d≠.dead->NdAt K W'.F W'.H W'.m d p->Q (.ref p) W'.H
noncomputable def cT (x:XT):TT:=fun σ H Q=>∃ (W0 W:Wd) (ρ:PSt) (y:Bool) (h':AH),W.H=H/\Good K W0 W ρ σ/\x ρ W.h=some (y,h')/\∀ W',W'.h=h'->Le K W W'->Q y W'.H
noncomputable def cA (x:XA):TA:=fun σ H Q=>∃ (W0 W:Wd) (ρ:PSt) (y:List PV) (h':AH),W.H=H/\Good K W0 W ρ σ/\x ρ W.h=some (y,h')/\∀ v W',W'.h=h'->Le K W W'->ycJ K W' y v->Q v W'.H
noncomputable def cP (x:PSt->AH->Option (Option Int×AH)):TO:=fun σ H Q=>∃ (W0 W:Wd) (ρ:PSt) (y:Option Int) (h':AH),W.H=H/\Good K W0 W ρ σ/\x ρ W.h=some (y,h')/\∀ W',W'.h=h'->Le K W W'->Q y W'.H
noncomputable def cI (x:XA):TI:=fun σ H R=>∃ (W0 W:Wd) (ρ:PSt) (y:List PV) (h':AH),W.H=H/\Good K W0 W ρ σ/\x ρ W.h=some (y,h')/\∀ J W',W'.h=h'->Le K W W'->yBX K W' J y->R J W'.H
noncomputable def cG (y:XG):TG:=fun v σ H Q=>∃ (W0 W:Wd) (ρ ρ':PSt) (x:PV),W.H=H/\Good K W0 W ρ σ/\ycI K W x v/\y x ρ=some ρ'/\∀ σ',Good K W0 W ρ' σ'->Q σ' W.H
def cS (s:XS):TS:=fun D σ H=>∃ (W0 W:Wd) (ρ:PSt) (o:Out) (h':AH),W.H=H/\Good K W0 W ρ σ/\s ρ W.h=some (o,h')/\Ends.Ok K W0 W D h' o
noncomputable def cF (s:XS):TS:=fun D σ H=>∃ (W0 W:Wd) (ρ ρ':PSt) (h':AH),W.H=H/\Good K W0 W ρ σ/\s ρ W.h=some (.nx ρ',h')/\∀ W',W'.h=h'->Lf K W W'->Good K W0 W' ρ' σ->D.nx σ W'.H
end
section
variable {K:Ck}
theorem sE {x:XE}:ybR K (cE K x) x:=fun W0 W ρ σ Q y h' g e q=>⟨W0,W,ρ,y,h',rfl,g,e,q⟩
theorem sO {x:XO}:ykN K (cO K x) x:=fun W0 W ρ σ Q y h' g e q=>⟨W0,W,ρ,y,h',rfl,g,e,q⟩
theorem sT {x:XT}:ykM K (cT K x) x:=fun W0 W ρ σ Q y h' g e q=>⟨W0,W,ρ,y,h',rfl,g,e,q⟩
theorem sA {x:XA}:ylK K (cA K x) x:=fun W0 W ρ σ Q y h' g e q=>⟨W0,W,ρ,y,h',rfl,g,e,q⟩
theorem sP {x}:yya K (cP K x) x:=fun W0 W ρ σ Q y h' g e q=>⟨W0,W,ρ,y,h',rfl,g,e,q⟩
theorem sI {x:XA}:yva K (cI K x) x:=fun W0 W ρ σ Q y h' g e q=>⟨W0,W,ρ,y,h',rfl,g,e,q⟩
theorem sG {y:XG}:yuZ K (cG K y) y:=fun W0 W ρ ρ' σ x v Q g r e q=>⟨W0,W,ρ,ρ',x,rfl,g,r,e,q⟩
theorem sS {s:XS}:yeY K (cS K s) s:=fun W0 W ρ σ D o h' g e q=>⟨W0,W,ρ,o,h',rfl,g,e,q⟩
theorem sF {s:XS}:ysp K (cF K s) s:=fun W0 W ρ ρ' σ D h' g e q=>⟨W0,W,ρ,ρ',h',rfl,g,e,q⟩
end
abbrev ckX (X:Cx) (A:Nat->Addr):Ck:=⟨X.K,A⟩
structure ZE (X:Cx) (A:Nat->Addr) (e:Expr) (x:XE):Prop where of:PE X e (cE (ckX X A) x)
structure ZO (X:Cx) (A:Nat->Addr) (e:Expr) (x:XO):Prop where of:PE X e (cO (ckX X A) x)
structure ZT (X:Cx) (A:Nat->Addr) (e:Expr) (x:XT):Prop where of:PT X e (cT (ckX X A) x)
structure ZW (X:Cx) (A:Nat->Addr) (e:Expr) (x:XT):Prop where of:PW X e (cT (ckX X A) x)
structure ZA (X:Cx) (A:Nat->Addr) (e:List Expr) (n:Nat) (x:XA):Prop where
 of:PA X e (cA (ckX X A) x)
 len:∀ ρ h xs h',x ρ h=some (xs,h')->xs.length=n
structure ZP (X:Cx) (A:Nat->Addr) (e:Option Expr) (x:PSt->AH->Option (Option Int×AH)):Prop where of:PO X e (cP (ckX X A) x)
structure ZI (X:Cx) (A:Nat->Addr) (tg e:Expr) (x:XA):Prop where of:PI X tg e (cI (ckX X A) x)
structure ZG (X:Cx) (A:Nat->Addr) (e:Expr) (y:XG):Prop where of:PG X e (cG (ckX X A) y)
structure ZS (X:Cx) (A:Nat->Addr) (e:Stmt) (s:XS):Prop where of:PS X e (cS (ckX X A) s)
structure ZSs (X:Cx) (A:Nat->Addr) (e:List Stmt) (s:XS):Prop where of:PSs X e (cS (ckX X A) s)
structure ZF (X:Cx) (A:Nat->Addr) (e:Stmt) (s:XS):Prop where of:PS X e (cF (ckX X A) s)
structure ZFs (X:Cx) (A:Nat->Addr) (e:List Stmt) (s:XS):Prop where of:PSs X e (cF (ckX X A) s)
section
variable {X:Cx}{A:Nat->Addr}{e:Expr}{es:List Expr}
theorem wE {t:TE}{x:XE}(p:PE X e t) (s:ybR (ckX X A) t x):ZE X A e x:=⟨fun pins st σ H Q I ⟨W0,W,ρ,y,h',eh,g,ex,q⟩=>by subst eh;exact p pins st σ _ Q I (s W0 W ρ σ Q y h' g ex q)⟩
theorem wO {t:TE}{x:XO}(p:PE X e t) (s:ykN (ckX X A) t x):ZO X A e x:=⟨fun pins st σ H Q I ⟨W0,W,ρ,y,h',eh,g,ex,q⟩=>by subst eh;exact p pins st σ _ Q I (s W0 W ρ σ Q y h' g ex q)⟩
theorem wT {t:TT}{x:XT}(p:PT X e t) (s:ykM (ckX X A) t x):ZT X A e x:=⟨fun pins st σ H Q I ⟨W0,W,ρ,y,h',eh,g,ex,q⟩=>by subst eh;exact p pins st σ _ Q I (s W0 W ρ σ Q y h' g ex q)⟩
theorem wW {t:TT}{x:XT}(p:PW X e t) (s:ykM (ckX X A) t x):ZW X A e x:=⟨fun wh pins st σ H Q I ⟨W0,W,ρ,y,h',eh,g,ex,q⟩=>by subst eh;exact p wh pins st σ _ Q I (s W0 W ρ σ Q y h' g ex q)⟩
theorem wA {t:TA}{x:XA}{n:Nat}(p:PA X es t) (s:ylK (ckX X A) t x) (l:∀ ρ h xs h',x ρ h=some (xs,h')->xs.length=n):ZA X A es n x:=⟨fun pos pins st σ H Q I ⟨W0,W,ρ,y,h',eh,g,ex,q⟩=>by subst eh;exact p pos pins st σ _ Q I (s W0 W ρ σ Q y h' g ex q),l⟩
theorem wP {o:Option Expr}{t:TO}{x} (p:PO X o t) (s:yya (ckX X A) t x):ZP X A o x:=⟨fun pins st σ H Q I ⟨W0,W,ρ,y,h',eh,g,ex,q⟩=>by subst eh;exact p pins st σ _ Q I (s W0 W ρ σ Q y h' g ex q)⟩
theorem wI {tg:Expr}{t:TI}{x:XA}(p:PI X tg e t) (s:yva (ckX X A) t x):ZI X A tg e x:=⟨fun pins st σ H Q I ⟨W0,W,ρ,y,h',eh,g,ex,q⟩=>by subst eh;exact p pins st σ _ Q I (s W0 W ρ σ Q y h' g ex q)⟩
theorem wG {t:TG}{y:XG}(p:PG X e t) (s:yuZ (ckX X A) t y):ZG X A e y:=⟨fun pins st σ H v u Q I rv ⟨W0,W,ρ,ρ',x,eh,g,r,ex,q⟩=>by subst eh;exact p pins st σ _ v u Q I rv (s W0 W ρ ρ' σ x v Q g r ex q)⟩
theorem wS {st:Stmt}{t:TS}{x:XS}(p:PS X st t) (s:yeY (ckX X A) t x):ZS X A st x:=⟨fun pins st σ H D I ⟨W0,W,ρ,o,h',eh,g,ex,q⟩=>by subst eh;exact p pins st σ _ D I (s W0 W ρ σ D o h' g ex q)⟩
theorem wSs {st:List Stmt}{t:TS}{x:XS}(p:PSs X st t) (s:yeY (ckX X A) t x):ZSs X A st x:=⟨fun pins st σ H D I ⟨W0,W,ρ,o,h',eh,g,ex,q⟩=>by subst eh;exact p pins st σ _ D I (s W0 W ρ σ D o h' g ex q)⟩
theorem wF {st:Stmt}{t:TS}{x:XS}(p:PS X st t) (s:ysp (ckX X A) t x):ZF X A st x:=⟨fun pins st σ H D I ⟨W0,W,ρ,ρ',h',eh,g,ex,q⟩=>by subst eh;exact p pins st σ _ D I (s W0 W ρ ρ' σ D h' g ex q)⟩
theorem wFs {st:List Stmt}{t:TS}{x:XS}(p:PSs X st t) (s:ysp (ckX X A) t x):ZFs X A st x:=⟨fun pins st σ H D I ⟨W0,W,ρ,ρ',h',eh,g,ex,q⟩=>by subst eh;exact p pins st σ _ D I (s W0 W ρ ρ' σ D h' g ex q)⟩
end
structure Nm (x:Str):Prop where
 d:(x == ("__debug__":Str))=false
 c:(x == ("__classdict__":Str))=false
 n:x≠"__name__"
section
variable {X:Cx}{A:Nat->Addr}{a b c o:Expr}{es:List Expr}{xa xb xc:XE}{xo:XO}{aa:XA}{pos p apos:Pos}{x:Str}{n k:Nat}
theorem yip {j}:ZE X A (.Constant .none j pos) (xC .non):=wE yyq ywg
theorem ywY {b j}:ZE X A (.Constant (.bool b) j pos) (xC (.bl b)):=wE yBv yyU
theorem yg {i j}:ZE X A (.Constant (.int i) j pos) (xC (.int i)):=wE yyp ypZ
theorem yn {x j}:ZE X A (.Constant (.str x) j pos) (xC (.str x)):=wE yyr yqa
theorem z_v {i:Nat}(m:Nm x:=by exact ⟨by rfl',by rfl',by rfl'⟩) (hN:X.N[i]?=some x:=by rfl) (hv:Vis X.env.scope x:=by first|exact Or.inl rfl|exact Or.inr (Or.inl rfl)):ZE X A (.Name x pos) (ye i):=wE (yiB hN hv m.d m.c) (ywf i)
theorem yfc {n:Int}{t:Tok}(hm:X.mg x=some (.int n t)) (m:Nm x:=by exact ⟨by rfl',by rfl',by rfl'⟩) (hg:Gl X x:=by rfl):ZE X A (.Name x pos) (xC (.int n)):=wE (ywb hg hm m.d) ypZ
theorem ylg {n:Str}{t:Tok}(hm:X.mg x=some (.str n t)) (m:Nm x:=by exact ⟨by rfl',by rfl',by rfl'⟩) (hg:Gl X x:=by rfl):ZE X A (.Name x pos) (xC (.str n)):=wE (ywc hg hm m.d) yqa
theorem yev {k:Nat}(hm:X.mg x=some (.ref (A k))) (m:Nm x:=by exact ⟨by rfl',by rfl',by rfl'⟩) (hg:Gl X x:=by rfl):ZE X A (.Name x pos) (xC (.cls k)):=wE (yme hg hm m.d) (ywh (K:=ckX X A))
theorem ywZ {n:String}(hm:X.mg x=none) (m:Nm x:=by exact ⟨by rfl',by rfl',by rfl'⟩) (hg:Gl X x:=by rfl) (hv:bootBuiltins x=some (.type n):=by rfl'):ZE X A (.Name x pos) (xC (.ty n)):=wE (yyT hg hm hv m.n m.d) yyV
theorem ybJ (h:ZO X A a xo):ZE X A a (xFz xo):=wE h.of (yza sO)
theorem ydF (h:ZO X A a xo):ZE X A a (yfG xo):=wE h.of (yqd sO)
theorem ybH {op:Operator}{r:R2}{q:P2}(ho:OpR X (binaryOp op) r) (hq:ych (ckX X A) r q) (ha:ZE X A a xa) (hb:ZE X A b xb):ZE X A (.BinOp a op b pos) (xOp q xa xb):=wE (yyH ho ha.of hb.of) (ynE hq sE sE)
theorem yfM {op:Operator}{r:R2}{q:P2O}(ho:OpR X (binaryOp op) r) (hq:ynD (ckX X A) r q) (ha:ZE X A a xa) (hb:ZE X A b xb):ZO X A (.BinOp a op b pos) (ykO q xa xb):=wO (yyH ho ha.of hb.of) (ywi hq sE sE)
theorem yzU {op:UnaryOp}{r} {q} (ho:UnR X (unaryOp op) r) (hq:ywe (ckX X A) r q) (ha:ZE X A a xa):ZE X A (.UnaryOp op a pos) (xUn q xa):=wE (yBC ho ha.of) (yyW hq sE)
theorem yCO (ha:ZE X A a xa):ZE X A (.UnaryOp .Not a pos) (ywd xa):=wE (yyB ha.of) (ysT sE)
theorem ydr {op:CmpOp}{r:R2}{q:P2}(ho:OpR X (compareOp op) r) (hq:ych (ckX X A) r q) (ha:ZE X A a xa) (hb:ZE X A b xb) (hm:behindInMarks op b=false:=by first|exact ykk _|with_unfolding_all rfl):ZE X A (.Compare a [op] [b] pos) (xOp q xa xb):=wE (yvK ho ha.of hb.of hm) (ynE hq sE sE)
theorem yqU {op op':CmpOp}{r r':R2}{q q':P2}(ho:OpR X (compareOp op) r) (ho':OpR X (compareOp op') r') (hq:ych (ckX X A) r q) (hq':ych (ckX X A) r' q') (ha:ZE X A a xa) (hb:ZE X A b xb) (hc:ZE X A c xc) (hm:lastMarks [op,op'] [b,c]=false:=by first|exact ykk _|with_unfolding_all rfl):ZE X A (.Compare a [op,op'] [b,c] pos) (yeZ q q' xa xb xc):=wE (ysz ho ho' ha.of hb.of hc.of hm) (ykQ hq hq' sE sE sE)
theorem yiq {op} (h:ZE X A a xa):ZE X A (.BoolOp op [a] pos) xa:=⟨yyz h.of⟩
theorem yhF (ha:ZE X A a xa) (hb:ZE X A (.BoolOp .And (b::es) pos) xb):ZE X A (.BoolOp .And (a::b::es) pos) (yfF xa xb):=wE (yyA ha.of hb.of) (ysS sE sE)
section
variable {ca cb:XT}
theorem yqV (hc:ZT X A c ca) (ha:ZE X A a xa) (hb:ZE X A b xb):ZE X A (.IfExp c a b pos) (xIf ca xa xb):=wE (yst hc.of ha.of hb.of) (yyZ sT sE sE)
theorem yu {op:CmpOp}{r:R2}{q:P2}(ho:OpR X (compareOp op) r) (hq:ych (ckX X A) r q) (ha:ZE X A a xa) (hb:ZE X A b xb) (hm:behindInMarks op b=false:=by first|exact ykk _|with_unfolding_all rfl):ZT X A (.Compare a [op] [b] pos) (yq (xOp q xa xb)):=wT (yvM ho ha.of hb.of hm) (yha (ynE hq sE sE))
theorem yhd {op op':CmpOp}{r r':R2}{q q':P2}(ho:OpR X (compareOp op) r) (ho':OpR X (compareOp op') r') (hq:ych (ckX X A) r q) (hq':ych (ckX X A) r' q') (ha:ZE X A a xa) (hb:ZE X A b xb) (hc:ZE X A c xc) (hm:lastMarks [op,op'] [b,c]=false:=by first|exact ykk _|with_unfolding_all rfl):ZT X A (.Compare a [op,op'] [b,c] pos) (yq (yeZ q q' xa xb xc)):=wT (ysA ho ho' ha.of hb.of hc.of hm) (yha (ykQ hq hq' sE sE sE))
theorem ydX (ha:ZT X A a ca):ZT X A (.UnaryOp .Not a pos) (ykP ca):=wT (yyw ha.of) (ywk sT)
theorem ybP (h:ZE X A a xa) (he:∀ whole,isTrue a X.env whole=(do let v <- whole;standAt a.pos;holding [v] (truthy v)):=by exact fun _=>rfl):ZT X A a (yq xa):=wT (yyt h.of he) (yyX sE)
theorem ypp (h:ZW X A a ca):ZT X A a ca:=⟨PW.pt h.of⟩
theorem yob (ha:ZT X A a ca) (hb:ZW X A (.BoolOp .And (b::es) pos) cb):ZW X A (.BoolOp .And (a::b::es) pos) (yuW ca cb):=wW (yyv ha.of hb.of) (ywj sT sT)
theorem yir (ha:ZT X A a ca) (hb:ZW X A (.BoolOp .Or (b::es) pos) cb):ZW X A (.BoolOp .Or (a::b::es) pos) (xOr ca cb):=wW (yBx ha.of hb.of) (yyY sT sT)
theorem yjF (ha:ZT X A a ca):ZW X A (.BoolOp .And [a] pos) ca:=⟨yvH ha.of⟩
theorem ygx (ha:ZT X A a ca):ZW X A (.BoolOp .Or [a] pos) ca:=⟨yyu ha.of⟩
end
theorem yd:ZA X A [] 0 yh:=wA yiE yjq ymp
theorem ya (ha:ZE X A a xa) (hr:ZA X A es n aa) (hs:starEach (a::es) X.env=(false,eval a X.env)::starEach es X.env:=by rfl):ZA X A (a::es) (n+1) (yb xa aa):=wA (yfm ha.of hr.of hs) (ysU sE sA) (ysX hr.len)
theorem ybr (h:ZA X A es n aa):ZO X A (.List es pos) (ycR aa):=wO (yyK h.of) (ywn sA)
theorem yP {q} (h:ZA X A es n aa):ZE X A (.Tuple es q pos) (ybS aa):=wE (yyJ h.of) (ywm sA)
theorem yCP:ZP X A none yjo:=wP yvT yoN
theorem yxa (h:ZE X A a xa):ZP X A (some a) (ysR xa):=wP (yvU h.of) (ysY sE)
section
variable {lo hi:Option Expr}{xl xh:PSt->AH->Option (Option Int×AH)}{p2:Pos}
theorem yCQ {r} {q} (hr:SlR X r) (hq:yqe (ckX X A) r q) (ha:ZE X A a xa) (hl:ZP X A lo xl) (hh:ZP X A hi xh):ZO X A (.Subscript a (.Slice lo hi none p2) pos) (yBm q xa xl xh):=wO (ysJ hr ha.of hl.of hh.of) (ywq hq sE sP sP)
end
theorem ybk {r:R2}{q:P2}(hr:IxR X r) (hq:ych (ckX X A) r q) (ha:ZE X A a xa) (hb:ZE X A b xb) (hs:ypO b:=by exact fun _ _=>rfl):ZE X A (.Subscript a b pos) (xOp q xa xb):=wE (yBH hr ha.of hb.of hs) (ynE hq sE sE)
theorem yB {cs:List Nat}{f:Str}(hc:∀ k∈cs,Cls X.K (A k)/\NoAttr X.K (A k) f) (ha:ZE X A a xa) (hb:attributeBase a f X.env (eval a X.env)=eval a X.env:=by rfl):ZE X A (.Attribute a f pos) (ybd cs f xa):=wE (yyI ha.of hb) (ywD (K:=ckX X A) hc sE)
section
variable {f C:Addr}{fd:FuncData}{ps:List Str}{lv:Nat}{fn:Fn}
theorem yQ (F:FnOk X.prog X.w X.K X.mg X.base CX0 lv f fd ps (spE (ckX X A) (n+1) fn)) (hm:X.mg x=some (.ref f)) (hk:keepIn X.K (.ref f)=true) (hb:Binds X.K fd ps []) (ha:ZA X A (a::es) (n+1) aa) (hr:Room lv X.A:=by exact hr.mono (by omega)) (m:Nm x:=by exact ⟨by rfl',by rfl',by rfl'⟩) (hg:Gl X x:=by rfl) (he:starEach (a::es) X.env=(false,eval a X.env)::starEach es X.env:=by rfl) (hpl:(backTo pos (starEach es X.env)).any (·.1)=false:=by rfl):ZE X A (.Call (.Name x p) (a::es) [] pos) (yY fn aa) :=
 wE (yvR F hr hg hm hk hb .nil yks ha.of m.d he hpl) (ysW sA ha.len)
theorem yfN {k:Nat}{fi} (M:Mk X.K (A k) f) (F:FnOk X.prog X.w X.K X.mg X.base CX0 lv f fd ps (spI (ckX X A) (n+1) k fi)) (hm:X.mg x=some (.ref (A k))) (hb:Binds X.K fd ps []) (ha:ZA X A (a::es) (n+1) aa) (hr:Room (lv+1) X.A:=by exact hr.mono (by omega)) (m:Nm x:=by exact ⟨by rfl',by rfl',by rfl'⟩) (hg:Gl X x:=by rfl) (he:starEach (a::es) X.env=(false,eval a X.env)::starEach es X.env:=by rfl) (hpl:(backTo pos (starEach es X.env)).any (·.1)=false:=by rfl):ZO X A (.Call (.Name x p) (a::es) [] pos) (yfJ fi aa) :=
 wO (ypK M F hr hg hm hb .nil yks ha.of m.d he hpl) (ynI (K:=ckX X A) (k:=k) sA ha.len)
theorem yxb {k:Nat}(hm:makesIn X.K (A k)=true) (hi:findIn X.K (.ref (A k)) "__init__" = some (some (.builtin "object.__init__"))) (hk:keepIn X.K (.ref (A k))=true) (hmg:X.mg x=some (.ref (A k))) (m:Nm x:=by exact ⟨by rfl',by rfl',by rfl'⟩) (hg:Gl X x:=by rfl):ZO X A (.Call (.Name x p) [] [] pos) (yqt k) :=
 wO (ysN hm hi hk hg hmg m.d) (yqu (K:=ckX X A))
theorem yqW {m:Str}{fm:Nat->Fn}{pl:Sem Bool}(he:ZE X A o xa) (G:ymd X.prog X.w X.K X.mg X.base lv A m (fun k=>spE (ckX X A) 1 (fm k))) (hr:Room lv X.A:=by exact hr.mono (by omega)) (ht:eval (.Call (.Attribute o m apos) [] [] pos) X.env=(do
   let ov <- eval o X.env
   standAt apos.atName
   let (f,first) <- holding [ov] (getMethod ov m pl)
   callWith pos f first (backTo pos (starEach [] X.env)) (backToKw pos (keywordEach [] X.env))):=by rfl):ZE X A (.Call (.Attribute o m apos) [] [] pos) (yoP m fm xa) :=
 wE (ypX he.of G hr ht) (yto (K:=ckX X A) sE)
end
theorem ydT {id:String}{r} {q} (hc:yfk X (.builtin id) r) (hq:yhp (ckX X A) r q) (hm:X.mg x=none) (ha:ZA X A (a::es) n aa) (m:Nm x:=by exact ⟨by rfl',by rfl',by rfl'⟩) (hg:Gl X x:=by rfl) (hv:bootBuiltins x=some (.builtin id):=by rfl') (he:starEach (a::es) X.env=(false,eval a X.env)::starEach es X.env:=by rfl) (hpl:(backTo pos (starEach es X.env)).any (·.1)=false:=by rfl):ZE X A (.Call (.Name x p) (a::es) [] pos) (xCB q aa) :=
 wE (yjf hc hg hm hv ha.of m.n m.d he hpl) (yuX hq sA)
theorem ymH {T:String}{r} {q} (hc:yfk X (.type T) r) (hq:yhp (ckX X A) r q) (hm:X.mg x=none) (ha:ZA X A (a::es) n aa) (m:Nm x:=by exact ⟨by rfl',by rfl',by rfl'⟩) (hg:Gl X x:=by rfl) (hv:bootBuiltins x=some (.type T):=by rfl') (he:starEach (a::es) X.env=(false,eval a X.env)::starEach es X.env:=by rfl) (hpl:(backTo pos (starEach es X.env)).any (·.1)=false:=by rfl):ZE X A (.Call (.Name x p) (a::es) [] pos) (xCB q aa) :=
 wE (ykq hc hg hm hv ha.of m.n m.d he hpl) (yuX hq sA)
theorem ycT {T:String}{r} {q} (hc:yfk X (.type T) r) (hq:ypY (ckX X A) r q) (hm:X.mg x=none) (ha:ZA X A (a::es) n aa) (m:Nm x:=by exact ⟨by rfl',by rfl',by rfl'⟩) (hg:Gl X x:=by rfl) (hv:bootBuiltins x=some (.type T):=by rfl') (he:starEach (a::es) X.env=(false,eval a X.env)::starEach es X.env:=by rfl) (hpl:(backTo pos (starEach es X.env)).any (·.1)=false:=by rfl):ZO X A (.Call (.Name x p) (a::es) [] pos) (yil q aa) :=
 wO (ykq hc hg hm hv ha.of m.n m.d he hpl) (ywo hq sA)
section
variable {name:Str}{cpos:Pos}{T id:String}{r:V->List V->Hp->VK->Prop}{cc:PV->AH->Bool}{q:PM}
theorem yvp (pa:PlainAttrs T) (slot:Slot T name id) (hty:typeOf (.builtin id)=pure (.type "method_descriptor")) (hm:MtR X id r) (hq:yim (ckX X A) T cc r q) (ho:ZE X A o xa) (ha:ZA X A (a::es) n aa) (hbase:attributeBase o name X.env (eval o X.env)=eval o X.env:=by rfl) (hfew:((backTo cpos (starEach (a::es) X.env)).all (fun x=>!x.1) && (backToKw cpos (keywordEach [] X.env)).all (fun x=>x.1.isSome)
   && decide ((a::es).length+([]:List Keyword).length+(if ([]:List Keyword).isEmpty then 0 else 1)<30))=true:=by rfl) (hline:(apos.endLine == cpos.line)=true:=by rfl) (hs:starEach (a::es) X.env=(false,eval a X.env)::starEach es X.env:=by rfl) (hplain:(backTo cpos (starEach es X.env)).any (·.1)=false:=by rfl) :
  ZE X A (.Call (.Attribute o name apos) (a::es) [] cpos) (xBM cc q xa aa):=wE (yvW pa slot hty hm ho.of ha.of hbase hfew hline hs hplain) (yuY (K:=ckX X A) hq sE sA)
theorem ytP (pa:PlainAttrs T) (slot:Slot T name id) (hty:typeOf (.builtin id)=pure (.type "method_descriptor")) (hm:MtR X id r) (hq:yim (ckX X A) T cc r q) (ho:ZE X A o xa) (hbase:attributeBase o name X.env (eval o X.env)=eval o X.env:=by rfl) (hline:(apos.endLine == cpos.line)=true:=by rfl) :
  ZE X A (.Call (.Attribute o name apos) [] [] cpos) (xBM cc q xa yh):=wE (yuT pa slot hty hm ho.of hbase hline) (ywp (K:=ckX X A) hq sE)
theorem yzV {i:Nat}(ha:ZE X A a xa) (ho:PE X o (ypn i):=by exact yiB rfl (by first|exact Or.inl rfl|exact Or.inr (Or.inl rfl)) (by rfl') (by rfl')) (hbase:attributeBase o "append" X.env (eval o X.env)=eval o X.env:=by rfl) (hfew:((backTo cpos (starEach [a] X.env)).all (fun x=>!x.1) && (backToKw cpos (keywordEach [] X.env)).all (fun x=>x.1.isSome)
   && decide ([a].length+([]:List Keyword).length+(if ([]:List Keyword).isEmpty then 0 else 1)<30))=true:=by rfl) (hline:(apos.endLine == cpos.line)=true:=by rfl) (hs:starEach [a] X.env=(false,eval a X.env)::starEach [] X.env:=by rfl) (hplain:(backTo cpos (starEach [] X.env)).any (·.1)=false:=by rfl) (hsw:swapsWith (.Call (.Attribute o "append" apos) [a] [] cpos) none pos.line X.env=pure false:=by rfl) :
  ZS X A (.Expr (.Call (.Attribute o "append" apos) [a] [] cpos) pos) (ymr i xa) :=
 wS (yjd (yvW plainAttrs_list PySem.F.slot_list_append PySem.F.type_list_append ydU ho (yfm ha.of yiE hs) hbase hfew hline hs hplain) hsw) (ytd (K:=ckX X A) i sE)
end
section
variable {tg:Expr}
theorem ydP (h:ZE X A a xa):ZI X A tg a (xIL xa):=wI (ylR h.of) (yql (K:=ckX X A) sE)
theorem yzW (h:ZE X A a xa):ZI X A tg a (xIS xa):=wI (yyS h.of) (yte sE)
theorem ygp (hm:X.mg "range" = none) (ha:ZA X A [a] n aa) (hg:Gl X "range":=by rfl) (hs:starEach [a] X.env=[(false,eval a X.env)]:=by rfl):ZI X A tg (.Call (.Name "range" p) [a] [] pos) (yms aa):=wI (ypz hg hm ha.of hs) (yqm sA)
end
theorem ygq {i:Nat}(hN:X.N.Nodup:=by exact nd) (hi:X.N[i]?=some x:=by rfl) (hx:Loc X.env.scope x:=by first|exact Or.inl rfl|exact Or.inr rfl) (hf:X.fn x=true\/X.env.scope.names.lookup x=some .local:=by exact Or.inl rfl):ZG X A (.Name x pos) (yt i):=wG (ylQ hN hi hx hf) (yhq i)
theorem yfd {elt iter:Expr}{px:Pos}{scope:Scope}{cpos:Pos}{it:XA}{xe:XE}{ix:List Nat}(fr:List Str) (hi:ZI X A (.Name x px) iter it) (he:∀ (cl:List (Str×Addr)) (C:Addr) (s₃:Shared) (H₃:Hp) (fp:List Addr) (pins:List (Addr×Obj)),ZE (cxC X scope cl C (x::fr) s₃ H₃ fp pins) A elt xe) (hc:X.calm=true:=by rfl) (hfr:FrOk X scope ix fr:=by repeat' first|exact True.intro|exact rfl|refine And.intro ?_ ?_) (hnd:(x::fr).Nodup:=by rfl') (hkind:scope.kind=.function:=by rfl) (hcell:∀ y∈scope.names,y.2≠.cell:=by rfl') (hnames:∀ y∈scope.names,y.2=.local->scope.names.lookup y.1=some .local:=by rfl') (hfree0:∀ y∈scope.names,y.2=.free->y.1∈fr:=by rfl') (hx:scope.names.lookup x=some .local:=by rfl) (hs:∀ v,foldedSetIterable iter X.env v=pure v:=by exact fun _=>rfl):ZO X A (.ListComp elt [⟨.Name x px,iter,[],0⟩] scope cpos) (yeD it ix xe) :=
 wO (ywX (yhc ix fr hc hi.of hfr (te:=cE (ckX X A) xe) (fun cl C s₃ H₃ fp pins=>(he cl C s₃ H₃ fp pins).of) (fun _ _ _ _ _ _=>.nil) hnd hkind hcell hnames hfree0 hx hs)) (ynF (K:=ckX X A) ix sI sE)
section
variable {st:Stmt}{rest:List Stmt}{s u:XS}
theorem yj (h:ZE X A a xa):ZS X A (.Return (some a) pos) (yR xa):=wS (yyD h.of) (yws sE)
theorem yN (h:ZE X A a xa) (hs:swapsWith a none pos.line X.env=pure false:=by rfl):ZS X A (.Expr a pos) (ybf xa):=wS (yjd h.of hs) (ytb sE)
theorem yr {i:Nat}{pos':Pos}(h:ZE X A a xa) (hN:X.N.Nodup:=by exact nd) (hi:X.N[i]?=some x:=by rfl) (hx:Loc X.env.scope x:=by first|exact Or.inl rfl|exact Or.inr rfl) (hs:swapsWith a (some (.Name x pos')) pos.line X.env=pure false:=by rfl) (hf:X.fn x=true\/X.env.scope.names.lookup x=some .local:=by exact Or.inl rfl):ZS X A (.Assign [.Name x pos'] a pos) (ybn xa (yt i)) :=
 wS (yuL hN hi hx h.of hs hf) (yqi sE (yhq i))
theorem yqX {i:Nat}{pos':Pos}(h:ZO X A a xo) (hN:X.N.Nodup:=by exact nd) (hi:X.N[i]?=some x:=by rfl) (hx:Loc X.env.scope x:=by first|exact Or.inl rfl|exact Or.inr rfl) (hs:swapsWith a (some (.Name x pos')) pos.line X.env=pure false:=by rfl) (hf:X.fn x=true\/X.env.scope.names.lookup x=some .local:=by exact Or.inl rfl):ZS X A (.Assign [.Name x pos'] a pos) (yqf xo i) :=
 wS (yuL hN hi hx h.of hs hf) (ytc i sO)
theorem ybK {cs:List Nat}{f:Str}{pos':Pos}{i:Nat}(hc:∀ k∈cs,Cls X.K (A k)/\NoAttr X.K (A k) f) (h:ZE X A a xa) (ho:PE X o (ypn i):=by exact yiB rfl (by first|exact Or.inl rfl|exact Or.inr (Or.inl rfl)) (by rfl') (by rfl')) (hs:swapsWith a (some (.Attribute o f pos')) pos.line X.env=pure false:=by rfl):ZF X A (.Assign [.Attribute o f pos'] a pos) (ycB cs i f xa):=wF (yuQ ho h.of hs) (ytl (K:=ckX X A) hc sE)
theorem yH {ca:XT}{l m:List Stmt}(hc:ZT X A c ca) (ha:ZSs X A l s) (hb:ZSs X A m u):ZS X A (.If c l m pos) (ybx ca s u):=wS (yBz hc.of ha.of hb.of) (ywt sT sS sS)
theorem yoc {tg iter:Expr}{it:XA}{y:XG}(hi:ZI X A tg iter it) (hg:ZG X A tg y) (hb:ZSs X A rest s) (hp:PassesOwn (model X.prog X.w) X.A X.env X.xe:=by exact PassesOwn.never) (hc:X.calm=true:=by rfl) (hs:∀ x,foldedSetIterable iter X.env x=pure x:=by exact fun _=>rfl):ZS X A (.For tg iter rest [] pos) (yqg it y s):=wS (ypB hp hc hi.of hg.of hb.of hs) (ywx sI sG sS)
theorem yjG {ca:XT}{fu:Nat}(hc:ZT X A c ca) (hb:ZSs X A rest s) (hp:PassesOwn (model X.prog X.w) X.A X.env X.xe:=by exact PassesOwn.never):ZS X A (.While c rest [] pos) (yfa fu ca s):=wS (ysv hp hc.of hb.of) (yqn fu sT sS)
theorem yl:ZSs X A [] yJ:=wSs yvI yta
theorem yf (h:ZS X A st s):ZSs X A [st] s:=⟨ypv h.of⟩
theorem yc (h:ZS X A st s) (hr:ZSs X A rest u):ZSs X A (st::rest) (ym s u):=wSs (ynt h.of hr.of) (ywr sS sS)
theorem yqY {i:Nat}(h:ZSs X A rest s):ZSs X A rest (yzb i s):=wSs h.of (ywu i sS)
theorem ydy (h:ZF X A st s):ZFs X A [st] s:=⟨ypv h.of⟩
theorem ybs (h:ZF X A st s) (hr:ZFs X A rest u):ZFs X A (st::rest) (ym s u):=wFs (ynt h.of hr.of) (ytm sF sF)
end
end
section
variable {P:Program}{w:World}{K:PySem.W.Frag}{mg:Str->Option Value}{base:Heap}{A:Nat->Addr}
theorem zfn {x qual:Str}{st:Stmt}{f:Addr}{fd:FuncData}{N ps:List Str}{k:Nat}{s:XS}(F:Fun K x qual st f fd) (S:yei N ps (ybE st))
  (h:∀ (cdv:Value) (Ar:Around) (outer:List Env) (sh:Shared) (H:Hp) (E:XK),Room k (Ar.deeper (envOfC qual (ybE st) sh.heap.objs.size f cdv))->ZSs (ysI CX0 P w K mg base N qual (ybE st) f cdv Ar outer sh H E).nox A (yfn st) s) :
  FnOk P w K mg base CX0 (k+1) f fd ps (spE ⟨K,A⟩ ps.length (ybo N.length s)) :=
 F.ok S (fun _ _ _ _ h=>ywy h) fun cdv Ar outer sh H vs Q E hr hq=>⟨_,(h cdv Ar outer sh H E hr).of,ytf (K:=⟨K,A⟩) sS hq⟩
theorem zin {x qual:Str}{st:Stmt}{f:Addr}{fd:FuncData}{N ps:List Str}{k kc n:Nat}{s:XS}(F:Fun K x qual st f fd) (S:yei N ps (ybE st)) (hn:ps.length=n+1) (hN:n+1<=N.length)
  (h:∀ (cdv:Value) (Ar:Around) (outer:List Env) (sh:Shared) (H:Hp) (E:XK),Room k (Ar.deeper (envOfC qual (ybE st) sh.heap.objs.size f cdv))->ZFs (ysI CX0 P w K mg base N qual (ybE st) f cdv Ar outer sh H E).nox A (yfn st) s) :
  FnOk P w K mg base CX0 (k+1) f fd ps (spI ⟨K,A⟩ n kc (ymz N.length kc s)) :=
 F.ok S (fun _ _ _ _ h=>(ywE h).trans hn.symm) fun cdv Ar outer sh H vs Q E hr hq=>⟨_,(h cdv Ar outer sh H E hr).of,ytn (K:=⟨K,A⟩) hN sF hq⟩
end
end PX
namespace PX
open PySem L2 PySem.Spec PyProof.Rows
section
variable {X:Cx}{A:Nat->Addr}{a b c o i:Expr}{es:List Expr}{xa xb xc xd xk xv:XE}{xo:XO}{aa:XA}{pos p apos cpos pos':Pos}{x:Str}{n k:Nat}
theorem yvq (ho:ZE X A o xd) (hi:ZE X A i xk) (hu:X.A.units+1<cLine:=by exact yvX hr) (hs:yCD i:=by exact fun _ _=>rfl):ZE X A (.Subscript o i pos) (yhx xd xk):=wE (ywK hu ho.of hi.of hs) (yty sE sE)
theorem yzX (hi:ZE X A i xk) (ho:ZE X A o xd) (hu:X.A.units+1<cLine:=by exact yvX hr) (hm:behindInMarks .In o=false:=by first|exact ykk _|with_unfolding_all rfl):ZT X A (.Compare i [.In] [o] pos) (yq (yyd false xk xd)):=wT (yys (yzM hu hi.of ho.of) hm) (yha (ywN sE sE))
theorem ymI (ho:ZE X A o xd) (hi:ZE X A i xk) (hv:ZE X A a xv) (hu:X.A.units+1<cLine:=by exact yvX hr) (hs:swapsWith a (some (.Subscript o i pos')) pos.line X.env=pure false:=by rfl):ZS X A (.Assign [.Subscript o i pos'] a pos) (yjw xd xk xv):=wS (ywL hu ho.of hi.of hv.of hs) (ytz sE sE sE)
theorem yod:ZO X A (.Dict [] [] pos) yoR:=wO ytw ytA
theorem yhG (h:ZE X A a xv) (ho:ZE X A o xd) (hi:ZE X A i xk) (ha:∀ v,assign (.Subscript o i pos') X.env v=(do
   let ov <- holding [v] (eval o X.env)
   let iv <- holding [v,ov] (eval i X.env)
   standAt pos'
   holding [v,ov,iv] (setItem ov iv v)
   release [v,ov,iv] []):=by exact fun _=>rfl) (hs:swapsWithSole [.Subscript o i pos'] a pos.line X.env=pure false:=by rfl) (hw:swappedStores [.Subscript o i pos'] a X.env=pure none:=by rfl) (h1:(assignEach [.Subscript o i pos'] X.env).map (·.2)=[assign (.Subscript o i pos') X.env]:=by rfl) :
  ZS X A (.Assign [.Subscript o i pos'] a pos) (ygO xd xk xv):=wS (yyF h.of (yyE ho.of hi.of set_list ha) hs hw h1) (ytx sE sE sE)
end
end PX
namespace PX
open PySem L2 PySem.Spec PyProof.Rows
theorem ymJ:bootBuiltins "reversed" = some (.type "reversed"):=by rfl'
section
variable {X:Cx}{A:Nat->Addr}{a b c o:Expr}{es:List Expr}{xa xb xc:XE}{pos p apos cpos:Pos}{x:Str}{n k:Nat}
theorem yzY {i:Nat}(ha:ZE X A a xa) (ho:PE X o (ypn i):=by exact yiB rfl (by first|exact Or.inl rfl|exact Or.inr (Or.inl rfl)) (by rfl') (by rfl')) (hbase:attributeBase o "extend" X.env (eval o X.env)=eval o X.env:=by rfl) (hfew:((backTo cpos (starEach [a] X.env)).all (fun x=>!x.1) && (backToKw cpos (keywordEach [] X.env)).all (fun x=>x.1.isSome)
   && decide ([a].length+([]:List Keyword).length+(if ([]:List Keyword).isEmpty then 0 else 1)<30))=true:=by rfl) (hline:(apos.endLine == cpos.line)=true:=by rfl) (hs:starEach [a] X.env=(false,eval a X.env)::starEach [] X.env:=by rfl) (hplain:(backTo cpos (starEach [] X.env)).any (·.1)=false:=by rfl) (hsw:swapsWith (.Call (.Attribute o "extend" apos) [a] [] cpos) none pos.line X.env=pure false:=by rfl) :
  ZS X A (.Expr (.Call (.Attribute o "extend" apos) [a] [] cpos) pos) (ymE i xa) :=
 wS (yjd (yvW plainAttrs_list PySem.F.slot_list_extend PySem.F.type_list_extend ypQ ho (yfm ha.of yiE hs) hbase hfew hline hs hplain) hsw) (ytB (K:=ckX X A) i sE)
theorem yzZ {i:Nat}(hm:X.mg x=none) (ho:PE X a (ypn i):=by exact yiB rfl (by first|exact Or.inl rfl|exact Or.inr (Or.inl rfl)) (by rfl') (by rfl')) (m:Nm x:=by exact ⟨by rfl',by rfl',by rfl'⟩) (hg:Gl X x:=by rfl) (hv:bootBuiltins x=some (.builtin "len"):=by rfl') (he:starEach [a] X.env=(false,eval a X.env)::starEach [] X.env:=by rfl) (hpl:(backTo pos (starEach [] X.env)).any (·.1)=false:=by rfl) :
  ZE X A (.Call (.Name x p) [a] [] pos) (yoS i) :=
 wE (yjf yI hg hm hv (yfm ho yiE he) m.n m.d he hpl) (ytC (K:=ckX X A) i)
end
section
variable {X:Cx}{A:Nat->Addr}{tg a b c:Expr}{p pos:Pos}{aa:XA}{n:Nat}
end
section
theorem ydk {xs:List V}{its:List Value}(r:Vals xs its) {j:Nat}(hj:j<its.toArray.size):∃ x,xs[j]?=some x/\RelV x its.toArray[j]:=by
 have hl:=r.length
 have j1:j<its.length:=by simpa using hj
 have x1:xs[j]?=some xs[j]:=List.getElem?_eq_getElem (by omega)
 obtain ⟨u1,q1,w1⟩:=r.get x1
 have g1:its.toArray[j]=u1:=by
  have:=List.getElem?_eq_getElem j1
  rw [q1] at this
  simpa using (Option.some.inj this).symm
 exact ⟨_,x1,by rw [g1];exact w1⟩
variable {X:Cx}
theorem yoe {pins:List (Addr×Obj)}{σ:L2.St}{H:Hp}{s:Shared}(I:Inv X pins σ H s) {n:Nat}{x y:V}{b:Bool}(r:EqR X.K H n x y b):∀ {A:Around}{u v:Value},RelV x u->RelV y v->A.units+n<cLine->SeqAt.EqAt A s u v b:=by
 induction r with
 | flat fx fy=>exact fun rx ry _=>eqAt_V rx ry fx fy
 | same =>
  intro A u v rx ry _
  cases rx
  cases ry
  exact SeqAt.EqAt.same _
 | odd h =>
  obtain ⟨a,o,ob,h1,h2⟩:=h
  have:=(I.bs a ob (I.ok.mod.kin a ob h2)).2
  rw [h1] at this
  cases this
 | nt hb =>
  intro A u v rx ry hu
  cases rx
  cases ry
  obtain ⟨i2,r2,p2,z2⟩:=I.tuple hb
  exact SeqAt.EqAt.none_tuple p2 (by omega)
 | tn hb =>
  intro A u v rx ry hu
  cases rx
  cases ry
  obtain ⟨i2,r2,p2,z2⟩:=I.tuple hb
  exact SeqAt.EqAt.tuple_none p2 (by omega)
 | @lst n a b xs ys e ha hb hl hne he ih =>
  intro A u v rx ry hu
  cases rx
  cases ry
  obtain ⟨i1,n1,r1,e1,z1⟩:=I.lst ha
  obtain ⟨i2,n2,r2,e2,z2⟩:=I.lst hb
  have l1:=r1.length
  have l2:=r2.length
  rw [show xs.length=i1.toArray.size by simp only [size_toArray];omega]
  refine SeqAt.EqAt.of_refs hne (SeqAt.RcAt.lists ⟨_,e1,rfl,n1,rfl⟩ ⟨_,e2,rfl,n2,rfl⟩ (by simp only [size_toArray];omega) (by omega) fun j j1 j2=>?_)
  obtain ⟨x1,q1,w1⟩:=ydk r1 j1
  obtain ⟨y1,q2,w2⟩:=ydk r2 j2
  exact ih j x1 y1 q1 q2 w1 w2 (by show A.units+1+n<cLine;omega)
 | @lstN n a b xs ys ha hb hl =>
  intro A u v rx ry hu
  cases rx
  cases ry
  obtain ⟨i1,n1,r1,e1,z1⟩:=I.lst ha
  obtain ⟨i2,n2,r2,e2,z2⟩:=I.lst hb
  have l1:=r1.length
  have l2:=r2.length
  have hne:a≠b:=fun z=>by subst z;rw [ha] at hb;cases hb;exact hl rfl
  exact SeqAt.EqAt.of_refs hne (SeqAt.RcAt.lists_lengths ⟨_,e1,rfl,n1,rfl⟩ ⟨_,e2,rfl,n2,rfl⟩ (by simp only [size_toArray,bne_iff_ne];omega) (by omega))
 | @tup n a b xs ys e ha hb hne he ih =>
  intro A u v rx ry hu
  cases rx
  cases ry
  obtain ⟨i1,r1,p1,z1⟩:=I.tuple ha
  obtain ⟨i2,r2,p2,z2⟩:=I.tuple hb
  have l1:=r1.length
  have l2:=r2.length
  rw [show xs.length=i1.toArray.size by simp only [size_toArray];omega,show ys.length=i2.toArray.size by simp only [size_toArray];omega]
  refine SeqAt.EqAt.of_refs hne (SeqAt.RcAt.tuples p1 p2 (by omega) fun j j1 j2=>?_)
  obtain ⟨x1,q1,w1⟩:=ydk r1 j1
  obtain ⟨y1,q2,w2⟩:=ydk r2 j2
  exact ih j x1 y1 q1 q2 w1 w2 (by show A.units+1+n<cLine;omega)
theorem yof (hu:X.A.units+60<cLine):OpR X (compareOp .Eq) (yDX X.K):=by
 intro pins s σ H x y v u Q I rx ry h
 obtain ⟨b,hb,q⟩:=h
 cases hb with
 | nt hb =>
  cases rx
  cases ry
  obtain ⟨i2,r2,p2,z2⟩:=I.tuple hb
  exact SeqAt.RcAt.none_tuple p2 (by omega) _ _ _ _ ⟨.bl _,H,I,rfl,q⟩
 | tn hb =>
  cases rx
  cases ry
  obtain ⟨i2,r2,p2,z2⟩:=I.tuple hb
  exact SeqAt.RcAt.tuple_none p2 (by omega) _ _ _ _ ⟨.bl _,H,I,rfl,q⟩
 | @lst a b xs ys e ha hb hl he =>
  cases rx
  cases ry
  obtain ⟨i1,n1,r1,e1,z1⟩:=I.lst ha
  obtain ⟨i2,n2,r2,e2,z2⟩:=I.lst hb
  have l1:=r1.length
  have l2:=r2.length
  rw [show xs.length=i1.toArray.size by simp only [size_toArray];omega] at q
  refine SeqAt.RcAt.lists ⟨_,e1,rfl,n1,rfl⟩ ⟨_,e2,rfl,n2,rfl⟩ (by simp only [size_toArray];omega) (by omega) (fun j j1 j2=>?_) _ _ _ _ ⟨.bl _,H,I,rfl,q⟩
  obtain ⟨x1,q1,w1⟩:=ydk r1 j1
  obtain ⟨y1,q2,w2⟩:=ydk r2 j2
  exact yoe I (he j x1 y1 q1 q2) w1 w2 (by show X.A.units+1+40<cLine;omega)
 | @lstN a b xs ys ha hb hl =>
  cases rx
  cases ry
  obtain ⟨i1,n1,r1,e1,z1⟩:=I.lst ha
  obtain ⟨i2,n2,r2,e2,z2⟩:=I.lst hb
  have l1:=r1.length
  have l2:=r2.length
  exact SeqAt.RcAt.lists_lengths ⟨_,e1,rfl,n1,rfl⟩ ⟨_,e2,rfl,n2,rfl⟩ (by simp only [size_toArray,bne_iff_ne];omega) (by omega) _ _ _ _ ⟨.bl _,H,I,rfl,q⟩
 | @tup a b xs ys e ha hb he =>
  cases rx
  cases ry
  obtain ⟨i1,r1,p1,z1⟩:=I.tuple ha
  obtain ⟨i2,r2,p2,z2⟩:=I.tuple hb
  have l1:=r1.length
  have l2:=r2.length
  rw [show xs.length=i1.toArray.size by simp only [size_toArray];omega,show ys.length=i2.toArray.size by simp only [size_toArray];omega] at q
  refine SeqAt.RcAt.tuples p1 p2 (by omega) (fun j j1 j2=>?_) _ _ _ _ ⟨.bl _,H,I,rfl,q⟩
  obtain ⟨x1,q1,w1⟩:=ydk r1 j1
  obtain ⟨y1,q2,w2⟩:=ydk r2 j2
  exact yoe I (he j x1 y1 q1 q2) w1 w2 (by show X.A.units+1+40<cLine;omega)
theorem yiP (hu:X.A.units+60<cLine):OpR X (compareOp .NotEq) (yDY X.K):=by
 intro pins s σ H x y v u Q I rx ry h
 obtain ⟨b,hb,q⟩:=h
 cases hb with
 | nt hb =>
  cases rx
  cases ry
  obtain ⟨i2,r2,p2,z2⟩:=I.tuple hb
  exact SeqAt.RcNeAt.none_tuple p2 (by omega) _ _ _ _ ⟨.bl _,H,I,rfl,q⟩
 | tn hb =>
  cases rx
  cases ry
  obtain ⟨i2,r2,p2,z2⟩:=I.tuple hb
  exact SeqAt.RcNeAt.tuple_none p2 (by omega) _ _ _ _ ⟨.bl _,H,I,rfl,q⟩
 | @lst a b xs ys e ha hb hl he =>
  cases rx
  cases ry
  obtain ⟨i1,n1,r1,e1,z1⟩:=I.lst ha
  obtain ⟨i2,n2,r2,e2,z2⟩:=I.lst hb
  have l1:=r1.length
  have l2:=r2.length
  rw [show xs.length=i1.toArray.size by simp only [size_toArray];omega] at q
  refine SeqAt.RcNeAt.lists ⟨_,e1,rfl,n1,rfl⟩ ⟨_,e2,rfl,n2,rfl⟩ (by simp only [size_toArray];omega) (by omega) (fun j j1 j2=>?_) _ _ _ _ ⟨.bl _,H,I,rfl,q⟩
  obtain ⟨x1,q1,w1⟩:=ydk r1 j1
  obtain ⟨y1,q2,w2⟩:=ydk r2 j2
  exact yoe I (he j x1 y1 q1 q2) w1 w2 (by show X.A.units+1+40<cLine;omega)
 | @lstN a b xs ys ha hb hl =>
  cases rx
  cases ry
  obtain ⟨i1,n1,r1,e1,z1⟩:=I.lst ha
  obtain ⟨i2,n2,r2,e2,z2⟩:=I.lst hb
  have l1:=r1.length
  have l2:=r2.length
  exact SeqAt.RcNeAt.lists_lengths ⟨_,e1,rfl,n1,rfl⟩ ⟨_,e2,rfl,n2,rfl⟩ (by simp only [size_toArray,bne_iff_ne];omega) (by omega) _ _ _ _ ⟨.bl _,H,I,rfl,q⟩
 | @tup a b xs ys e ha hb he =>
  cases rx
  cases ry
  obtain ⟨i1,r1,p1,z1⟩:=I.tuple ha
  obtain ⟨i2,r2,p2,z2⟩:=I.tuple hb
  have l1:=r1.length
  have l2:=r2.length
  rw [show xs.length=i1.toArray.size by simp only [size_toArray];omega,show ys.length=i2.toArray.size by simp only [size_toArray];omega] at q
  refine SeqAt.RcNeAt.tuples p1 p2 (by omega) (fun j j1 j2=>?_) _ _ _ _ ⟨.bl _,H,I,rfl,q⟩
  obtain ⟨x1,q1,w1⟩:=ydk r1 j1
  obtain ⟨y1,q2,w2⟩:=ydk r2 j2
  exact yoe I (he j x1 y1 q1 q2) w1 w2 (by show X.A.units+1+40<cLine;omega)
theorem yfe {k:Nat}{A:Around}(r:Room k A):A.units+60<cLine:=by have:=r.un;omega
end
end PX
namespace PX
open PySem L2 PySem.Spec PyProof.Rows
section
variable {X:Cx}{A:Nat->Addr}{o e:Expr}{es:List Expr}{xa xb:XE}{aa:XA}{pos apos pos':Pos}{m f:Str}{n k kc:Nat}{pl:Sem Bool}{p:Fn}{fa:Addr}{fd:FuncData}{ps:List Str}
theorem ybG {st:Stmt}:ZS X A st ydW:=wS ysu (ytF (K:=ckX X A))
theorem yo (ho:ZE X A o xa) (hm:Meth X.K (A kc) m fa) (F:FnOk X.prog X.w X.K X.mg X.base CX0 k fa fd ps (spE (ckX X A) (n+1) p)) (hb:Binds X.K fd ps []) (ha:ZA X A (e::es) n aa) (c:Cls X.K (A kc):=by exact T.cl _) (hr:Room k X.A:=by exact hr.mono (by omega)) (hst:starEach (e::es) X.env=(false,eval e X.env)::starEach es X.env:=by rfl) (hpl:(backTo pos (starEach es X.env)).any (·.1)=false:=by rfl) (ht:eval (.Call (.Attribute o m apos) (e::es) [] pos) X.env=(do
   let ov <- eval o X.env
   standAt apos.atName
   let (f,first) <- holding [ov] (getMethod ov m pl)
   callWith pos f first (backTo pos (starEach (e::es) X.env)) (backToKw pos (keywordEach [] X.env))):=by rfl) :
  ZE X A (.Call (.Attribute o m apos) (e::es) [] pos) (yk kc m p xa aa):=wE (yvS ho.of c hm F hr hb .nil yks ha.of hst hpl ht) (ykY (K:=ckX X A) sE sA ha.len)
theorem yv (ho:ZE X A o xa) (hm:Meth X.K (A kc) m fa) (F:FnOk X.prog X.w X.K X.mg X.base CX0 k fa fd ps (spE (ckX X A) 1 p)) (hb:Binds X.K fd ps []) (c:Cls X.K (A kc):=by exact T.cl _) (hr:Room k X.A:=by exact hr.mono (by omega)) (ht:eval (.Call (.Attribute o m apos) [] [] pos) X.env=(do
   let ov <- eval o X.env
   standAt apos.atName
   let (f,first) <- holding [ov] (getMethod ov m pl)
   callWith pos f first (backTo pos (starEach [] X.env)) (backToKw pos (keywordEach [] X.env))):=by rfl) :
  ZE X A (.Call (.Attribute o m apos) [] [] pos) (yk kc m p xa yh):=wE (ysG ho.of c hm F hr hb .nil yks ht) (ykY (K:=ckX X A) (n:=0) sE yjq ymp)
theorem ybI {cs:List Nat}{value:Expr}(hc:∀ k∈cs,Cls X.K (A k)/\NoAttr X.K (A k) f) (ho:ZE X A o xa) (hv:ZE X A value xb) (hs:swapsWith value (some (.Attribute o f pos')) pos.line X.env=pure false:=by rfl) :
  ZS X A (.Assign [.Attribute o f pos'] value pos) (ydd cs f xa xb):=wS (yuQ ho.of hv.of hs) (ytG (K:=ckX X A) hc sE sE)
end
end PX
namespace KasS
open PySem PySem.W PyProof.Rows
def run {α:Type}(lt:Nat->Nat->Bool):KasT α->α
 | .ret a=>a
 | .ask i j k=>run lt (k (lt i j))
noncomputable def ymK {α:Type}(P:Nat->Prop) (lt:Nat->Nat->Bool):KasT α->Prop
 | .ret _=>True
 | .ask i j k=>P i/\P j/\ymK P lt (k (lt i j))
theorem yAa {α:Type}{P:Nat->Prop}{lt:Nat->Nat->Bool}{cmp:Nat->Nat->(Bool->Shared->Prop)->Shared->Prop}{s:Shared}(hc:∀ i j C,P i->P j->C (lt i j) s->cmp i j C s) {Q:α->Shared->Prop} :
  ∀ (t:KasT α),ymK P lt t->Q (run lt t) s->t.kasWp cmp Q s
 | .ret _,_,h=>h
 | .ask i j k,⟨a,b,c⟩,h=>hc i j _ a b (yAa hc (k (lt i j)) c h)
section
variable (key:Nat->Int)
def ltK (i j:Nat):Bool:=decide (key i<key j)
def Kp (p:Array Nat) (i:Nat):Int:=key (p[i]?.getD 0)
def Up (p:Array Nat) (k:Nat):Prop:=∀ i j,i<=j->j<k->Kp key p i<=Kp key p j
variable {key}
def k2:Bool->KasT (Array Nat):=match kas_sort 2 with|.ask _ _ k=>k|.ret _=>fun _=>.ret #[]
theorem yqZ:(run (ltK key) (kas_sort 2)).Perm (toArray (List.range 2))/\Up key (run (ltK key) (kas_sort 2)) 2:=by
 have e0:run (ltK key) (kas_sort 2)=run (ltK key) (k2 (ltK key 1 0)):=by kernel_rfl!
 rw [e0]
 cases e:ltK key 1 0 with
 | false =>
  rw [show run (ltK key) (k2 false) = #[0,1] by kernel_rfl!]
  refine ⟨.refl _,fun i j h1 h2=>?_⟩
  have e:=of_decide_eq_false e
  rcases (show i=j\/(i=0/\j=1) by omega) with rfl|⟨rfl,rfl⟩
  .exact Int.le_refl _
  .show key 0<=key 1
   omega
 | true =>
  rw [show run (ltK key) (k2 true) = #[1,0] by kernel_rfl!]
  refine ⟨Array.Perm.of_toList_perm (List.Perm.swap 0 1 []),fun i j h1 h2=>?_⟩
  have e:=of_decide_eq_true e
  rcases (show i=j\/(i=0/\j=1) by omega) with rfl|⟨rfl,rfl⟩
  .exact Int.le_refl _
  .show key 1<=key 0
   omega
theorem yxc:ymK (· < 2) (ltK key) (kas_sort 2):=by
 have e0:ymK (· < 2) (ltK key) (kas_sort 2)=(1<2/\0<2/\ymK (· < 2) (ltK key) (k2 (ltK key 1 0))):=by kernel_rfl!
 rw [e0]
 refine ⟨by omega,by omega,?_⟩
 cases ltK key 1 0 with
 | false=>rw [show ymK (· < 2) (ltK key) (k2 false)=True by kernel_rfl!];trivial
 | true=>rw [show ymK (· < 2) (ltK key) (k2 true)=True by kernel_rfl!];trivial
end
end KasS
namespace KasS
open PySem PySem.W PyProof.Rows PySem.Calls
noncomputable def Tps (h:Heap):List Value->List (Int×Tok×Value)->Prop
 | [],[]=>True
 | v::vs,p::ps=>(∃ b o m,v=.ref b/\h.get? b=some o/\o.cls=.type "tuple"/\o.data=.seq #[.int p.1 p.2.1,p.2.2] m)/\Tps h vs ps
 | _,_=>False
theorem Tps.len {h:Heap}:∀ {vs:List Value}{ps:List (Int×Tok×Value)},Tps h vs ps->ps.length=vs.length
 | [],[],_=>rfl
 | _::_,_::_,⟨_,t⟩=>by rw [length_cons,length_cons,Tps.len t]
 | [],_::_,t=>t.elim
 | _::_,[],t=>t.elim
theorem Tps.get {h:Heap}:∀ {vs:List Value}{ps:List (Int×Tok×Value)},Tps h vs ps->∀ i,i<vs.length->∃ p b o m,ps[i]?=some p/\vs.getD i .none=.ref b/\h.get? b=some o/\o.cls=.type "tuple"/\o.data=.seq #[.int p.1 p.2.1,p.2.2] m
 | _::_,p::_,⟨⟨b,o,m,e1,e2,e3,e4⟩,_⟩,0,_=>⟨p,b,o,m,rfl,by rw [e1];rfl,e2,e3,e4⟩
 | _::vs,_::ps,⟨_,t⟩,i+1,hi=>by
  obtain ⟨p,b,o,m,e1,e2,e3⟩:=Tps.get t i (by simpa using hi)
  exact ⟨p,b,o,m,by simpa using e1,by simpa using e2,e3⟩
 | [],[],_,_,hi=>by simp at hi
 | [],_::_,t,_,_=>t.elim
 | _::_,[],t,_,_=>t.elim
theorem Tps.mono {h h':Heap}:∀ {vs:List Value}{ps:List (Int×Tok×Value)},Tps h vs ps->(∀ b o,Value.ref b∈vs->h.get? b=some o->h'.get? b=some o)->Tps h' vs ps
 | [],[],_,_=>trivial
 | _::_,_::_,⟨⟨b,o,m,e1,e2,e3⟩,t⟩,k=>⟨⟨b,o,m,e1,k b o (by rw [e1];exact mem_cons_self) e2,e3⟩,Tps.mono t fun b o hb=>k b o (mem_cons_of_mem _ hb)⟩
 | [],_::_,t,_=>t.elim
 | _::_,[],t,_=>t.elim
theorem Tps.kat {h:Heap}:∀ {vs:List Value}{ps:List (Int×Tok×Value)},Tps h vs ps->KatTups h vs (ps.map fun p=>Value.int p.1 p.2.1)
 | [],[],_=>trivial
 | _::_,p::_,⟨⟨b,o,m,e1,e2,e3,e4⟩,t⟩=>⟨⟨b,o,_,m,e1,e2,e3,e4,rfl⟩,Tps.kat t⟩
 | [],_::_,t=>t.elim
 | _::_,[],t=>t.elim
def yft (ps:List (Int×Tok×Value)) (i:Nat):Int:=((ps[i]?).map (·.1)).getD 0
theorem yra {ps:List (Int×Tok×Value)}(hn:(ps.map (·.1)).Nodup) {i j:Nat}(hi:i<ps.length) (hj:j<ps.length) (e:yft ps i=yft ps j):i=j:=by
 unfold yft at e
 rw [List.getElem?_eq_getElem hi,List.getElem?_eq_getElem hj] at e
 have e:ps[i].1=ps[j].1:=e
 have h1:i<(ps.map (·.1)).length:=by simpa using hi
 have h2:j<(ps.map (·.1)).length:=by simpa using hj
 exact (List.getElem_inj (h₀:=h1) (h₁:=h2) hn).mp (by simpa using e)
section
variable {prog:Program}{w:World}{A:Around}{E:Value->Shared->Prop}{s:Shared}
theorem yxd {vs:List Value}{ps:List (Int×Tok×Value)}(tp:Tps s.heap vs ps) (hn:(ps.map (·.1)).Nodup) (i j:Nat) (C:Bool->Shared->Prop) (hi:i<vs.length) (hj:j<vs.length) (hC:C (ltK (yft ps) i j) s) :
  kas_ask prog w A (tuples' true) vs i j C s:=by
 obtain ⟨p,b,o,m,e1,e2,e3,e4,e5⟩:=tp.get i hi
 obtain ⟨p',b',o',m',f1,f2,f3,f4,f5⟩:=tp.get j hj
 have k1:yft ps i=p.1:=by unfold yft;rw [e1];rfl
 have k2:yft ps j=p'.1:=by unfold yft;rw [f1];rfl
 unfold ltK at hC
 rw [k1,k2] at hC
 unfold kas_ask
 rw [e2,f2]
 refine kat_lt e3 e5 f3 f5 ?_
 show KatLex prog w A true (decide (2<2)) C [(Value.int p.1 p.2.1,Value.int p'.1 p'.2.1),(p.2.2,p'.2.2)] 0 s
 refine kat_cons (L2.eqAt_V (y:=.int p.1) (x:=.int p'.1) ⟨_,rfl⟩ ⟨_,rfl⟩ rfl rfl prog w _ _ ?_)
 show KatGo prog w A true _ C _ _ _ 0 (p.1 == p'.1) s
 by_cases e:p.1=p'.1
 .rw [beq_iff_eq.mpr e]
  have hij:i=j:=yra hn (by rw [tp.len];exact hi) (by rw [tp.len];exact hj) (by rw [k1,k2,e])
  subst hij
  rw [e1] at f1
  cases f1
  refine kat_yes (kat_cons (SeqAt.EqAt.same _ prog w _ _ (kat_yes (kat_nil ?_))))
  rw [decide_eq_false (by omega)] at hC
  exact hC
 .rw [beq_eq_false_iff_ne.mpr e]
  exact kat_no (oneLt_int hC)
theorem ytQ {a:Addr}{vs:List Value}{ps:List (Int×Tok×Value)}{n:Nat}{P:PySem.Fin->Shared->Prop}(ho:s.heap.get? a=some (seqObj "list" vs.toArray n)) (tp:Tps s.heap vs ps) (na:Value.ref a∉vs) (hn:(ps.map (·.1)).Nodup) (h64:vs.length<3)
  (h:∀ q:Array Nat,q.Perm (toArray (List.range vs.length))->Up (yft ps) q vs.length->P (.done (.ret .none)) { s with heap:=sortedHeap s.heap a vs (toArray (q.toList.map fun i=>vs.getD i Value.none)) }) :
  wpAny (model prog w) A (Builtin.«list.sort» ⟨[.ref a],[]⟩) P E s:=by
 have ha:a<s.heap.objs.size:=Heap.lt_size ho
 have z64:vs.length<=sizeLine:=by rw [sizeLine_eq];omega
 rw [list_sort_plain]
 obtain ⟨e1,ho1⟩:∃ e1,(s.heap.update a (Obj.mapSeq fun _=>(#[]:Array Value))).get? a=some (seqObj "list" #[] e1):=⟨_,get?_update_seq ho _⟩
 refine wpAny_bind (listItems_at ho rfl (wpAny_bind (listUpdate_at ho rfl (wpAny_bind (seqEpoch_at ho1 rfl (wpAny_bind (wpAny_newTuple (wpAny_bind (wpAny_newList (wpAny_holding ?_) (zero_le _))) (by simpa using z64))))) (by simpa using z64) (zero_le _))))
 generalize hH:((s.heap.update a (Obj.mapSeq fun _=>(#[]:Array Value))).push (seqObj "tuple" vs.toArray 0)).push (seqObj "list" #[] 0)=H6
 have keep:∀ b o,b≠a->s.heap.get? b=some o->H6.get? b=some o:=fun b o hb e=>by
  rw [<- hH]
  exact Heap.get?_push_of_some _ (Heap.get?_push_of_some _ ((Heap.get?_update_other _ _ (Ne.symm hb)).trans e))
 have ho6:H6.get? a=some (seqObj "list" #[] e1):=by rw [<- hH];exact Heap.get?_push_of_some _ (Heap.get?_push_of_some _ ho1)
 have tp6:Tps H6 vs ps:=tp.mono fun b o hb e=>keep b o (fun z=>na (z ▸ hb)) e
 show wpAny (model prog w) A _ P E { s with heap:=H6 }
 dsimp only
 have fin:∀ q:Array Nat,q.Perm (toArray (List.range vs.length))->Up (yft ps) q vs.length->P (.done (.ret .none)) { s with heap:=H6.update a (Obj.mapSeq fun _=>toArray (q.toList.map fun i=>vs.getD i Value.none)) }:=fun q h1 h2=>by
  have:=h q h1 h2
  unfold sortedHeap at this
  rw [show ((s.heap.update a (Obj.mapSeq fun _=>(#[]:Array Value))).push (seqObj "tuple" vs.toArray 0)).push (seqObj "list" #[] 0)=H6 from hH] at this
  exact this
 by_cases h2:vs.toArray.size<2
 .rw [if_pos h2,if_pos h2]
  refine wpAny_bind (wpAny_pure ?_)
  rw [StateT.run_pure]
  have hz:((arrOf (SortSt.mk' general' (vs.toArray.zip vs.toArray) #[] 7 none)).map (·.2))=toArray ((toArray (List.range vs.length)).toList.map fun i=>vs.getD i Value.none):=by
   show (vs.toArray.zip vs.toArray).map (·.2)=_
   apply Array.toList_inj.mp
   simp only [Array.toList_map,Array.toList_zip,List.map_snd_zip (Nat.le_refl _)]
   apply List.ext_getElem
   .simp
   .intro i h3 h4
    simp
    rw [List.getElem?_eq_getElem (by simpa using h3)];rfl
  refine wpAny_bind (wpAny_pure (wpAny_bind (seqEpoch_at ho6 rfl (wpAny_bind (listUpdate_at ho6 rfl ?_ (zero_le _) ?_)))))
  .dsimp only
   rw [hz]
   simp only [bne_self_eq_false,Bool.false_eq_true,if_false]
   exact wpAny_pure (fin _ (Array.Perm.refl _) fun i j hij hj=>by rw [show i=j by (simp at h2);omega];exact Int.le_refl _)
  .rw [hz];simp;omega
 .rw [if_neg h2,if_neg h2]
  have hv2:2<=vs.length:=by simp at h2;omega
  refine wpAny_bind (kat_kind (s:={ s with heap:=H6 }) (T:=.type "int") tp6.kat (by rw [length_map,tp.len];omega) (fun v hv=>?_) rfl ?_)
  .obtain ⟨p,_,rfl⟩:=List.mem_map.mp hv
   exact .now
  have h2:vs.length=2:=by omega
  have run1:=kat_run (prog:=prog) (w:=w) (A:=A) (E:=E) (s:={ s with heap:=H6 }) (κ:=tuples' true) (ks:=vs) (vs:=vs)
   (Q:=fun st' s'=>s'={ s with heap:=H6 }/\∃ q:Array Nat,q.Perm (toArray (List.range vs.length))/\Up (yft ps) q vs.length/\(arrOf st').map (·.2)=toArray (q.toList.map fun i=>vs.getD i Value.none)/\failedOf st'=none)
   (G:=fun q s'=>s'={ s with heap:=H6 }/\q.Perm (toArray (List.range vs.length))/\Up (yft ps) q vs.length) rfl hv2 (by omega)
   (fun q st' s' z1 z2 z3 z4=>⟨z4.1,q,z4.2.1,z4.2.2,kat_snds rfl z2,z3⟩)
   (yAa (P:=(· < vs.length)) (lt:=ltK (yft ps)) (fun i j C hi hj hC=>yxd tp6 hn i j C hi hj hC) _ (by rw [h2];exact yxc) ⟨rfl,by rw [h2];exact yqZ.1,by rw [h2];exact yqZ.2⟩)
  refine wpAny_bind (wpAny_mono run1 ?_ fun _ _ x=>x)
  rintro ⟨⟨⟩,st'⟩ s' ⟨rfl,q,z1,z2,z3,z4⟩
  refine wpAny_bind (seqEpoch_at ho6 rfl (wpAny_bind (listUpdate_at ho6 rfl ?_ (zero_le _) ?_)))
  .dsimp only
   rw [z3,z4]
   simp only [bne_self_eq_false,Bool.false_eq_true,if_false]
   exact wpAny_pure (fin q z1 z2)
  .dsimp only
   rw [z3]
   have:=z1.size_eq
   simp at this ⊢
   omega
end
end KasS
namespace PXS
open PySem L2 PySem.Spec PyProof.Rows KasS PX
theorem ytR {P:Program}{w:World}{H:Hp}{h:Heap}{a:Addr}{o:HO}(x:ObjOk P w H h a o):∃ u,h.get? a=some u:=by
 cases o with
 | lst xs=>obtain ⟨_,_,_,_,e⟩:=x;exact ⟨_,e⟩
 | tup xs=>obtain ⟨_,_,_,ob,e,_⟩:=x;exact ⟨_,e⟩
 | dK kvs=>obtain ⟨_,_,_,_,o,_,_,e,_⟩:=x;exact ⟨_,e⟩
 | dT kvs=>obtain ⟨_,_,_,_,o,_,_,e,_⟩:=x;exact ⟨_,e⟩
 | set S n=>obtain ⟨o,_,_,_,e,_⟩:=x;exact ⟨_,e⟩
 | ins C dx fs=>obtain ⟨_,_,_,e,_⟩:=x;exact ⟨_,e⟩
 | own y=>obtain ⟨_,e⟩:=x;exact ⟨_,e⟩
 | xd fs=>obtain ⟨_,⟨_,_,_,e,_⟩,_⟩:=x;exact ⟨_,e⟩
 | rng lo hi=>obtain ⟨_,_,_,e⟩:=x;exact ⟨_,e⟩
 | frz ob u=>obtain ⟨e,_⟩:=x;exact ⟨_,e⟩
 | tbl ps=>exact ⟨_,show h.get? a=some _ from x⟩
 | met f y=>exact ⟨_,show h.get? a=some _ from x⟩
 | ext φ=>obtain ⟨_,⟨_,e⟩,_⟩:=x;exact ⟨_,e⟩
section
variable {X:Cx}
theorem ytS:MtM X "dict.items" yvl:=by
 intro pins s σ H x vs v us Q I rx rv h
 obtain ⟨d,kvs,rfl,rfl,hH,q⟩:=h
 cases rx
 have hus:=rv.zero
 subst hus
 obtain ⟨z,sy,ws,kv,hD⟩:=I.hok d _ hH
 refine call_meetsIn PySem.F.slot_dict_items hD.typeIs PySem.F.entry_dict_items (PySem.F.args_dict_items_1 _) (meets_dict_items _ d sy) ⟨⟨ws,hD⟩,?_⟩
 refine ⟨.ref _,_,I.laid (t':=s.toks) (o:=ymF s.heap.objs.size d) (fun _ _ q=>Heap.get?_push_of_some _ q) (Nat.le_refl _) ⟨Heap.get?_push_size _ rfl,⟨_,Heap.get?_push_size _ rfl⟩,fun h1 h2 e k=>k _ e⟩,rfl,q _ I.fresh⟩
theorem yxe {pins:List (Addr×Obj)}{σ:L2.St}{H H':Hp}{s:Shared}{h':Heap}{t':Nat}(I:Inv X pins σ H s) (k:∀ b u,s.heap.get? b=some u->h'.get? b=some u) (sub:∀ b o,H b=some o->H' b=some o)
  (nw:∀ b o,H b=none->H' b=some o->s.heap.get? b=none/\ObjOk X.prog X.w H' h' b o):Inv X pins σ H' { s with heap:=h',toks:=t' }:=by
 refine I.un ⟨fun b u q _ _ _=>k b u q,fun b u q _ _ _=>⟨u.slots,k b u q⟩,fun b u q n _=>?_,fun b u q _=>⟨u,k b u q⟩,fun b xs q=>sub _ _ q,fun b u xs q=>sub _ _ q,fun b ps q=>⟨#[],by rw [sub _ _ q];simp⟩⟩ fun b o e=>?_
 .cases e:H' b with
  | none=>rfl
  | some o=>rw [(nw b o n e).1] at q;cases q
 .cases e2:H b with
  | none=>exact (nw b o e2 e).2
  | some u =>
   have:=sub _ _ e2
   rw [e] at this
   cases this
   exact (I.hok b o e2).stay (fun c v _ q=>k c v q) (fun c q=>sub _ _ q) fun c xs q=>sub _ _ q
theorem yvr {h:Heap}:∀ (as:List Addr) (ws:List (Key×Value)) (ns:List Int),as.length=ws.length->ws.map (·.1)=ns.map Sum.inl ->
  (∀ (j:Nat) (a:Addr),as[j]?=some a->∃ key k x,ws[j]?=some (k,x)/\ylM k key=true/\h.get? a=some { cls:=.type "tuple",data:=.seq #[key,x] }) ->
  ∃ ps,Tps h (as.map Value.ref) ps/\ps.map (·.1)=ns/\ps.map (·.2.2)=ws.map (·.2)
 | [],[],ns,_,e,_=>⟨[],trivial,by cases ns with|nil=>rfl|cons=>simp at e,rfl⟩
 | [],_::_,_,hl,_,_=>by simp at hl
 | _::_,[],_,hl,_,_=>by simp at hl
 | a::as,(k,x)::ws,ns,hl,e,hp=>by
  cases ns with
  | nil=>simp at e
  | cons n ns =>
   simp only [map_cons,List.cons.injEq] at e
   obtain ⟨ps,t,e1,e2⟩:=yvr as ws ns (by simpa using hl) e.2 fun j b hb=>by
    obtain ⟨key,k',x',f1,f2,f3⟩:=hp (j+1) b (by simpa using hb)
    exact ⟨key,k',x',by simpa using f1,f2,f3⟩
   obtain ⟨key,k',x',f1,f2,f3⟩:=hp 0 a rfl
   simp at f1
   obtain ⟨rfl,rfl⟩:=f1
   obtain ⟨j,tk,g1,rfl⟩:∃ j tk,k=Sum.inl j/\key=Value.int j tk:=by
    rcases ybl f2 with ⟨j,tk,g1,g2⟩|⟨y,tk,g1,g2⟩
    .exact ⟨j,tk,g1,g2⟩
    .rw [g1] at e;cases e.1
   rw [g1] at e
   obtain rfl:j=n:=by injection e.1
   exact ⟨(j,tk,x)::ps,⟨⟨a,_,_,rfl,f3,rfl,rfl⟩,t⟩,by rw [map_cons,e1],by rw [map_cons,e2];rfl⟩
theorem yem {α:Type}:∀ {as:List Addr}{ts:List α}{b:Addr}{t:α},(as.zip ts).lookup b=some t->∃ j:Nat,as[j]?=some b/\ts[j]?=some t
 | [],_,_,_,h=>by simp at h
 | _::_,[],_,_,h=>by simp at h
 | a::as,u::ts,b,t,h=>by
  rw [zip_cons_cons,lookup_cons] at h
  split at h
  .rename_i hb
   cases h
   exact ⟨0,by rw [eq_of_beq hb];rfl,rfl⟩
  .obtain ⟨j,h1,h2⟩:=yem h
   exact ⟨j+1,by simpa using h1,by simpa using h2⟩
theorem yog:∀ {kvs:List (Key×V)}{ws:List (Key×Value)},KV kvs ws->ws.map (·.1)=kvs.map (·.1)/\∀ i:Nat,i<kvs.length->RelV ((kvs.map (·.2)).getD i .non) ((ws.map (·.2)).getD i .none):=by
 intro kvs ws h
 induction h with
 | nil=>exact ⟨rfl,fun i hi=>by simp at hi⟩
 | @cons p q _ _ h1 _ ih =>
  refine ⟨by rw [map_cons,map_cons,ih.1,h1.1],fun i hi=>?_⟩
  cases i with
  | zero=>exact h1.2
  | succ i=>simpa using ih.2 i (by simpa using hi)
theorem yoh {α:Type}{f:α->V}{g:α->Value}:∀ {l:List α},(∀ i∈l,RelV (f i) (g i))->Vals (l.map f) (l.map g)
 | [],_=>.nil
 | i::l,h=>.cons (h i mem_cons_self) (yoh fun j hj=>h j (mem_cons_of_mem _ hj))
theorem ygP (hc:X.calm=true):yfk X (.builtin "sorted") rSI:=by
 intro pins s σ H xs us Q I rr hh
 obtain ⟨r,d,kvs,ns,rfl,hr,hd,hk,h64,q⟩:=hh
 obtain ⟨u,rfl,rx⟩:=vals1 rr
 cases rx
 obtain ⟨hview,_,_⟩:=I.hok r _ hr
 obtain ⟨z,sy,ws,kv,hD⟩:=I.hok d _ hd
 obtain ⟨ep,hat⟩:=hD.dictAt
 obtain ⟨kv1,kv2⟩:=yog kv
 have lw:ws.length=kvs.length:=by have:=congrArg length kv1;simpa using this
 have ln:ns.length=kvs.length:=by have:=congrArg length hk;simpa using this.symm
 have nd:ns.Nodup:=by
  obtain ⟨_,_,_,_,_,_,_,_,n⟩:=hD
  rw [kv1,hk] at n
  exact (List.pairwise_map.mp n).imp fun h e=>h (by rw [e])
 refine Calls.call_function_entry kind_sorted plain_sorted entry_sorted (args_sorted1 _) ?_
 unfold Builtin.«sorted»
 refine wpAny_bind (m:=checkCount "sorted" 1 1 _) (wpAny_pure ?_)
 refine wpAny_bind (PySem.W.kdx_collect (A:=X.A.in1) (knd:=ycz X.prog X.w) (kvs:=ws) (ep:=ep) (I.ok.hd hc) ⟨_,hview,rfl,rfl⟩ hat (by rw [lw];exact z) fun h' tk as keep hl hG=>wpAny_bind (wpAny_newList ?_ (by rw [length_map,hl,lw];exact z)))
 obtain ⟨ps,tp,e1,e2⟩:=yvr (h:=h') as ws ns hl (by rw [kv1,hk]) fun j a ha=>hG.pairs j a ha
 have la:as.length=ns.length:=by omega
 have above:∀ a∈as,s.heap.objs.size<a:=hG.above
 have there:∀ a∈as,a<h'.objs.size:=fun a ha=>hG.there ha
 generalize hB:h'.objs.size=B at *
 have noB:s.heap.get? B=none:=by
  cases e:s.heap.get? B with
  | none=>rfl
  | some o=>exact absurd (Heap.lt_size (keep B o e)) (by rw [hB];exact lt_irrefl _)
 have noA:∀ a∈as,s.heap.get? a=none:=fun a ha=>Heap.get?_none_of_le (le_of_lt (above a ha))
 have free:∀ b,s.heap.get? b=none->H b=none:=fun b e=>by
  cases e2:H b with
  | none=>rfl
  | some o=>obtain ⟨u,hu⟩:=ytR (I.hok b o e2);rw [e] at hu;cases hu
 have hoL:(h'.push { cls:=.type "list",data:=.seq (as.map Value.ref).toArray }).get? B=some (seqObj "list" (as.map Value.ref).toArray 0):=by rw [<- hB];exact Heap.get?_push_size _ rfl
 refine wpAny_bind (wpAny_holding (wpAny_call_entry PySem.F.slot_list_sort ⟨_,hoL,rfl⟩ PySem.F.entry_list_sort ?body (PySem.F.args_list_sort_1 _)))
 case body =>
  refine ytQ (s:={ s with heap:=h'.push { cls:=.type "list",data:=.seq (as.map Value.ref).toArray },toks:=tk }) (ps:=ps) hoL (tp.mono fun b o _ e=>Heap.get?_push_of_some _ e) (fun z=>?_) (by rw [e1];exact nd) (by rw [length_map];omega) fun qa z1 z2=>?_
  .obtain ⟨a,ha,e⟩:=List.mem_map.mp z
   cases e
   exact absurd (there B ha) (lt_irrefl _)
  refine ⟨_,rfl,wpAny_pure ⟨_,rfl,?_⟩⟩
  have lq:qa.toList.length=ns.length:=by have:=z1.size_eq;simpa [la] using this
  have pq:qa.toList.Perm (List.range ns.length):=by have:=Array.perm_iff_toList_perm.mp z1;simpa [la] using this
  have inq:∀ i∈qa.toList,i<ns.length:=fun i hi=>by have:=pq.mem_iff.mp hi;simpa using this
  have nda:as.Nodup:=hG.rise.imp fun h=>ne_of_lt h
  have ndq:qa.toList.Nodup:=pq.nodup_iff.mpr List.nodup_range
  generalize hS:sortedHeap (h'.push { cls:=.type "list",data:=.seq (as.map Value.ref).toArray }) B (as.map Value.ref) (toArray (qa.toList.map fun i=>(as.map Value.ref).getD i Value.none))=S
  have hFa:∀ b o,b≠B->h'.get? b=some o->S.get? b=some o:=fun b o hb e=>by
   rw [<- hS]
   unfold sortedHeap
   exact (Heap.get?_update_other _ _ (Ne.symm hb)).trans (Heap.get?_push_of_some _ (Heap.get?_push_of_some _ ((Heap.get?_update_other _ _ (Ne.symm hb)).trans (Heap.get?_push_of_some _ e))))
  have hFB:∃ c,S.get? B=some (seqObj "list" (toArray (qa.toList.map fun i=>(as.map Value.ref).getD i Value.none)) c):=by
   rw [<- hS]
   unfold sortedHeap
   exact ⟨_,get?_update_seq (Heap.get?_push_of_some _ (Heap.get?_push_of_some _ (get?_update_seq hoL _))) _⟩
  have hF:∀ b o,s.heap.get? b=some o->S.get? b=some o:=fun b o e=>hFa b o (fun z=>by rw [z,noB] at e;cases e) (keep b o e)
  have aget:∀ i,i<ns.length->∃ a,as[i]?=some a/\as.getD i 0=a/\a∈as:=fun i hi=>by
   have h1:i<as.length:=by omega
   exact ⟨as[i],List.getElem?_eq_getElem h1,by simp [getD,List.getElem?_eq_getElem h1],getElem_mem h1⟩
  have mem:∀ a∈(qa.toList.map fun i=>as.getD i 0),a∈as:=fun a ha=>by
   obtain ⟨i,hi,rfl⟩:=List.mem_map.mp ha
   obtain ⟨a,_,e,m⟩:=aget i (inq i hi)
   rw [e];exact m
  have neB:∀ a∈as,a≠B:=fun a ha=>ne_of_lt (there a ha)
  have kat:∀ i,yft ps i=ns.getD i 0:=fun i=>by
   unfold yft
   rw [<- e1]
   simp [getD]
  refine ⟨.ref B,yBr H B (qa.toList.map fun i=>as.getD i 0) (qa.toList.map fun i=>[V.int (ns.getD i 0),(kvs.map (·.2)).getD i .non]),?_,rfl,q B _ qa.toList pq ?_ nd (by simp) ?_ ?_⟩
  .show L2.Inv X pins σ _ { s with heap:=S,toks:=tk }
   refine yxe I hF (fun b o e=>?_) fun b o e e2=>?_
   .unfold yBr upd ynW
    rw [if_neg fun z=>by rw [z,free _ noB] at e;cases e]
    cases e3:List.lookup b ((qa.toList.map fun i=>as.getD i 0).zip (qa.toList.map fun i=>[V.int (ns.getD i 0),(kvs.map (·.2)).getD i .non])) with
    | none=>exact e
    | some t =>
     obtain ⟨j,g1,_⟩:=yem e3
     rw [free _ (noA b (mem b (mem_of_getElem? g1)))] at e
     cases e
   .unfold yBr upd ynW at e2
    split at e2
    .rename_i hb
     subst hb
     cases e2
     obtain ⟨c,hc⟩:=hFB
     refine ⟨noB,by simp [lq];rw [ln];exact z,_,c,?_,hc⟩
     rw [map_map]
     refine yoh fun i hi=>?_
     obtain ⟨a,f1,f2,_⟩:=aget i (inq i hi)
     show RelV (V.ref (as.getD i 0)) _
     rw [f2]
     simp [getD,f1]
     rfl
    .split at e2
     .rename_i t e3
      cases e2
      obtain ⟨j,g1,g2⟩:=yem e3
      rw [getElem?_map] at g1 g2
      cases e4:qa.toList[j]? with
      | none=>rw [e4] at g1;cases g1
      | some i =>
       rw [e4] at g1 g2
       have hi:=inq i (mem_of_getElem? e4)
       obtain ⟨a,f1,f2,f3⟩:=aget i hi
       simp only [map_some,Option.some.injEq] at g1 g2
       rw [f2] at g1
       subst g1
       subst g2
       obtain ⟨key,k,x,w1,w2,w3⟩:=hG.pairs i a f1
       have wk:k=Sum.inl (ns.getD i 0):=by
        have h1:(ws.map (·.1))[i]?=some k:=by rw [getElem?_map,w1];rfl
        rw [kv1,hk,getElem?_map] at h1
        rw [List.getElem?_eq_getElem hi] at h1
        simp [getD,List.getElem?_eq_getElem hi] at h1 ⊢
        exact h1.symm
       obtain ⟨tk2,rfl⟩:∃ tk,key=Value.int (ns.getD i 0) tk:=by
        rcases ybl w2 with ⟨j,tk,g1,g2⟩|⟨y,tk,g1,g2⟩
        .rw [wk] at g1;cases g1;exact ⟨tk,g2⟩
        .rw [wk] at g1;cases g1
       have wx:(ws.map (·.2)).getD i .none=x:=by simp [getD,w1]
       refine ⟨noA a f3,by simp [sizeLine_eq],[_,x],.cons ⟨_,rfl⟩ (.cons ?_ .nil),_,hFa a _ (neB a f3) w3,rfl,_,rfl⟩
       rw [<- wx]
       exact kv2 i (by omega)
     .rw [e] at e2;cases e2
  .refine List.pairwise_iff_getElem.mpr fun i j hi hj hij=>?_
   have:=z2 i j (le_of_lt hij) (by simpa [la,lq] using hj)
   unfold Kp at this
   rw [kat,kat] at this
   have hi':i<qa.size:=by simpa using hi
   have hj':j<qa.size:=by simpa using hj
   rw [Array.getElem?_eq_getElem hi',Array.getElem?_eq_getElem hj'] at this
   simpa using this
  .intro a ha
   rcases mem_cons.mp ha with rfl|ha
   .exact free _ noB
   .exact free _ (noA a (mem a ha))
  .refine List.nodup_cons.mpr ⟨fun h=>neB _ (mem _ h) rfl,?_⟩
   refine List.pairwise_map.mpr (ndq.imp_of_mem fun {i j} hi hj hij e=>hij ?_)
   obtain ⟨a,f1,f2,_⟩:=aget i (inq i hi)
   obtain ⟨b,g1,g2,_⟩:=aget j (inq j hj)
   rw [f2,g2] at e
   subst e
   exact (List.getElem?_inj (by have:=inq i hi;omega) nda).mp (f1.trans g1.symm)
variable {A:Nat->Addr}{o:Expr}{xa:XE}{pos p apos cpos:Pos}{x:Str}
theorem z_sortI (ho:ZE X A o xa) (hm:X.mg x=none) (hc:X.calm=true:=by rfl) (m:Nm x:=by exact ⟨by rfl',by rfl',by rfl'⟩) (hg:Gl X x:=by rfl) (hv:bootBuiltins x=some (.builtin "sorted"):=by rfl') (hbase:attributeBase o "items" X.env (eval o X.env)=eval o X.env:=by rfl) (hline:(apos.endLine == cpos.line)=true:=by rfl) (he:starEach [.Call (.Attribute o "items" apos) [] [] cpos] X.env=(false,eval (.Call (.Attribute o "items" apos) [] [] cpos) X.env)::starEach [] X.env:=by rfl) (hpl:(backTo pos (starEach [] X.env)).any (·.1)=false:=by rfl) :
  ZO X A (.Call (.Name x p) [.Call (.Attribute o "items" apos) [] [] cpos] [] pos) (yiN xa) :=
 wO (yjf (ygP hc) hg hm hv (yfm (yuT PySem.F.plainAttrs_dict PySem.F.slot_dict_items PySem.F.type_dict_items ytS ho.of hbase hline) yiE he) m.n m.d he hpl) (yqI (K:=ckX X A) sE)
end
end PXS
namespace PX
open PySem L2 PySem.Spec PyProof.Rows
section
theorem ytT {P:Program}{w:World}{K:PySem.W.Frag}{tg:Expr}(a it:Addr) (m:Nat):Turn P w K tg (ItR K a m) [it] it (fun i h=>i<=m/\h.IsRevIter it a ((m:Int)-1-(i:Nat))) where
 mem:=by simp
 obj:=fun i h st b hb=>by
  have e:b=it:=by simpa using hb
  subst e
  obtain ⟨_,o,e,c,d⟩:=st
  exact ⟨o,e,fun v z=>by rw [d] at z;cases z⟩
 keep:=fun i h h' st k=>⟨st.1,st.2.at fun o e=>k it (by simp) o e⟩
 item:=by
  intro X hP hw hK hc i pins s σ H E I hf st hg
  subst hP hw hK
  obtain ⟨hi,xs,x,hq,hx⟩:=hg
  obtain ⟨its,rv,p,hz⟩:=I.list hq
  obtain ⟨u,hu,ru⟩:=rv.get hx
  obtain ⟨f0,f1,f2,f3,f4,f5⟩:=hf it (by simp)
  have e0:(m:Int)-1-(i:Nat)=((m-1-i:Nat):Int):=by omega
  have st2:=st.2
  rw [e0] at st2
  refine wpAny_pyNext_rev_item st2 p.isList (x:=u) (by simpa using hu) fun h' st' sb=>?_
  have I1:Inv X pins σ H { s with heap:=h' }:=I.turned (t':=s.toks) (fun b o hb e=>(sb.2 b hb).trans e) f0 f1 f3 f4 f5
  obtain ⟨o,e,c,d⟩:=id st'
  have e2:((m-1-i:Nat):Int)-1=(m:Int)-1-((i+1:Nat):Int):=by omega
  rw [e2] at st'
  exact ⟨u,rfl,ypx (s:={ s with heap:=h' }) e c d (by decide) ⟨x,H,I1,ru,⟨rfl,fun ys hy=>by rw [I.list_inj hy hq];exact hx⟩,⟨hi,st'⟩,fun b hb=>(hf b hb).1⟩⟩
 done:=by
  intro X hP hw hK hc i pins s σ H E I hf st hg
  subst hP hw hK
  obtain rfl:i=m:=hg
  obtain ⟨f0,f1,f2,f3,f4,f5⟩:=hf it (by simp)
  have st2:=st.2
  rw [show (i:Int)-1-(i:Nat)=-1 by omega] at st2
  exact wpAny_pyNext_rev_end (I.ok.hd hc) st2 fun h' eb=>⟨rfl,I.turned (t':=s.toks) (fun b o hb e=>eb b o hb e) f0 f1 f3 f4 f5⟩
 self:=fun _ _ _ _ _ st h=>wpAny_pyIter_revIter st.2 h
variable {X:Cx}{A:Nat->Addr}{tg a:Expr}{p pos:Pos}{xa:XE}
theorem yAb {ta:TE}(hg:Gl X "reversed") (hm:X.mg "reversed" = none) (ha:PE X a ta) (he:starEach [a] X.env=(false,eval a X.env)::starEach [] X.env) (hs:starEach [a] X.env=[(false,eval a X.env)]):PI X tg (.Call (.Name "reversed" p) [a] [] pos) (yEa X.K ta):=by
 intro pins s σ H R I h
 refine Call_ (yki I hg hm ymJ (PyProof.Rows.callWith_type1 (thn (yfm ha yiE he pos pins s σ H (fun vs H1=>match vs with|[x]=>∃ b xs,x=.ref b/\SqL X.K H1 b xs/\R (ItR X.K b xs.length) H1|_=>False) I h) fun us s1 ⟨vs,H1,I1,r1,q1⟩=>?_) hs rfl))
 cases r1 with
 | nil=>exact q1.elim
 | cons r rr =>
  cases rr with
  | cons=>exact q1.elim
  | nil =>
  obtain ⟨b,xs,e,hq,q⟩:=q1
  subst e
  cases r
  obtain ⟨its,rv,pp,hz⟩:=I1.list hq
  have hl:=rv.length
  refine call_reversed_list pp.isList (wpAny_pyIter_revIter (s:={ s1 with heap:=s1.heap.push (revObj b ((its.toArray.size:Int)-1)) }) (l:=b) (i:=(its.toArray.size:Int)-1) ⟨_,Heap.get?_push_size _ rfl,rfl,rfl⟩ ?_)
  refine ⟨s1.heap.objs.size,[s1.heap.objs.size],_,_,H1,rfl,I1.kept (t':=s1.toks) fun b o e=>Heap.get?_push_of_some _ e,ytT b _ xs.length,⟨zero_le _,_,Heap.get?_push_size _ rfl,rfl,?_⟩,fun b hb=>?_,q⟩
  .show Data.fields #[.ref b,rawInt ((its.toArray.size:Int)-1)]=Data.fields #[.ref b,rawInt ((xs.length:Int)-1-((0:Nat):Int))]
   rw [hl]
   simp
  .have e:b=s1.heap.objs.size:=by simpa using hb
   subst e
   exact I1.fpOk (Nat.le_refl _) (I1.hok.fresh (Nat.le_refl _))
theorem yxf {rest:List Stmt}{s:XS}{y:XG}(hi:ZE X A a xa) (hg:ZG X A tg y) (hb:ZSs X A rest s) (hp:PassesOwn (model X.prog X.w) X.A X.env X.xe:=by exact PassesOwn.never) (hc:X.calm=true:=by rfl) (hs:∀ x,foldedSetIterable a X.env x=pure x:=by exact fun _=>rfl):ZS X A (.For tg a rest [] pos) (yjC false xa y s) :=
 wS (ypB hp hc (ylR hi.of) hg.of hb.of hs) (ytI (K:=ckX X A) sE sG sS)
theorem yxg {rest:List Stmt}{s:XS}{y:XG}{pos':Pos}(hm:X.mg "reversed" = none) (hi:ZE X A a xa) (hg:ZG X A tg y) (hb:ZSs X A rest s) (hp:PassesOwn (model X.prog X.w) X.A X.env X.xe:=by exact PassesOwn.never) (hc:X.calm=true:=by rfl) (hgl:Gl X "reversed":=by rfl) (he:starEach [a] X.env=(false,eval a X.env)::starEach [] X.env:=by rfl) (hs1:starEach [a] X.env=[(false,eval a X.env)]:=by rfl) (hs:∀ x,foldedSetIterable (.Call (.Name "reversed" p) [a] [] pos') X.env x=pure x:=by exact fun _=>rfl):ZS X A (.For tg (.Call (.Name "reversed" p) [a] [] pos') rest [] pos) (yjC true xa y s) :=
 wS (ypB hp hc (yAb hgl hm hi.of he hs1) hg.of hb.of hs) (ytJ (K:=ckX X A) sE sG sS)
end
end PX
namespace PX
open PySem L2 PySem.Spec PyProof.Rows
section
variable {X:Cx}{A:Nat->Addr}{a o:Expr}{xa xb:XE}{pos apos cpos:Pos}
theorem yAc:MtM X "dict.update" yEb:=by
 intro pins s σ H x vs v us Q I rx rv h
 obtain ⟨d,b,kvs,more,rfl,rfl,hne,hH,hB,hz,q⟩:=h
 cases rx
 obtain ⟨u,rfl,ru⟩:=rv.one
 cases ru
 obtain ⟨z,hd,vs,rel,dd⟩:=ywI I.hok hH
 obtain ⟨z2,hd2,vs2,rel2,dd2⟩:=ywI I.hok hB
 refine call_meetsIn PySem.F.slot_dict_update dd.typeIs PySem.F.entry_dict_update (PySem.F.args_dict_update_2 _ _) (meets_dict_update (ycz X.prog X.w) d b hne hd2) ⟨vs,vs2,dd,dd2,by rw [<- rel.length,<- rel2.length];exact hz,fun h' dd' _ hs=>?_⟩
 have he:∃ q,h'.get? d=some q:=let ⟨q,_,_,hq,_⟩:=dd';⟨q,hq⟩
 refine ⟨.non,_,ymA (t':=s.toks) I (by rw [hH];exact True.intro) hs he (yvh ?_ hd (rel2.merge rel) dd'),rfl,q⟩
 exact Nat.le_trans (yfK more kvs) hz
end
end PX
namespace PX
open PySem L2 PySem.Spec PyProof.Rows
variable {X:Cx}{A:Nat->Addr}{x:Str}
theorem yrb {elt iter cnd:Expr}{px:Pos}{scope:Scope}{cpos:Pos}{it:XA}{xe:XE}{xc:XT}{ix:List Nat}(fr:List Str) (hi:ZI X A (.Name x px) iter it) (he:∀ (cl:List (Str×Addr)) (C:Addr) (s₃:Shared) (H₃:Hp) (fp:List Addr) (pins:List (Addr×Obj)),ZE (cxC X scope cl C (x::fr) s₃ H₃ fp pins) A elt xe) (hq:∀ (cl:List (Str×Addr)) (C:Addr) (s₃:Shared) (H₃:Hp) (fp:List Addr) (pins:List (Addr×Obj)),ZT (cxC X scope cl C (x::fr) s₃ H₃ fp pins) A cnd xc) (hc:X.calm=true:=by rfl) (hfr:FrOk X scope ix fr:=by repeat' first|exact True.intro|exact rfl|refine And.intro ?_ ?_) (hnd:(x::fr).Nodup:=by rfl') (hkind:scope.kind=.function:=by rfl) (hcell:∀ y∈scope.names,y.2≠.cell:=by rfl') (hnames:∀ y∈scope.names,y.2=.local->scope.names.lookup y.1=some .local:=by rfl') (hfree0:∀ y∈scope.names,y.2=.free->y.1∈fr:=by rfl') (hx:scope.names.lookup x=some .local:=by rfl) (hs:∀ v,foldedSetIterable iter X.env v=pure v:=by exact fun _=>rfl):ZO X A (.ListComp elt [⟨.Name x px,iter,[cnd],0⟩] scope cpos) (yhC it ix xc xe) :=
 wO (yhc ix fr hc hi.of hfr (te:=cE (ckX X A) xe) (tc:=cT (ckX X A) xc) (fun cl C s₃ H₃ fp pins=>(he cl C s₃ H₃ fp pins).of) (fun cl C s₃ H₃ fp pins=>.one (hq cl C s₃ H₃ fp pins).of) hnd hkind hcell hnames hfree0 hx hs) (yqK (K:=ckX X A) ix sI sT sE)
end PX
namespace PX
open PySem L2 PySem.Spec PyProof.Rows
variable {X:Cx}{A:Nat->Addr}{x y:Str}{py spos:Pos}{iy:Nat}
theorem ytU {elt iter:Expr}{px:Pos}{scope:Scope}{cpos:Pos}{it:XA}{xe:XE}{ix:List Nat}(fr:List Str) (hi:ZI X A (.Name x px) iter it) (he:∀ (cl:List (Str×Addr)) (C:Addr) (s₃:Shared) (H₃:Hp) (fp:List Addr) (pins:List (Addr×Obj)),ZE (cxC X scope cl C (x::fr) s₃ H₃ fp pins) A elt xe) (hc:X.calm=true:=by rfl) (hfr:FrOk X scope ix fr:=by repeat' first|exact True.intro|exact rfl|refine And.intro ?_ ?_) (hnd:(x::fr).Nodup:=by rfl') (hkind:scope.kind=.function:=by rfl) (hcell:∀ y∈scope.names,y.2≠.cell:=by rfl') (hnames:∀ y∈scope.names,y.2=.local->scope.names.lookup y.1=some .local:=by rfl') (hfree0:∀ y∈scope.names,y.2=.free->y.1∈fr:=by rfl') (hx:scope.names.lookup x=some .local:=by rfl) (hs:∀ v,foldedSetIterable iter X.env v=pure v:=by exact fun _=>rfl) (hN:X.N.Nodup:=by exact nd) (hyi:X.N[iy]?=some y:=by rfl) (hyx:Loc X.env.scope y:=by first|exact Or.inl rfl|exact Or.inr rfl) (hyf:X.fn y=true\/X.env.scope.names.lookup y=some .local:=by exact Or.inl rfl) (hsw:swapsWith (.ListComp elt [⟨.Name x px,iter,[],0⟩] scope cpos) (some (.Name y py)) spos.line X.env=pure true:=by rfl):ZS X A (.Assign [.Name y py] (.ListComp elt [⟨.Name x px,iter,[],0⟩] scope cpos) spos) (ybn (yfG (yeD it ix xe)) (yt iy)) :=
 wS (yCN (ytO ix fr hc hi.of hfr (te:=cE (ckX X A) xe) (fun cl C s₃ H₃ fp pins=>(he cl C s₃ H₃ fp pins).of) (fun _ _ _ _ _ _=>.nil) hnd hkind hcell hnames hfree0 hx hs hN hyi hyx hyf hsw)) (yqi (yqd (ynF (K:=ckX X A) ix sI sE)) (yhq iy))
theorem yxh {k lv:Nat}{f:Addr}{fd:FuncData}{ps:List Str}{p pos:Pos}{fi} (M:Mk X.K (A k) f) (F:FnOk X.prog X.w X.K X.mg X.base CX0 lv f fd ps (spI (ckX X A) 0 k fi)) (hm:X.mg x=some (.ref (A k))) (hb:Binds X.K fd ps []) (hr:Room (lv+1) X.A:=by exact hr.mono (by omega)) (m:Nm x:=by exact ⟨by rfl',by rfl',by rfl'⟩) (hg:Gl X x:=by rfl):ZO X A (.Call (.Name x p) [] [] pos) (yfJ fi yh) :=
 wO (ysH M F hr hg hm hb .nil yks m.d) (ynI (K:=ckX X A) (k:=k) yjq ymp)
end PX
namespace PX
open PySem L2 PySem.Spec PyProof.Rows KasS PXS
section
variable {X:Cx}{A:Nat->Addr}
theorem yho {vs:List Value}{ns:List Int}(h:IntsAre vs ns):Vals (ns.map V.int) vs:=by
 induction h with
 | nil=>exact .nil
 | cons n t _ ih=>exact .cons ⟨t,rfl⟩ ih
variable {a:Expr}{xa:XE}{aa:XA}{pos p:Pos}{x:Str}{n:Nat}
end
end PX
namespace PX
open PySem L2 PySem.Spec PyProof.Rows KasS PXS
section
def NF (X:Cx) (a:Addr):Prop:=∀ o u,X.H₀ a≠some (.frz o u)
theorem yEd {X:Cx}{pins:List (Addr×Obj)}{σ:L2.St}{H:Hp}{s:Shared}{d:Addr}{u0 u1:HO}(I:L2.Inv X pins σ H s) (hd:H d=some u0) (nt:∀ xs,u0≠.tup xs) (no:∀ y,u0≠.own y) (nb:∀ ps,u0≠.tbl ps) (nf:NF X d)
  (ok:ObjOk X.prog X.w H s.heap d u0->ObjOk X.prog X.w H s.heap d u1):L2.Inv X pins σ (upd H d u1) s:=by
 have ne:∀ {b:Addr},H b=none->upd H d u1 b=none:=fun {b} e=>(yL fun z=>by subst z;rw [hd] at e;cases e).trans e
 refine ⟨I.ok,I.os,I.bare,⟨I.base.keep,I.base.slot,fun b o e n hx=>ne (I.base.free b o e n hx),I.base.there,fun b xs e=>?_,fun b o u e=>?_,fun b ps e=>?_⟩,I.loc,I.cell,ne I.free,fun x c e=>ne (I.freeC x c e),fun p hp=>?_,fun b u e=>?_,I.len⟩
 .have:=I.base.tups b xs e
  exact (yL fun z=>by subst z;rw [hd] at this;cases this;exact nt _ rfl).trans this
 .have:=I.base.frzs b o u e
  exact (yL fun z=>by subst z;exact nf o u e).trans this
 .obtain ⟨more,this⟩:=I.base.tbls b ps e
  exact ⟨more,(yL fun z=>by subst z;rw [hd] at this;cases this;exact nb _ rfl).trans this⟩
 .obtain ⟨h1,h2,h3⟩:=I.pin p hp
  exact ⟨h1,ne h2,h3⟩
 .have ho:∀ c y,H c=some (.own y)->upd H d u1 c=some (.own y):=fun c y q=>(yL fun z=>by subst z;rw [hd] at q;cases q;exact no _ rfl).trans q
  have ht:∀ c xs,H c=some (.tup xs)->upd H d u1 c=some (.tup xs):=fun c xs q=>(yL fun z=>by subst z;rw [hd] at q;cases q;exact nt _ rfl).trans q
  by_cases hb:b=d
  .subst hb
   rw [yD] at e
   cases e
   exact (ok (I.hok b u0 hd)).stay (fun _ _ _ q=>q) (fun c q=>ho c b q) ht
  .rw [yL hb] at e
   exact (I.hok b u e).stay (fun _ _ _ q=>q) (fun c q=>ho c b q) ht
theorem yrc {P:Program}{w:World}{K:PySem.W.Frag}{tg:Expr}(d it:Addr) (ob:Obj) (kvs:List (Key×V)) {es:Array DictEntry}{ep:Nat}(hdat:ob.data=.dict es ep):Turn P w K tg (ItD d ob kvs) [it] it (fun i h=>h.IsKeyIter it d i kvs.length ep) where
 mem:=by simp
 obj:=fun i h st b hb=>by
  have e:b=it:=by simpa using hb
  subst e
  obtain ⟨o,e,c,q⟩:=st
  exact ⟨o,e,fun v z=>by rw [q] at z;cases z⟩
 keep:=fun i h h' st k=>st.at fun o e=>k it (by simp) o e
 item:=by
  intro X hP hw hK hc i pins s σ H E I hf st hg
  subst hP hw hK
  obtain ⟨hi,hH⟩:=hg
  obtain ⟨hob,z,sy,ws,kv,hD⟩:=I.hok d _ hH
  obtain ⟨ep',hat⟩:=hD.dictAt
  obtain ⟨o',es',ho',hx1,hx2,hx3⟩:=id hat
  rw [hob] at ho';cases ho'
  rw [hdat] at hx2;cases hx2
  obtain ⟨kv1,kv2⟩:=yog kv
  have lw:ws.length=kvs.length:=by have:=congrArg length kv1;simpa using this
  have hiw:i<ws.length:=by omega
  obtain ⟨f0,f1,f2,f3,f4,f5⟩:=hf it (by simp)
  rw [<- lw] at st
  refine wpAny_pyNext_dict_item st hat (k:=ws[i].1) (v:=ws[i].2) (List.getElem?_eq_getElem hiw) fun key h' hkey st' sb=>?_
  have I1:L2.Inv X pins σ H { s with heap:=h' }:=I.turned (t':=s.toks) (fun b o hb e=>(sb.2 b hb).trans e) f0 f1 f3 f4 f5
  obtain ⟨o,e,c,q⟩:=id st'
  rw [lw] at st'
  have hk:(kvs[i]'hi).1=ws[i].1:=by
   have h1:(ws.map (·.1))[i]?=(kvs.map (·.1))[i]?:=by rw [kv1]
   rw [getElem?_map,getElem?_map,List.getElem?_eq_getElem hiw,List.getElem?_eq_getElem hi] at h1
   exact (Option.some.inj h1).symm
  have rel:RelV (kV (kvs[i]'hi).1) key:=by
   rw [hk]
   rcases ybl hkey with ⟨i,tk,g1,g2⟩|⟨y,tk,g1,g2⟩
   .rw [g1,g2];exact ⟨tk,rfl⟩
   .rw [g1,g2];exact ⟨tk,rfl⟩
  exact ⟨key,rfl,ypx (s:={ s with heap:=h' }) e c q (by decide) ⟨kV (kvs[i]'hi).1,H,I1,rel,⟨rfl,_,List.getElem?_eq_getElem hi,rfl⟩,st',fun b hb=>(hf b hb).1⟩⟩
 done:=by
  intro X hP hw hK hc i pins s σ H E I hf st hg
  subst hP hw hK
  obtain ⟨hi,hH⟩:=hg
  subst hi
  obtain ⟨hob,z,sy,ws,kv,hD⟩:=I.hok d _ hH
  obtain ⟨ep',hat⟩:=hD.dictAt
  obtain ⟨o',es',ho',hx1,hx2,hx3⟩:=id hat
  rw [hob] at ho';cases ho'
  rw [hdat] at hx2;cases hx2
  obtain ⟨kv1,kv2⟩:=yog kv
  have lw:ws.length=kvs.length:=by have:=congrArg length kv1;simpa using this
  obtain ⟨f0,f1,f2,f3,f4,f5⟩:=hf it (by simp)
  rw [<- lw] at st
  exact wpAny_pyNext_dict_end (I.ok.hd hc) st hat (by simp) fun h' eb=>⟨rfl,I.turned (t':=s.toks) (fun b o hb e=>eb b o hb e) f0 f1 f3 f4 f5⟩
 self:=fun _ _ _ _ _ st h=>wpAny_pyIter_keyiter st h
variable {X:Cx}{A:Nat->Addr}{tg a:Expr}{p pos:Pos}{xa:XE}
theorem yxi {ta:TE}(ha:PE X a ta):PI X tg a (yzQ (NF X) ta):=by
 intro pins s σ H R I h
 refine thn (ha pins s σ H _ I h) fun v s1 ⟨x,H1,I1,r1,q1⟩=>?_
 obtain ⟨d,kvs,e,hd,q⟩:=q1
 subst e
 cases r1
 have nf:NF X d:=fun o u z=>by have:=I1.base.frzs d o u z;rw [hd] at this;cases this
 obtain ⟨z,sy,ws,kv,hD⟩:=id (I1.hok d _ hd)
 obtain ⟨ep,hat⟩:=hD.dictAt
 obtain ⟨ob,es,ho,hx1,hx2,hx3⟩:=id hat
 obtain ⟨kv1,kv2⟩:=yog kv
 have lw:ws.length=kvs.length:=by have:=congrArg length kv1;simpa using this
 have I2:=yEd (u1:=.frz ob (.dK kvs)) I1 hd (fun _ z=>by cases z) (fun _ z=>by cases z) (fun _ z=>by cases z) nf fun x=>⟨ho,x⟩
 refine wpAny_pyIter_dict sy hat ?_
 refine ⟨s1.heap.objs.size,[s1.heap.objs.size],_,_,_,rfl,I2.kept (t':=s1.toks) fun b o e=>Heap.get?_push_of_some _ e,yrc d _ ob kvs hx2,⟨_,Heap.get?_push_size _ rfl,rfl,by rw [lw];rfl⟩,fun b hb=>?_,q ob nf⟩
 have e:b=s1.heap.objs.size:=by simpa using hb
 subst e
 exact I2.fpOk (Nat.le_refl _) (I2.hok.fresh (Nat.le_refl _))
end
end PX
namespace PX
open PySem L2 PySem.Spec PyProof.Rows
section
variable {X:Cx}{A:Nat->Addr}
theorem yxj:MtR X "str.find" ypU:=by
 intro pins s σ H x xs v us Q I rx rv h
 obtain ⟨z,c,rfl,rfl,hz,hm,q⟩:=h
 obtain ⟨t,rfl⟩:=rx
 obtain ⟨u,rfl,tu,rfl⟩:=vals1 rv
 rcases ypV z c with ⟨_,h2⟩|⟨r,h1,_⟩
 .exact absurd hm h2
 .refine SC.find ?_
  have e:(Txt.find z ⟨#[c]⟩:Int)=((z.cps.toList.idxOf c:Nat):Int):=by
   unfold Txt.find
   rw [h1]
  rw [e]
  exact ⟨.int _,H,I.tok _,⟨_,rfl⟩,q⟩
variable {pos p apos:Pos}{x m:Str}{e:Expr}{es:List Expr}{aa:XA}{n:Nat}
theorem yAd {a:Addr}{ss:List Str}(hm:X.mg x=some (.ref a)) (hk:KTp X.K a (ss.map V.str)) (nm:Nm x:=by exact ⟨by rfl',by rfl',by rfl'⟩) (hg:Gl X x:=by rfl):ZE X A (.Name x pos) (xC (.tup (ss.map PV.str))):=wE (yme hg hm nm.d) (ytL (K:=ckX X A) hk)
structure ytV (K:PySem.W.Frag) (C:Addr) (m:Str) (f:Addr):Prop where
 rd:PySem.W.readsIn K C (.type "type")=true
 fc:PySem.W.findCls K (.ref C) (.type "type") m=some (.val (.ref f))
 sp:PySem.W.specialIn K (.ref C) "__getattribute__" = some (some (.builtin "type.__getattribute__"))
 kp:keepIn K (.ref f)=true
theorem yxk {C f:Addr}{k:Nat}{fd:FuncData}{ps:List Str}{sp:Sp}{E:XK}{t:TA}{pl:Sem Bool}{CX:CXT}(c:ytV X.K C m f) (hg:Gl X x) (hm:X.mg x=some (.ref C)) (F:FnOk X.prog X.w X.K X.mg X.base CX k f fd ps sp) (hr:Room k X.A) (hb:Binds X.K fd ps []) (hx:yfD CX X E) (ha:PA X (e::es) t)
  (hd:(x == ("__debug__":Str))=false)
  (hst:starEach (e::es) X.env=(false,eval e X.env)::starEach es X.env) (hpl:(backTo pos (starEach es X.env)).any (·.1)=false)
  (ht:eval (.Call (.Attribute (.Name x p) m apos) (e::es) [] pos) X.env=(do
   let ov <- eval (.Name x p) X.env
   standAt apos.atName
   let (f,first) <- holding [ov] (getMethod ov m pl)
   callWith pos f first (backTo pos (starEach (e::es) X.env)) (backToKw pos (keywordEach [] X.env)))) :
  PE X (.Call (.Attribute (.Name x p) m apos) (e::es) [] pos) (ysE sp [] E t):=by
 intro pins s σ H Q I h
 refine PySem.W.methodCall_KW (pl:=pl) (thn (yme (X:=X) hg hm hd pins s σ H (fun v H1=>v=.ref C/\H1=H) I ⟨rfl,rfl⟩) fun u s1 ⟨v,H1,I1,rx,ex,eh⟩=>?_) ht
 subst ex eh
 obtain rfl:u=Value.ref C:=rx
 refine PySem.W.method_cls I1.kIn c.sp (PySem.W.cls_value I1.kIn c.rd c.fc rfl ?_)
 have I1:=I1.tok (s1.toks+1)
 refine PySem.W.callWith_K (first:=[]) (h₀:=X.base) I.ok.mod.kin c.kp (thn (ha pos pins _ σ H1 _ I1 h) fun us s2 ⟨vs,H2,I2,r,q2⟩=>⟨I2.kIn,?_⟩) hst hpl
 exact ykl (us:=us) (vs:=vs) F hr hb .nil hx I2 r q2
theorem yxl {C f:Addr}{lv k:Nat}{fd:FuncData}{ps:List Str}{fi} {pl:Sem Bool}{o:Expr}{sp:Pos}(c:ytV X.K C m f) (hm:X.mg x=some (.ref C)) (F:FnOk X.prog X.w X.K X.mg X.base CX0 lv f fd ps (spJ (ckX X A) n k fi)) (hb:Binds X.K fd ps []) (ha:ZA X A es n aa) (nm:Nm x:=by exact ⟨by rfl',by rfl',by rfl'⟩) (hg:Gl X x:=by rfl) (hr:Room lv X.A:=by exact hr.mono (by omega)) (ho:PE X o (ypn 0):=by exact yiB rfl (by first|exact Or.inl rfl|exact Or.inr (Or.inl rfl)) (by rfl') (by rfl')) (hst:starEach (o::es) X.env=(false,eval o X.env)::starEach es X.env:=by rfl) (hpl:(backTo pos (starEach es X.env)).any (·.1)=false:=by rfl) (ht:eval (.Call (.Attribute (.Name x p) m apos) (o::es) [] pos) X.env=(do
   let ov <- eval (.Name x p) X.env
   standAt apos.atName
   let (f,first) <- holding [ov] (getMethod ov m pl)
   callWith pos f first (backTo pos (starEach (o::es) X.env)) (backToKw pos (keywordEach [] X.env))):=by rfl) (hq:swapsWith (.Call (.Attribute (.Name x p) m apos) (o::es) [] pos) none sp.line X.env=pure false:=by rfl):ZF X A (.Expr (.Call (.Attribute (.Name x p) m apos) (o::es) [] pos) sp) (xBI k fi aa) :=
 wF (yjd (yxk (E:=fun _ _ _=>False) c hg hm F hr hb yks (yfm ho ha.of hst) nm.d hst hpl ht) hq) (ywV (K:=ckX X A) sA ha.len)
end
section
variable {P:Program}{w:World}{K:PySem.W.Frag}{mg:Str->Option Value}{base:Heap}{A:Nat->Addr}
theorem yEC {x qual:Str}{st:Stmt}{f:Addr}{fd:FuncData}{N ps:List Str}{k kc n:Nat}{s:XS}(F:Fun K x qual st f fd) (S:yei N ps (ybE st)) (hn:ps.length=n+1) (hN:n+1<=N.length)
  (h:∀ (cdv:Value) (Ar:Around) (outer:List Env) (sh:Shared) (H:Hp) (E:XK),Room k (Ar.deeper (envOfC qual (ybE st) sh.heap.objs.size f cdv))->ZFs (ysI CX0 P w K mg base N qual (ybE st) f cdv Ar outer sh H E).nox A (yfn st) s) :
  FnOk P w K mg base CX0 (k+1) f fd ps (spJ ⟨K,A⟩ n kc (ymz N.length kc s)) :=
 F.ok S (fun _ _ _ _ h=>(ywU h).trans hn.symm) fun cdv Ar outer sh H vs Q E hr hq=>⟨_,(h cdv Ar outer sh H E hr).of,yqM (K:=⟨K,A⟩) hN sF hq⟩
end
end PX
namespace PX
open PySem L2 PySem.Spec PyProof.Rows
section
variable {X:Cx}{A:Nat->Addr}
end
end PX
namespace PX
open PySem L2 PySem.Spec PyProof.Rows
section
variable {prog:Program}{w:World}{A:Around}{E:Value->Shared->Prop}{s:Shared}
end
section
variable {X:Cx}{A:Nat->Addr}
end
end PX
namespace PX
open PySem L2 PySem.Spec PyProof.Rows
open Builtin Builtin.Str in
section
variable {prog:Program}{w:World}{A:Around}{E:Value->Shared->Prop}{s:Shared}
theorem yoW {x y:Str}{t u:Tok}{Q:Value->Shared->Prop}(hy:(y.length == 0)=false) (hz:x.length+2<=sizeLine)
  (h:∀ (l:List (Str×Tok)) (k:Nat),l.map (·.1)=Txt.split x y->Q (.ref s.heap.objs.size) { s with heap:=s.heap.push { cls:=.type "list",data:=.seq (strValues l).toArray },toks:=k }) :
  wpAny (model prog w) A (call (.builtin "str.split") [.str x t,.str y u]) Q E s:=by
 have h2:(partsBetween x (occurrences x y 0 x.length (x.length+1)) y.length).length<=sizeLine:=by
  have:=StrLaws.occ_length_le x y 0 x.length (x.length+1)
  rw [length_partsBetween]
  omega
 by_cases c1:(decide (x.length<y.length) || decide (strKind x<strKind y))=true
 .exact call_meets F.slot_str_split (typeIs_str _ _ _) F.entry_str_split (F.args_str_split_2 _ _) (meets_str_split_cannot_occur x y t u c1) (h [(x,t)] s.toks (if_pos c1).symm)
 .have c1':(decide (x.length<y.length) || decide (strKind x<strKind y))=false:=by simpa using c1
  by_cases c2:(occurrences x y 0 x.length (x.length+1)).isEmpty=true
  .exact call_meets F.slot_str_split (typeIs_str _ _ _) F.entry_str_split (F.args_str_split_2 _ _) (meets_str_split_not_found x y t u c1' hy c2) (h [(x,t)] s.toks ((if_neg c1).trans (if_pos c2)).symm)
  .refine call_meets F.slot_str_split (typeIs_str _ _ _) F.entry_str_split (F.args_str_split_2 _ _) (meets_str_split_sep x y t u c1' hy (by simpa using c2) (by omega) h2) ?_
   show wants Q E _ { s with toks:=_,heap:=s.heap.push { cls:=.type "list",data:=.seq (strsFrom s.toks (partsBetween x (occurrences x y 0 x.length (x.length+1)) y.length)).toArray } }
   rw [strsFrom_eq]
   exact h _ _ ((numbered_texts _ _).trans ((if_neg c1).trans (if_neg c2)).symm)
end
theorem yoi (z:Str):Txt.split z " " = yqO z:=by
 have e:(" ":Str)=⟨#[32]⟩:=by rfl'
 have h:=yhD (Txt.split z " ") (fun q=>by have:=split_pos z " ";rw [q] at this;simp at this) (by rw [e];exact StrLaws.split_free z 32)
 rw [StrLaws.join_split] at h
 exact h.symm
theorem ylh:∀ (l:List (Str×Tok)),Vals ((l.map (·.1)).map V.str) (strValues l)
 | []=>.nil
 | (_,t)::l=>.cons ⟨t,rfl⟩ (ylh l)
section
variable {X:Cx}{A:Nat->Addr}
theorem ytW:MtR X "str.split" yvn:=by
 intro pins s σ H x xs v us Q I rx rv h
 obtain ⟨z,rfl,rfl,hz,q⟩:=h
 obtain ⟨t,rfl⟩:=rx
 obtain ⟨u,rfl,ru⟩:=vals1 rv
 obtain ⟨t',rfl⟩:=ru
 have hs:z.length+2<=sizeLine:=by simp only [PySem.sizeLine_eq];omega
 refine yoW (by decide) hs fun l k e=>?_
 have e2:l.map (·.1)=yqO z:=e.trans (yoi z)
 have e3:=split_le z " "
 rw [yoi] at e3
 refine ⟨.ref s.heap.objs.size,_,I.laid (t':=k) (o:=.lst ((yqO z).map V.str)) (fun b o e=>Heap.get?_push_of_some _ e) (Nat.le_refl _) ?_,rfl,q _ (I.hok.fresh (Nat.le_refl _))⟩
 exact ⟨by rw [length_map];exact Nat.le_trans e3 hs,strValues l,0,e2 ▸ ylh l,Heap.get?_push_size _ rfl⟩
end
section
variable {X:Cx}{pins:List (Addr×Obj)}{σ:L2.St}{H:Hp}{s:Shared}{h':Heap}
end
section
variable {X:Cx}{A:Nat->Addr}{elts:List Expr}{x1:Nat}{tp p pos:Pos}{a b:Expr}{aa:XA}{n:Nat}
end
section
variable {X:Cx}{A:Nat->Addr}{pos:Pos}
end
end PX
namespace PX
open PySem L2 PySem.Spec PyProof.Rows
section
variable {X:Cx}{A:Nat->Addr}{a:Expr}{es:List Expr}{p pos:Pos}{x:Str}{aa:XA}{n lv:Nat}{f:Addr}{fd:FuncData}{ps:List Str}{fn:Fn}
end
end PX
namespace PX
open PySem L2 PySem.Spec PyProof.Rows
section
variable {X:Cx}{A:Nat->Addr}{tg a b c:Expr}{p pos:Pos}{aa:XA}{n:Nat}
end
end PX
namespace PX
open PySem L2 PySem.Spec PyProof.Rows
section
variable {X:Cx}{A:Nat->Addr}{tg a:Expr}{p pos:Pos}{xa:XE}{x:Str}{es:List Expr}{aa:XA}{n:Nat}
theorem yrd {f:Addr}{fd:FuncData}{ps:List Str}{lv k:Nat}{fn:Fn}(M:Mk X.K (A k) f) (F:FnOk X.prog X.w X.K X.mg X.base CX0 lv f fd ps (spE (ckX X A) (n+1+1) fn)) (hm:X.mg x=some (.ref (A k))) (hb:Binds X.K fd ps []) (ha:ZA X A (a::es) (n+1) aa) (hr:Room (lv+1) X.A:=by exact hr.mono (by omega)) (m:Nm x:=by exact ⟨by rfl',by rfl',by rfl'⟩) (hg:Gl X x:=by rfl) (he:starEach (a::es) X.env=(false,eval a X.env)::starEach es X.env:=by rfl) (hpl:(backTo pos (starEach es X.env)).any (·.1)=false:=by rfl):ZE X A (.Call (.Name x p) (a::es) [] pos) (yhE k fn aa) :=
 wE (ypK M F hr hg hm hb .nil yks ha.of m.d he hpl) (yqQ (K:=ckX X A) (k:=k) sA ha.len)
theorem yoj (hc:X.calm=true):yfk X (.builtin "any") yEc:=by
 intro pins s σ H xs us Q I r h
 obtain ⟨p,bs,rfl,hp,q⟩:=h
 obtain ⟨u,rfl,rx⟩:=vals1 r
 cases rx
 obtain ⟨its,n,rv,e,hz⟩:=I.lst hp
 have eb:=yji rv
 subst eb
 have hl:s.heap.IsList p (bs.map Value.bool).toArray:=⟨_,e,rfl,n,rfl⟩
 have hlt:p<s.heap.objs.size:=Heap.lt_size e
 refine call_any_walk (wpAny_pyIter_list hl ?_)
 refine ⟨s.heap.objs.size,[s.heap.objs.size,p],[s.heap.objs.size],(bs.map Value.bool).toArray.size,_,_,fun i=>(bs[i]?).getD false,rfl,Walks.list (A:=X.A.in1) (I.ok.hd hc) _ p (ne_of_lt hlt) _,
  ⟨⟨_,Heap.get?_push_size _ rfl,rfl,rfl⟩,hl.push _⟩,fun i v s' Q' E' hP hQ=>?_,fun h' tk hk=>?_⟩
 .have hP:(bs.map Value.bool)[i]?=some v:=by simpa using hP
  rw [getElem?_map] at hP
  cases eb:bs[i]? with
  | none=>rw [eb] at hP;cases hP
  | some b =>
   rw [eb] at hP
   cases hP
   simp only [eb,Option.getD_some] at hQ
   exact wpAny_truthy_bool hQ
 .have ea:((List.range (bs.map Value.bool).toArray.size).any fun i=>(bs[i]?).getD false)=bs.any id:=by
   rw [size_toArray,length_map]
   exact LSm.range_any bs
  rw [ea]
  exact ⟨.bl _,H,I.kept (t':=tk) fun b o eo=>hk b o (fun hm=>by rw [List.mem_singleton.mp hm] at eo;exact absurd (Heap.lt_size eo) (lt_irrefl _)) (Heap.get?_push_of_some _ eo),rfl,q⟩
theorem yxm {elt iter:Expr}{px:Pos}{scope:Scope}{cpos:Pos}{xe:XE}{ix:List Nat}(fr:List Str) (hi:ZE X A iter xa) (he:∀ (cl:List (Str×Addr)) (C:Addr) (s₃:Shared) (H₃:Hp) (fp:List Addr) (pins:List (Addr×Obj)),ZE (cxC X scope cl C (x::fr) s₃ H₃ fp pins) A elt xe) (hc:X.calm=true:=by rfl) (hfr:FrOk X scope ix fr:=by repeat' first|exact True.intro|exact rfl|refine And.intro ?_ ?_) (hnd:(x::fr).Nodup:=by rfl') (hkind:scope.kind=.function:=by rfl) (hcell:∀ y∈scope.names,y.2≠.cell:=by rfl') (hnames:∀ y∈scope.names,y.2=.local->scope.names.lookup y.1=some .local:=by rfl') (hfree0:∀ y∈scope.names,y.2=.free->y.1∈fr:=by rfl') (hx:scope.names.lookup x=some .local:=by rfl) (hs:∀ v,foldedSetIterable iter X.env v=pure v:=by exact fun _=>rfl):ZO X A (.ListComp elt [⟨.Name x px,iter,[],0⟩] scope cpos) (yle xa ix xe) :=
 wO (ywX (yhc ix fr hc (ylR hi.of) hfr (te:=cE (ckX X A) xe) (fun cl C s₃ H₃ fp pins=>(he cl C s₃ H₃ fp pins).of) (fun _ _ _ _ _ _=>.nil) hnd hkind hcell hnames hfree0 hx hs)) (yqR (K:=ckX X A) ix sE sE)
end
end PX
namespace PX
open PySem L2 PySem.Spec PyProof.Rows KasS PXS
section
variable {X:Cx}{A:Nat->Addr}{xa:XE}{x:Str}
theorem yxn {elt iter:Expr}{px:Pos}{scope:Scope}{cpos:Pos}{xe:XE}{ix:List Nat}(fr:List Str) (hi:ZE X A iter xa) (he:∀ (cl:List (Str×Addr)) (C:Addr) (s₃:Shared) (H₃:Hp) (fp:List Addr) (pins:List (Addr×Obj)),ZE (cxC X scope cl C (x::fr) s₃ H₃ fp pins) A elt xe) (hc:X.calm=true:=by rfl) (hfr:FrOk X scope ix fr:=by repeat' first|exact True.intro|exact rfl|refine And.intro ?_ ?_) (hnd:(x::fr).Nodup:=by rfl') (hkind:scope.kind=.function:=by rfl) (hcell:∀ y∈scope.names,y.2≠.cell:=by rfl') (hnames:∀ y∈scope.names,y.2=.local->scope.names.lookup y.1=some .local:=by rfl') (hfree0:∀ y∈scope.names,y.2=.free->y.1∈fr:=by rfl') (hx:scope.names.lookup x=some .local:=by rfl) (hs:∀ v,foldedSetIterable iter X.env v=pure v:=by exact fun _=>rfl):ZO X A (.ListComp elt [⟨.Name x px,iter,[],0⟩] scope cpos) (yiO xa ix xe):=by
 have pe:PE X (.ListComp elt [⟨.Name x px,iter,[],0⟩] scope cpos) (yvo (NF X) (cE (ckX X A) xa) ix (cE (ckX X A) xe)):=by
  intro pins s σ H Q I h
  refine thn (ywX (yhc ix fr hc (yxi hi.of) hfr (te:=cE (ckX X A) xe) (fun cl C s₃ H₃ fp pins=>(he cl C s₃ H₃ fp pins).of) (fun _ _ _ _ _ _=>.nil) hnd hkind hcell hnames hfree0 hx hs) pins s σ H _ I h) fun v s1 ⟨y,H1,I1,r1,d,ob,kvs,nf,hd,q⟩=>?_
  exact ⟨y,_,yEd (u1:=.dK kvs) I1 hd (fun _ z=>by cases z) (fun _ z=>by cases z) (fun _ z=>by cases z) nf fun x=>x.2,r1,q⟩
 exact wO pe (yqS (K:=ckX X A) ix sE sE)
end
end PX
namespace My
open PySem L2 PX
theorem yEe:("":Str).length=0:=by rfl'
theorem yEf:(" ; let c ":Str).length=9:=by rfl'
theorem yEg:(" ; put a c":Str).length=10:=by rfl'
theorem yAe:(" ; put d a ; either ( take c d ) or ( wait )":Str).length=44:=by rfl'
theorem yAf:(" ; put d a ; take c d":Str).length=21:=by rfl'
theorem yAg:(" ; take c d":Str).length=11:=by rfl'
theorem yxo:("abcdefgh":Str).length=8:=by rfl'
theorem yxp:("let a ":Str).length=6:=by rfl'
theorem yxq:("let d ":Str).length=6:=by rfl'
section
def sl_ (s:String):Array (Lean.TSyntax `Lean.Parser.Tactic.simpLemma):=(s.splitOn " ").toArray.map fun s=>⟨Lean.mkNode `Lean.Parser.Tactic.simpLemma #[Lean.mkNullNode,Lean.mkNullNode,Lean.mkIdent s.toName]⟩
local macro_rules | `(tactic| simp_all? only [$ls,*])=>`(tactic| simp only [$(sl_ "ybq yCc yzp yzq yzr x_c yCe yCf yEv yDT ywF yvd yzs yCg yEw yCh yEx ytp yzt yCi yCj yBq yCk yCl x_call yEy yCm yzu ywG yzv yve ydq yel yCn ynJ yqv yzw ytq yzx yzy yCo yCp yCq yCr yzz yCs yCt x_i yDU yjr ynK yzA yCu yio yCv yCw yzB yCx yzC ykS ykT yCy yzD yCz yCA yzE yzF yCB yzG ytr yqw yzH yzI yvf ywH yvg yCd bind_some Option.bind_none List.set_cons_zero List.set_cons_succ length_cons length_nil decide_eq_true_eq Bool.not_eq_true' decide_eq_false_iff_not if_true if_false ite_true ite_false and_self Int.reducePow Int.reduceToNat Int.reduceLT Int.reduceLE Int.reduceNeg Int.reduceAdd Int.reduceSub Nat.reduceLT Nat.reduceLeDiff Nat.reduceAdd true_and and_true reduceIte Nat.reduceEqDiff eq_self yDW yEB yCE yCF yCG yCH Int.reduceEq Bool.not_true Bool.not_false yAe yAf yAg yxo yxp yxq"),*,$ls,*])
local macro_rules | `(tactic| symm)=>`(tactic| simp_all? only [ybq])
def tbO (cs:List Nat):List (Nat×Nat×Bool):=cs.flatMap fun i=>cs.map fun j=>(i,j,i == j)
def yeG:List (Nat×Nat×Bool):=tbO [1,2,3,4,5,6,7,8,9]
def yff:List PV->AH->Option (Nd×AH):=ymz 1 11 (ym (ycB [11] 0 "stack" (yfG (ycR (yb (yfG (yoR)) (yh))))) (ycB [11] 0 "last_seen" (yfG (yoR))))
def yen:Fn:=ybo 4 (ym (ybn (xOp (ycu) (ybd [11] "stack" (ye 0)) (xUn yvb (xC (.int 1)))) (yt 3)) (yjw (ye 3) (ye 1) (ye 2)))
def ydY:Fn:=ybo 3 (ym (yjC true (ybd [11] "stack" (ye 0)) (yt 2) (ybx (yq (yyd false (ye 1) (ye 2))) (yR (yhx (ye 2) (ye 1))) (yJ))) (yR (xC .non)))
def yeo:Fn:=ybo 1 (ybf (xBM yfs (ygM) (ybd [11] "stack" (ye 0)) (yb (yfG (yoR)) (yh))))
def ydI:Fn:=ybo 3 (ym (ybn (xBM yfs (ygN) (ybd [11] "stack" (ye 0)) (yh)) (yt 1)) (ym (ybn (xOp (ycu) (ybd [11] "stack" (ye 0)) (xUn yvb (xC (.int 1)))) (yt 2)) (ybf (xBM yoV (yyf) (ye 2) (yb (ye 1) (yh))))))
def yeT:Fn:=ybo 1 (ybf (xBM yfs (ygN) (ybd [11] "stack" (ye 0)) (yh)))
def yfO:Fn:=ybo 3 (yjw (ybd [11] "last_seen" (ye 0)) (ye 1) (ye 2))
def yeH:Fn:=ybo 1 (yR (xFz (yiN (ybd [11] "last_seen" (ye 0)))))
def yep:Fn:=ybo 2 (ym (ybn (xOp (ycu) (ybd [11] "stack" (ye 0)) (xC (.int 0))) (yt 1)) (yR (xFz (yiN (ye 1)))))
def yhe:Fn:=ybo 3 (ym (ybx (yq (xOp (oEq) (ye 0) (xC (.str "plus")))) (yR (xOp oMod (xOp ydp (ye 1) (ye 2)) (xC (.int 18446744073709551616)))) (yJ)) (ym (ybx (yq (xOp (oEq) (ye 0) (xC (.str "minus")))) (yR (xOp oMod (xOp ysn (ye 1) (ye 2)) (xC (.int 18446744073709551616)))) (yJ)) (ym (ybx (yq (xOp (oEq) (ye 0) (xC (.str "times")))) (yR (xOp oMod (xOp yzd (ye 1) (ye 2)) (xC (.int 18446744073709551616)))) (yJ)) (ym (ybx (yq (xOp (oEq) (ye 0) (xC (.str "less")))) (yR (xIf (yq (xOp (oLt) (ye 1) (ye 2))) (xC (.int 1)) (xC (.int 0)))) (yJ)) (yR (xIf (yq (xOp (oEq) (ye 1) (ye 2))) (xC (.int 1)) (xC (.int 0))))))))
def ydZ:Fn:=ybo 1 (yR (yfF (xCB (ykh yeG) (yb (ye 0) (yb (xC (.ty "int")) (yh)))) (ywd (xCB (ykh yeG) (yb (ye 0) (yb (xC (.ty "bool")) (yh)))))))
def ycV:Fn:=ybo 1 (yR (yfF (yY ydZ (yb (ye 0) (yh))) (yeZ (oLe) (oLt) (xC (.int 0)) (ye 0) (xC (.int 18446744073709551616)))))
def yde:Fn:=ybo 2 (yR (xCB (yvc) (yb (xFz (yeD (xIS (ye 0)) [1] (xOp (yBo) (ye 0) (ye 1)))) (yh))))
def yeq:Fn:=ybo 2 (ym (ybx (xOr (ykP (yq (yeZ (oLe) (oLe) (xC (.int 1)) (xCB (ymw) (yb (ye 0) (yh))) (xC (.int 20))))) (ykP (yq (yY yde (yb (ye 0) (yb (xC (.str "0123456789")) (yh))))))) (yR (xC .non)) (yJ)) (ym (ybx (yuW (yq (xOp (oEq) (xOp (yzh) (ye 0) (xC (.int 0))) (xC (.str "0")))) (yq (xOp (oNe) (ye 0) (xC (.str "0"))))) (yR (xC .non)) (yJ)) (ym (ybn (xCB (yqs) (yb (ye 0) (yh))) (yt 1)) (yR (xIf (yq (xOp (oLt) (ye 1) (xC (.int 18446744073709551616)))) (ye 1) (xC .non))))))
def yhH:Fn:=ybo 1 (yR (xOp (yqE false) (ye 0) (xC (.tup [.str "plus",.str "minus",.str "times",.str "less",.str "same"]))))
def yhI:Fn:=ybo 1 (yR (yfF (xOp (oEq) (xCB (ymw) (yb (ye 0) (yh))) (xC (.int 1))) (xOp (yBo) (ye 0) (xC (.str "abcdefgh")))))
def ydJ:Fn:=ybo 1 (yR (xBM isStr (ymy) (xC (.str "abcdefgh")) (yb (ye 0) (yh))))
def yhJ:Fn:=ybo 1 (yR (yfF (yeZ (oLe) (oLe) (xC (.int 1)) (xCB (ymw) (yb (ye 0) (yh))) (xC (.int 8))) (yY yde (yb (ye 0) (yb (xC (.str "abcdefghijklmnopqrstuvwxyz")) (yh))))))
def yeI:List PV->AH->Option (Nd×AH):=ymz 3 12 (ym (ycB [12] 0 "held" (yfG (yil (ybg) (yb (ye 1) (yh))))) (ym (ycB [12,14] 0 "width" (ye 2)) (ycB [12] 0 "log" (yfG (yfJ yff (yh))))))
def ybi:Fn:=ybo 2 (yR (xOp (ycu) (ybd [12] "held" (ye 0)) (yY ydJ (yb (ye 1) (yh)))))
def ybW:Fn:=ybo 3 (ygO (ybd [12] "held" (ye 0)) (yY ydJ (yb (ye 1) (yh))) (ye 2))
def ybL:Fn:=ybo 2 (yR (xOp oMod (yk 12 "held_in" ybi (ye 0) (yb (ye 1) (yh))) (ybd [12,14] "width" (ye 0))))
def yca:Fn:=ybo 5 (ybf (yk 12 "hold" ybW (ye 0) (yb (ye 2) (yb (yY yhe (yb (ye 1) (yb (yk 12 "held_in" ybi (ye 0) (yb (ye 3) (yh))) (yb (yk 12 "held_in" ybi (ye 0) (yb (ye 4) (yh))) (yh))))) (yh)))))
def ycM:Fn:=ybo 3 (ybf (yk 11 "write" yen (ybd [12] "log" (ye 0)) (yb (yk 12 "box_at" ybL (ye 0) (yb (ye 1) (yh))) (yb (yk 12 "held_in" ybi (ye 0) (yb (ye 2) (yh))) (yh)))))
def ycZ:Fn:=ybo 2 (yR (xOp (ywA) (yk 11 "own" ydY (ybd [12] "log" (ye 0)) (yb (yk 12 "box_at" ybL (ye 0) (yb (ye 1) (yh))) (yh))) (xC .non)))
def yci:Fn:=ybo 3 (ybf (yk 12 "hold" ybW (ye 0) (yb (ye 1) (yb (yk 11 "own" ydY (ybd [12] "log" (ye 0)) (yb (yk 12 "box_at" ybL (ye 0) (yb (ye 2) (yh))) (yh))) (yh)))))
def ycy:Fn:=ybo 5 (ym (ybn (yk 12 "box_at" ybL (ye 0) (yb (ye 2) (yh))) (yt 4)) (ym (ybf (yk 11 "see" yfO (ybd [12] "log" (ye 0)) (yb (ye 4) (yb (xOp (ycu) (ye 3) (ye 4)) (yh))))) (ybf (yk 12 "hold" ybW (ye 0) (yb (ye 1) (yb (xOp (ycu) (ye 3) (ye 4)) (yh)))))))
def yhK:Fn:=ybo 2 (ym (ybx (yq (xOp (oEq) (xOp (ybb) (ye 1) (xC (.int 0))) (xC (.str "wait")))) (yR (xOp (oEq) (xOp (ybb) (ye 0) (xC (.int 0))) (xC (.str "either")))) (yJ)) (yR (yfF (xOp (oEq) (xOp (ybb) (ye 0) (xC (.int 0))) (xC (.str "guard"))) (xOp (oEq) (xOp (ybb) (ye 0) (xC (.int 1))) (xOp (ybb) (ye 1) (xC (.int 1)))))))
def ydQ:List PV->AH->Option (Nd×AH):=ymz 4 12 (ym (xBI 12 yeI (yb (ye 2) (yb (ye 3) (yh)))) (ym (ycB [12] 0 "rows" (ye 1)) (ym (ycB [10,12] 0 "at" (xC (.int 0))) (ym (ycB [12] 0 "seen_stamps" (yfG (yoR))) (ycB [12] 0 "sides" (yfG (ycR (yh))))))))
def ydz:Fn:=ybo 1 (yR (xOp (ycu) (ybd [12] "rows" (ye 0)) (ybd [10,12] "at" (ye 0))))
def ycv:Fn:=ybo 2 (yR (xCB (ytM) (yb (xFz (yiO (ybd [12] "seen_stamps" (ye 0)) [1,0] (xOp (oNe) (xOp (ycu) (ye 1) (ye 0)) (yhx (ybd [12] "seen_stamps" (ye 2)) (ye 0))))) (yh))))
def ybh:Fn:=ybo 3 (ym (ybn (xCB (ycg) (yb (ybd [12] "sides" (ye 0)) (yh))) (yt 2)) (ym (yfa 1000 (yuW (yq (xOp (oGt) (ye 2) (xC (.int 0)))) (ykP (yq (yY yhK (yb (xOp (ybb) (xOp (ycu) (ybd [12] "sides" (ye 0)) (xOp ysn (ye 2) (xC (.int 1)))) (xC (.int 0))) (yb (ye 1) (yh))))))) (ybn (xOp ysn (ye 2) (xC (.int 1))) (yt 2))) (yR (ye 2))))
def loB:XS:=(ym (ybx (yq (xOp (oEq) (xOp (ybb) (ye 1) (xC (.int 0))) (xC (.str "take")))) (yR (yk 12 "sees_at" ycZ (ye 0) (yb (xOp (ybb) (ye 1) (xC (.int 2))) (yh)))) (yJ)) (ym (ybx (xOr (yq (xOp (oEq) (xOp (ybb) (ye 1) (xC (.int 0))) (xC (.str "wait")))) (yq (xOp (oEq) (xOp (ybb) (ye 1) (xC (.int 0))) (xC (.str "throw"))))) (yR (xOp (oEq) (yk 12 "taker_layer" ybh (ye 0) (yb (ye 1) (yh))) (xC (.int 0)))) (yJ)) (yR (xOp (oEq) (xOp (ybb) (ye 1) (xC (.int 0))) (xC (.str "lay"))))))
def ybp:Fn:=ybo 2 (ym (ybn (yk 12 "row" ydz (ye 0) (yh)) (yt 1)) loB)
def yda:Fn:=ybo 5 (ym (ybn (yk 12 "row" ydz (ye 0) (yh)) (yt 3)) (ym (ybn (yk 12 "box_at" ybL (ye 0) (yb (xOp (ybb) (ye 3) (xC (.int 2))) (yh))) (yt 4)) (ym (yjw (ybd [12] "seen_stamps" (ye 0)) (ye 4) (xOp (ycu) (ye 2) (ye 4))) (ym (ybf (yk 12 "take_seen" ycy (ye 0) (yb (xOp (ybb) (ye 3) (xC (.int 1))) (yb (xOp (ybb) (ye 3) (xC (.int 2))) (yb (ye 1) (yh)))))) (ym (ydd [10,12] "at" (ye 0) (xOp ydp (ybd [10,12] "at" (ye 0)) (xC (.int 1)))) (yR (ye 4)))))))
def yC:Fn:=ybo 2 (ybx (yq (xOp (oEq) (xOp (ybb) (ye 1) (xC (.int 0))) (xC (.str "let")))) (ybf (yk 12 "hold" ybW (ye 0) (yb (xOp (ybb) (ye 1) (xC (.int 1))) (yb (xOp (ybb) (ye 1) (xC (.int 2))) (yh))))) (ybx (yq (xOp (oEq) (xOp (ybb) (ye 1) (xC (.int 0))) (xC (.str "take")))) (ybf (yk 12 "take_own" yci (ye 0) (yb (xOp (ybb) (ye 1) (xC (.int 1))) (yb (xOp (ybb) (ye 1) (xC (.int 2))) (yh))))) (ybx (yq (xOp (oEq) (xOp (ybb) (ye 1) (xC (.int 0))) (xC (.str "put")))) (ybf (yk 12 "do_put" ycM (ye 0) (yb (xOp (ybb) (ye 1) (xC (.int 1))) (yb (xOp (ybb) (ye 1) (xC (.int 2))) (yh))))) (ybf (yk 12 "do_reckon" yca (ye 0) (yb (xOp (ybb) (ye 1) (xC (.int 0))) (yb (xOp (ybb) (ye 1) (xC (.int 1))) (yb (xOp (ybb) (ye 1) (xC (.int 2))) (yb (xOp (ybb) (ye 1) (xC (.int 3))) (yh))))))))))
def ydu:Fn:=ybo 2 (ybx (yq (xOp (oEq) (xOp (ybb) (ye 1) (xC (.int 0))) (xC (.str "jump")))) (ydd [10,12] "at" (ye 0) (xOp (ybb) (ye 1) (xC (.int 1)))) (ydW))
abbrev lvC:XT:=(yq (xOp (oGe) (xCB (ycg) (yb (ybd [12] "sides" (ye 0)) (yh))) (ye 2)))
abbrev lvB:XS:=(ym (ybf (xBM yfs (ygN) (ybd [12] "sides" (ye 0)) (yh))) (ybf (yk 11 "drop" yeT (ybd [12] "log" (ye 0)) (yh))))
def ycj:Fn:=ybo 5 (ym (ybn (yk 12 "taker_layer" ybh (ye 0) (yb (ye 1) (yh))) (yt 2)) (ym (ybn (xOp (ycu) (ybd [12] "sides" (ye 0)) (xOp ysn (ye 2) (xC (.int 1)))) (yt 3)) (ym (yfa 1000 lvC lvB) (ym (ybn (xOp (ybb) (ye 3) (xC (.int 0))) (yt 4)) (ym (ydd [12] "held" (ye 0) (yfG (yil (ybg) (yb (xOp (ybb) (ye 3) (xC (.int 1))) (yh))))) (ym (ydd [10,12] "at" (ye 0) (xOp (ybb) (ye 4) (xUn yvb (xC (.int 1))))) (yR (ye 4))))))))
def ycC:Fn:=ybo 4 (ym (ybn (yk 12 "held_in" ybi (ye 0) (yb (xOp (ybb) (ye 1) (xC (.int 2))) (yh))) (yt 2)) (ym (ybn (yk 12 "leave" ycj (ye 0) (yb (ye 1) (yh))) (yt 3)) (ybf (yk 12 "hold" ybW (ye 0) (yb (xOp (ybb) (ye 3) (xC (.int 2))) (yb (ye 2) (yh)))))))
def goS:XS:=(ym (ybf (xBM yfs (ygN) (ybd [12] "sides" (ye 0)) (yh))) (ybf (yk 11 "settle" ydI (ybd [12] "log" (ye 0)) (yh))))
def goE:XS:=(ym (ybf (xBM yfs (ygM) (ybd [12] "sides" (ye 0)) (yb (ybS (yb (ye 1) (yb (xFz (yil (ybg) (yb (ybd [12] "held" (ye 0)) (yh)))) (yh)))) (yh)))) (ybf (yk 11 "begin" yeo (ybd [12] "log" (ye 0)) (yh))))
def goB:XS:=(ybx (yq (xOp (oEq) (xOp (ybb) (ye 1) (xC (.int 0))) (xC (.str "wait")))) (ybf (yk 12 "leave" ycj (ye 0) (yb (ye 1) (yh)))) (ybx (yq (xOp (oEq) (xOp (ybb) (ye 1) (xC (.int 0))) (xC (.str "throw")))) (ybf (yk 12 "throw" ycC (ye 0) (yb (ye 1) (yh)))) (ybx (xOr (yq (xOp (oEq) (xOp (ybb) (ye 1) (xC (.int 0))) (xC (.str "jump")))) (yq (xOp (oEq) (xOp (ybb) (ye 1) (xC (.int 0))) (xC (.str "unless"))))) (ybf (yk 12 "lead" ydu (ye 0) (yb (ye 1) (yh)))) (ybx (xOr (yq (xOp (oEq) (xOp (ybb) (ye 1) (xC (.int 0))) (xC (.str "either")))) (yq (xOp (oEq) (xOp (ybb) (ye 1) (xC (.int 0))) (xC (.str "guard"))))) goE (ybx (yq (xOp (oEq) (xOp (ybb) (ye 1) (xC (.int 0))) (xC (.str "settle")))) goS (ybf (yk 12 "go_plain" yC (ye 0) (yb (ye 1) (yh)))))))))
def ycr:Fn:=ybo 2 (ym (ybn (yk 12 "row" ydz (ye 0) (yh)) (yt 1)) (ym (ydd [10,12] "at" (ye 0) (xOp ydp (ybd [10,12] "at" (ye 0)) (xC (.int 1)))) goB))
def yck:Fn:=ybo 1 (ym (ybx (yq (xOp (oEq) (ybd [14] "nth" (ye 0)) (xCB (ycg) (yb (ybd [14] "deeds" (ye 0)) (yh))))) (yR (xC (.str "ended"))) (yJ)) (yR (xIf (yq (ybd [14] "sleeps" (ye 0))) (xC (.str "asleep")) (xC (.str "awake")))))
def ycd:Fn:=ybo 2 (ym (ybn (xIf (yq (xOp (oLt) (ybd [14] "nth" (ye 0)) (xCB (ycg) (yb (ybd [14] "deeds" (ye 0)) (yh))))) (xOp (ycu) (ybd [14] "deeds" (ye 0)) (ybd [14] "nth" (ye 0))) (xFz (ycR (yh)))) (yt 1)) (yR (yfG (yfJ ydQ (yb (ye 1) (yb (ybd [14] "before" (ye 0)) (yb (ybd [12,14] "width" (ye 0)) (yh))))))))
def ybU:Fn:=ybo 1 (ym (ydd [14] "sleeps" (ye 0) (xC (.bl false))) (ydd [14] "run" (ye 0) (yk 14 "new_run" ycd (ye 0) (yh))))
def ycf:Fn:=ybo 1 (ydd [14] "sleeps" (ye 0) (xC (.bl true)))
def ydK:Fn:=ybo 2 (ym (ydd [14] "nth" (ye 0) (xOp ydp (ybd [14] "nth" (ye 0)) (xC (.int 1)))) (ym (ydd [14] "before" (ye 0) (xFz (yil (ybg) (yb (ye 1) (yh))))) (ydd [14] "run" (ye 0) (yk 14 "new_run" ycd (ye 0) (yh)))))
def ybz:Fn:=ybo 3 (ym (ydd [14] "deeds" (ye 0) (xFz (yil (ybg) (yb (ye 1) (yh))))) (ym (ydd [12,14] "width" (ye 0) (ye 2)) (ym (ydd [14] "nth" (ye 0) (xC (.int 0))) (ym (ydd [14] "sleeps" (ye 0) (xC (.bl false))) (ym (ydd [14] "before" (ye 0) (xFz (ykO ywB (xFz (ycR (yb (xC (.int 0)) (yh)))) (xCB (ymw) (yb (xC (.str "abcdefgh")) (yh)))))) (ydd [14] "run" (ye 0) (yk 14 "new_run" ycd (ye 0) (yh))))))))
def yfg:List PV->AH->Option (Nd×AH):=ymz 3 1 (ym (ycB [1,2,3,4,7,8] 0 "slot" (ye 1)) (ycB [1] 0 "number" (ye 2)))
def yea:List PV->AH->Option (Nd×AH):=ymz 5 2 (ym (ycB [2] 0 "word" (ye 1)) (ym (ycB [1,2,3,4,7,8] 0 "slot" (ye 2)) (ym (ycB [2] 0 "one" (ye 3)) (ycB [2] 0 "other" (ye 4)))))
def yeJ:List PV->AH->Option (Nd×AH):=ymz 3 3 (ym (ycB [1,2,3,4,7,8] 0 "slot" (ye 1)) (ycB [3,4] 0 "place" (ye 2)))
def yfh:List PV->AH->Option (Nd×AH):=ymz 3 4 (ym (ycB [3,4] 0 "place" (ye 1)) (ycB [1,2,3,4,7,8] 0 "slot" (ye 2)))
def yeb:List PV->AH->Option (Nd×AH):=ymz 3 6 (ym (ycB [6,7] 0 "parts" (xFz (yil (ybg) (yb (ye 1) (yh))))) (ycB [6,7] 0 "others" (xFz (yil (ybg) (yb (ye 2) (yh))))))
def yfi:List PV->AH->Option (Nd×AH):=ymz 5 7 (ym (ycB [6,7] 0 "parts" (xFz (yil (ybg) (yb (ye 1) (yh))))) (ym (ycB [7,8] 0 "name" (ye 2)) (ym (ycB [1,2,3,4,7,8] 0 "slot" (ye 3)) (ycB [6,7] 0 "others" (xFz (yil (ybg) (yb (ye 4) (yh))))))))
def yew:List PV->AH->Option (Nd×AH):=ymz 3 8 (ym (ycB [7,8] 0 "name" (ye 1)) (ycB [1,2,3,4,7,8] 0 "slot" (ye 2)))
def yiQ:Fn:=ybo 1 (yR (xC (.int 1)))
def yfP:Fn:=ybo 1 (yR (xC (.int 1)))
def yhL:Fn:=ybo 1 (yR (xC (.int 1)))
def yiR:Fn:=ybo 1 (yR (xC (.int 1)))
def ygy:Fn:=ybo 1 (yR (xC (.int 1)))
def yhM:Fn:=ybo 1 (yR (xC (.int 1)))
mutual
noncomputable def yli:Nat->Nat->Fn
 | 0,_=>fun _ _=>none
 | n+1,k=>match k with|1=>yiQ|2=>yfP|3=>yhL|4=>yiR|6=>yfQ n|7=>yiS n|8=>ygy|9=>yhM|_=>fun _ _=>none
noncomputable def ybX:Nat->Fn
 | 0=>fun _ _=>none
 | n+1=>ybo 1 (yR (xCB (yzl) (yb (xFz (yeD (xIL (ye 0)) [] (yoP "long" (yli n) (ye 0)))) (yh))))
noncomputable def yfQ:Nat->Fn
 | 0=>fun _ _=>none
 | n+1=>ybo 1 (yR (xOp ydp (xOp ydp (xC (.int 3)) (yY (ybX n) (yb (ybd [6,7] "parts" (ye 0)) (yh)))) (yY (ybX n) (yb (ybd [6,7] "others" (ye 0)) (yh)))))
noncomputable def yiS:Nat->Fn
 | 0=>fun _ _=>none
 | n+1=>ybo 1 (yR (xOp ydp (xOp ydp (xC (.int 3)) (yY (ybX n) (yb (ybd [6,7] "parts" (ye 0)) (yh)))) (yY (ybX n) (yb (ybd [6,7] "others" (ye 0)) (yh)))))
end
def ygz:Fn:=ybo 1 (ym (ybx (yq (xCB (ykh yeG) (yb (ye 0) (yb (xC (.cls 1)) (yh))))) (yR (xFz (ycR (yb (ybS (yb (xC (.str "let")) (yb (ybd [1,2,3,4,7,8] "slot" (ye 0)) (yb (ybd [1] "number" (ye 0)) (yh))))) (yh))))) (yJ)) (ym (ybx (yq (xCB (ykh yeG) (yb (ye 0) (yb (xC (.cls 2)) (yh))))) (yR (xFz (ycR (yb (ybS (yb (ybd [2] "word" (ye 0)) (yb (ybd [1,2,3,4,7,8] "slot" (ye 0)) (yb (ybd [2] "one" (ye 0)) (yb (ybd [2] "other" (ye 0)) (yh)))))) (yh))))) (yJ)) (ym (ybx (yq (xCB (ykh yeG) (yb (ye 0) (yb (xC (.cls 3)) (yh))))) (yR (xFz (ycR (yb (ybS (yb (xC (.str "take")) (yb (ybd [1,2,3,4,7,8] "slot" (ye 0)) (yb (ybd [3,4] "place" (ye 0)) (yh))))) (yh))))) (yJ)) (ym (ybx (yq (xCB (ykh yeG) (yb (ye 0) (yb (xC (.cls 4)) (yh))))) (yR (xFz (ycR (yb (ybS (yb (xC (.str "put")) (yb (ybd [3,4] "place" (ye 0)) (yb (ybd [1,2,3,4,7,8] "slot" (ye 0)) (yh))))) (yh))))) (yJ)) (ym (ybx (yq (xCB (ykh yeG) (yb (ye 0) (yb (xC (.cls 8)) (yh))))) (yR (xFz (ycR (yb (ybS (yb (xC (.str "throw")) (yb (ybd [7,8] "name" (ye 0)) (yb (ybd [1,2,3,4,7,8] "slot" (ye 0)) (yh))))) (yh))))) (yJ)) (ym (ybx (yq (xCB (ykh yeG) (yb (ye 0) (yb (xC (.cls 9)) (yh))))) (yR (xFz (ycR (yb (ybS (yb (xC (.str "wait")) (yh))) (yh))))) (yJ)) (yR (xFz (ycR (yh))))))))))
def yhN:Fn:=ybo 2 (ym (ybx (yq (xCB (ykh yeG) (yb (ye 0) (yb (xC (.cls 5)) (yh))))) (ydW) (yJ)) (ym (ybx (yq (xCB (ykh yeG) (yb (ye 0) (yb (xC (.cls 6)) (yh))))) (yR (ybS (yb (xC (.str "either")) (yb (ye 1) (yh))))) (yJ)) (yR (ybS (yb (xC (.str "guard")) (yb (ybd [7,8] "name" (ye 0)) (yb (ybd [1,2,3,4,7,8] "slot" (ye 0)) (yb (ye 1) (yh)))))))))
def yfj:Fn:=ybo 2 (ym (ybx (yq (xCB (ykh yeG) (yb (ye 0) (yb (xC (.cls 5)) (yh))))) (ydW) (yJ)) (yR (xFz (ycR (yb (ybS (yb (xC (.str "settle")) (yh))) (yb (ybS (yb (xC (.str "jump")) (yb (ye 1) (yh)))) (yh)))))))
mutual
noncomputable def ycW:Nat->Fn
 | 0=>fun _ _=>none
 | n+1=>ybo 4 (ym (yqf (ycR (yh)) 2) (ym (yqg (xIL (ye 0)) (yt 3) (ymE 2 (yY (ydA n) (yb (ye 3) (yb (xOp ydp (ye 1) (yoS 2)) (yh)))))) (yzb 2 (yR (ye 2)))))
noncomputable def ydA:Nat->Fn
 | 0=>fun _ _=>none
 | n+1=>ybo 2 (ym (ybx (xOr (yq (xCB (ykh yeG) (yb (ye 0) (yb (xC (.cls 5)) (yh))))) (xOr (yq (xCB (ykh yeG) (yb (ye 0) (yb (xC (.cls 6)) (yh))))) (yq (xCB (ykh yeG) (yb (ye 0) (yb (xC (.cls 7)) (yh))))))) (yR (yY (ygA n) (yb (ye 0) (yb (ye 1) (yh))))) (yJ)) (yR (yY ygz (yb (ye 0) (yh)))))
noncomputable def ygA:Nat->Fn
 | 0=>fun _ _=>none
 | n+1=>ybo 6 (ym (ybn (xOp ydp (ye 1) (yoP "long" (yli 45) (ye 0))) (yt 2)) (ym (ybn (xOp ysn (ye 2) (yY (ybX 45) (yb (ybd [6,7] "others" (ye 0)) (yh)))) (yt 3)) (ym (ybn (yY (ycW n) (yb (ybd [6,7] "parts" (ye 0)) (yb (xOp ydp (ye 1) (xC (.int 1))) (yh)))) (yt 4)) (ym (ybn (yY (ycW n) (yb (ybd [6,7] "others" (ye 0)) (yb (ye 3) (yh)))) (yt 5)) (yR (xFz (ykO yhb (xFz (ykO yhb (xFz (ykO yhb (xFz (ycR (yb (yY yhN (yb (ye 0) (yb (ye 3) (yh)))) (yh)))) (ye 4))) (yY yfj (yb (ye 0) (yb (ye 2) (yh)))))) (ye 5))))))))
end
def yec:Fn:=ybo 1 (yR (xFz (ykO yhb (yY (ycW 45) (yb (ye 0) (yb (xC (.int 0)) (yh)))) (xFz (ycR (yb (ybS (yb (xC (.str "lay")) (yh))) (yh)))))))
def ycX:List PV->AH->Option (Nd×AH):=ymz 2 10 (ym (ycB [10] 0 "words" (xFz (yil (ybg) (yb (ye 1) (yh))))) (ycB [10,12] 0 "at" (xC (.int 0))))
def yeU:Fn:=ybo 1 (ym (ybx (yq (xOp (oEq) (ye 0) (xC (.str "")))) (yR (xFz (ycR (yh)))) (yJ)) (yR (xBM isStr (ylc) (ye 0) (yb (xC (.str " ")) (yh)))))
def ybt:Fn:=ybo 1 (ym (ybx (yq (xOp (oLt) (ybd [10,12] "at" (ye 0)) (xCB (ycg) (yb (ybd [10] "words" (ye 0)) (yh))))) (yR (xOp (ycu) (ybd [10] "words" (ye 0)) (ybd [10,12] "at" (ye 0)))) (yJ)) (yR (xC .non)))
def ybu:Fn:=ybo 2 (ym (ybn (yk 10 "ahead" ybt (ye 0) (yh)) (yt 1)) (ym (ybx (yq (xOp (ywA) (ye 1) (xC .non))) (ydW) (yJ)) (ym (ydd [10,12] "at" (ye 0) (xOp ydp (ybd [10,12] "at" (ye 0)) (xC (.int 1)))) (yR (ye 1)))))
def yT:Fn:=ybo 3 (ym (ybn (yk 10 "taken" ybu (ye 0) (yh)) (yt 2)) (ybx (yq (xOp (oNe) (ye 2) (ye 1))) (ydW) (yJ)))
def yA:Fn:=ybo 2 (ym (ybn (yk 10 "taken" ybu (ye 0) (yh)) (yt 1)) (ym (ybx (ykP (yq (yY yhI (yb (ye 1) (yh))))) (ydW) (yJ)) (yR (ye 1))))
def ybA:Fn:=ybo 2 (ym (ybn (yk 10 "taken" ybu (ye 0) (yh)) (yt 1)) (ym (ybx (ykP (yq (yY yhJ (yb (ye 1) (yh))))) (ydW) (yJ)) (yR (ye 1))))
def ybM:Fn:=ybo 3 (ym (ybn (yk 10 "taken" ybu (ye 0) (yh)) (yt 1)) (ym (ybn (yY yeq (yb (ye 1) (yh))) (yt 2)) (ym (ybx (yq (xOp (ywA) (ye 2) (xC .non))) (ydW) (yJ)) (yR (ye 2)))))
def ybN:Fn:=ybo 5 (ym (ybn (yk 10 "slot_taken" yA (ye 0) (yh)) (yt 2)) (ym (ybn (yk 10 "slot_taken" yA (ye 0) (yh)) (yt 3)) (ym (ybn (yk 10 "slot_taken" yA (ye 0) (yh)) (yt 4)) (yR (xFz (yfJ yea (yb (ye 1) (yb (ye 2) (yb (ye 3) (yb (ye 4) (yh)))))))))))
def yw:Fn:=ybo 5 (ym (ybx (yq (xOp (oEq) (ye 1) (xC (.str "let")))) (ym (ybn (yk 10 "slot_taken" yA (ye 0) (yh)) (yt 2)) (yR (xFz (yfJ yfg (yb (ye 2) (yb (yk 10 "number_taken" ybM (ye 0) (yh)) (yh))))))) (yJ)) (ym (ybx (yq (xOp (oEq) (ye 1) (xC (.str "take")))) (ym (ybn (yk 10 "slot_taken" yA (ye 0) (yh)) (yt 2)) (yR (xFz (yfJ yeJ (yb (ye 2) (yb (yk 10 "slot_taken" yA (ye 0) (yh)) (yh))))))) (yJ)) (ym (ybx (yq (xOp (oEq) (ye 1) (xC (.str "put")))) (ym (ybn (yk 10 "slot_taken" yA (ye 0) (yh)) (yt 3)) (yR (xFz (yfJ yfh (yb (ye 3) (yb (yk 10 "slot_taken" yA (ye 0) (yh)) (yh))))))) (yJ)) (ym (ybx (yq (xOp (oEq) (ye 1) (xC (.str "throw")))) (ym (ybn (yk 10 "name_taken" ybA (ye 0) (yh)) (yt 4)) (yR (xFz (yfJ yew (yb (ye 4) (yb (yk 10 "slot_taken" yA (ye 0) (yh)) (yh))))))) (yJ)) (ym (ybx (yq (xOp (oEq) (ye 1) (xC (.str "wait")))) (yR (xFz (yqt 9))) (yJ)) (ym (ybx (yq (yY yhH (yb (ye 1) (yh)))) (yR (yk 10 "reckon_taken" ybN (ye 0) (yb (ye 1) (yh)))) (yJ)) (ydW)))))))
def yjH:XT:=yq (xOp (oEq) (yk 10 "ahead" ybt (ye 0) (yh)) (xC (.str ";")))
mutual
noncomputable def ybB:Nat->Fn
 | 0=>fun _ _=>none
 | n+1=>ybo 3 (ym (ybx (xOr (yq (xOp (ywA) (yk 10 "ahead" ybt (ye 0) (yh)) (xC .non))) (yq (xOp (oEq) (yk 10 "ahead" ybt (ye 0) (yh)) (xC (.str ")"))))) (yR (xFz (ycR (yh)))) (yJ)) (ym (yqf (ycR (yb (yk 10 "part_taken" (yK n) (ye 0) (yb (ye 1) (yh))) (yh))) 2) (ym (yfa 100 (yjH) (ym (ybf (yk 10 "pass_over" yT (ye 0) (yb (xC (.str ";")) (yh)))) (ymr 2 (yk 10 "part_taken" (yK n) (ye 0) (yb (ye 1) (yh)))))) (yzb 2 (yR (ye 2))))))
noncomputable def yF:Nat->Fn
 | 0=>fun _ _=>none
 | n+1=>ybo 3 (ym (ybf (yk 10 "pass_over" yT (ye 0) (yb (xC (.str "(")) (yh)))) (ym (ybn (yk 10 "list_taken" (ybB n) (ye 0) (yb (ye 1) (yh))) (yt 2)) (ym (ybf (yk 10 "pass_over" yT (ye 0) (yb (xC (.str ")")) (yh)))) (yR (ye 2)))))
noncomputable def yK:Nat->Fn
 | 0=>fun _ _=>none
 | n+1=>ybo 3 (ym (ybx (yq (xOp (oGt) (ye 1) (xC (.int 8)))) (ydW) (yJ)) (ym (ybn (yk 10 "taken" ybu (ye 0) (yh)) (yt 2)) (ym (ybx (yq (xOp (oEq) (ye 2) (xC (.str "if")))) (ydW) (yJ)) (ym (ybx (yq (xOp (oEq) (ye 2) (xC (.str "either")))) (yR (yk 10 "either_taken" (ybj n) (ye 0) (yb (xOp ydp (ye 1) (xC (.int 1))) (yh)))) (yJ)) (ym (ybx (yq (xOp (oEq) (ye 2) (xC (.str "try")))) (yR (yk 10 "try_taken" (ybO n) (ye 0) (yb (xOp ydp (ye 1) (xC (.int 1))) (yh)))) (yJ)) (yR (yk 10 "plain_taken" yw (ye 0) (yb (ye 2) (yh)))))))))
noncomputable def ybj:Nat->Fn
 | 0=>fun _ _=>none
 | n+1=>ybo 4 (ym (ybn (yk 10 "side_taken" (yF n) (ye 0) (yb (ye 1) (yh))) (yt 2)) (ym (ybf (yk 10 "pass_over" yT (ye 0) (yb (xC (.str "or")) (yh)))) (ym (ybn (yk 10 "side_taken" (yF n) (ye 0) (yb (ye 1) (yh))) (yt 3)) (yR (xFz (yfJ yeb (yb (ye 2) (yb (ye 3) (yh)))))))))
noncomputable def ybO:Nat->Fn
 | 0=>fun _ _=>none
 | n+1=>ybo 6 (ym (ybn (yk 10 "side_taken" (yF n) (ye 0) (yb (ye 1) (yh))) (yt 2)) (ym (ybf (yk 10 "pass_over" yT (ye 0) (yb (xC (.str "on")) (yh)))) (ym (ybn (yk 10 "name_taken" ybA (ye 0) (yh)) (yt 3)) (ym (ybn (yk 10 "slot_taken" yA (ye 0) (yh)) (yt 4)) (ym (ybn (yk 10 "side_taken" (yF n) (ye 0) (yb (ye 1) (yh))) (yt 5)) (yR (xFz (yfJ yfi (yb (ye 2) (yb (ye 3) (yb (ye 4) (yb (ye 5) (yh)))))))))))))
end
def ylj:Fn:=ybo 3 (ym (ybn (yfG (yfJ ycX (yb (yY yeU (yb (ye 0) (yh))) (yh)))) (yt 1)) (ym (ybn (yk 10 "list_taken" (ybB 45) (ye 1) (yb (xC (.int 0)) (yh))) (yt 2)) (ym (ybx (yq (xOp (yti) (yk 10 "ahead" ybt (ye 1) (yh)) (xC .non))) (ydW) (yJ)) (ym (ybx (yq (xOp (oGt) (xOp ydp (yY (ybX 45) (yb (ye 2) (yh))) (xC (.int 1))) (xC (.int 80)))) (ydW) (yJ)) (yR (ye 2))))))
def yds:Fn:=ybo 1 (ym (ybx (ykP (yq (yeZ (oLe) (oLe) (xC (.int 1)) (xCB (ycg) (yb (ye 0) (yh))) (xC (.int 16))))) (ydW) (yJ)) (ybx (ykP (yq (xCB (yvc) (yb (xFz (yeD (xIL (ye 0)) [] (yY ycV (yb (ye 0) (yh))))) (yh))))) (ydW) (yJ)))
def ybC:Fn:=ybo 1 (yR (xFz (yeD (xIL (ye 0)) [] (yY yec (yb (yY ylj (yb (ye 0) (yh))) (yh))))))
def ycl:Fn:=ybo 1 (ym (ybx (ykP (yq (yeZ (oLe) (oLe) (xC (.int 1)) (xCB (ycg) (yb (ye 0) (yh))) (xC (.int 8))))) (ydW) (yJ)) (ym (ybx (yq (xCB (ytM) (yb (xFz (yeD (xIL (ye 0)) [] (xOp (oGt) (xCB (ycg) (yb (ye 0) (yh))) (xC (.int 6))))) (yh)))) (ydW) (yJ)) (yR (xFz (yeD (xIL (ye 0)) [] (yY ybC (yb (ye 0) (yh))))))))
def ycm:Fn:=ybo 3 (ym (ybf (yY yds (yb (ye 1) (yh)))) (ym (ydd [15] "numbers" (ye 0) (yfG (yil (ybg) (yb (ye 1) (yh))))) (ym (ydd [15] "marks" (ye 0) (yfG (ykO ywB (xFz (ycR (yb (xC (.int 0)) (yh)))) (xCB (ycg) (yb (ye 1) (yh)))))) (ym (ydd [15] "crew" (ye 0) (yfG (yeD (xIL (yY ycl (yb (ye 2) (yh)))) [1] (yhE 14 ybz (yb (ye 0) (yb (xCB (ycg) (yb (ye 1) (yh))) (yh))))))) (ydd [15] "entries" (ye 0) (yfG (ycR (yh))))))))
def ydL:Fn:=ybo 1 (yR (xFz (yil (ybg) (yb (ybd [15] "numbers" (ye 0)) (yh)))))
def ybv:Fn:=ybo 2 (ym (ybx (xOr (ykP (yq (yY ydZ (yb (ye 1) (yh))))) (ykP (yq (yeZ (oLe) (oLt) (xC (.int 0)) (ye 1) (xCB (ycg) (yb (ybd [15] "crew" (ye 0)) (yh))))))) (ydW) (yJ)) (yR (xOp (ycu) (ybd [15] "crew" (ye 0)) (ye 1))))
def ycG:Fn:=ybo 2 (yR (yk 14 "state" yck (yk 15 "hand_at" ybv (ye 0) (yb (ye 1) (yh))) (yh)))
def ydf:Fn:=ybo 2 (yR (xFz (yil (ybg) (yb (ybd [12] "held" (ybd [14] "run" (yk 15 "hand_at" ybv (ye 0) (yb (ye 1) (yh))))) (yh)))))
def yed:Fn:=ybo 2 (yR (yk 11 "saw" yeH (ybd [12] "log" (ybd [14] "run" (yk 15 "hand_at" ybv (ye 0) (yb (ye 1) (yh))))) (yh)))
def ycw:Fn:=ybo 1 (yR (xFz (yle (ybd [15] "entries" (ye 0)) [] (ybS (yb (xOp (ybb) (ye 0) (xC (.int 0))) (yb (xOp (ybb) (ye 0) (xC (.int 1))) (yb (xOp (ybb) (ye 0) (xC (.int 2))) (yb (xFz (yil (ybg) (yb (xOp (ybb) (ye 0) (xC (.int 3))) (yh)))) (yb (xFz (yil (ybg) (yb (xOp (ybb) (ye 0) (xC (.int 4))) (yh)))) (yb (xFz (yil (ybg) (yb (xOp (ybb) (ye 0) (xC (.int 5))) (yh)))) (yh)))))))))))
def wkB:XS:=(ybx (yuW (yq (xOp (oEq) (yk 14 "state" yck (ye 1) (yh)) (xC (.str "asleep")))) (yq (yk 12 "is_stale" ycv (ybd [14] "run" (ye 1)) (yb (ybd [15] "marks" (ye 0)) (yh))))) (ybf (yk 14 "begin_anew" ybU (ye 1) (yh))) (yJ))
def yby:Fn:=ybo 2 (yjC false (ybd [15] "crew" (ye 0)) (yt 1) wkB)
def ycn:Fn:=ybo 6 (ym (ybn (xOp (ycu) (ybd [15] "crew" (ye 0)) (ye 1)) (yt 5)) (ym (ybf (xBM yfs (ygM) (ybd [15] "entries" (ye 0)) (yb (ybS (yb (ye 1) (yb (ybd [14] "nth" (ye 5)) (yb (ye 2) (yb (yk 11 "saw" yeH (ybd [12] "log" (ybd [14] "run" (ye 5))) (yh)) (yb (ye 3) (yb (xFz (yil (ybg) (yb (ye 4) (yh)))) (yh)))))))) (yh)))) (ybf (yk 14 "go_on" ydK (ye 5) (yb (ye 4) (yh))))))
def ldB:XS:=(ym (ybn (xOp (ybb) (ye 4) (xC (.int 0))) (yt 5)) (ym (ygO (ybd [15] "numbers" (ye 0)) (ye 5) (xOp (ybb) (ye 4) (xC (.int 1)))) (ygO (ybd [15] "marks" (ye 0)) (ye 5) (xOp ydp (xOp (ycu) (ybd [15] "marks" (ye 0)) (ye 5)) (xC (.int 1))))))
def ycN:Fn:=ybo 6 (ym (ybn (ybd [14] "run" (xOp (ycu) (ybd [15] "crew" (ye 0)) (ye 1))) (yt 2)) (ym (ybn (yk 11 "wrote" yep (ybd [12] "log" (ye 2)) (yh)) (yt 3)) (ym (yqg (xIL (ye 3)) (yt 4) ldB) (ym (ybf (yk 15 "end_deed" ycn (ye 0) (yb (ye 1) (yb (ybS (yb (xC (.str "done")) (yh))) (yb (ye 3) (yb (ybd [12] "held" (ye 2)) (yh))))))) (ybf (yk 15 "wake_stale" yby (ye 0) (yh)))))))
def yO:Fn:=ybo 6 (ym (ybn (xOp (ycu) (ybd [15] "crew" (ye 0)) (ye 1)) (yt 3)) (ym (ybn (yk 12 "row" ydz (ybd [14] "run" (ye 3)) (yh)) (yt 4)) (ym (ybx (yq (xOp (oEq) (xOp (ybb) (ye 4) (xC (.int 0))) (xC (.str "take")))) (ym (ybn (yk 12 "see_next" yda (ybd [14] "run" (ye 3)) (yb (ybd [15] "numbers" (ye 0)) (yb (ybd [15] "marks" (ye 0)) (yh)))) (yt 5)) (yR (ybS (yb (xC (.str "seen")) (yb (ye 2) (yb (ye 5) (yb (xOp (ycu) (ybd [15] "numbers" (ye 0)) (ye 5)) (yh)))))))) (yJ)) (ym (ybx (yq (xOp (oEq) (xOp (ybb) (ye 4) (xC (.int 0))) (xC (.str "wait")))) (ym (ybf (yk 14 "fall_asleep" ycf (ye 3) (yh))) (yR (ybS (yb (xC (.str "asleep")) (yb (ye 2) (yh)))))) (yJ)) (ym (ybx (yq (xOp (oEq) (xOp (ybb) (ye 4) (xC (.int 0))) (xC (.str "throw")))) (ym (ybf (yk 15 "end_deed" ycn (ye 0) (yb (ye 1) (yb (ybS (yb (xC (.str "fell")) (yb (xOp (ybb) (ye 4) (xC (.int 1))) (yb (yk 12 "held_in" ybi (ybd [14] "run" (ye 3)) (yb (xOp (ybb) (ye 4) (xC (.int 2))) (yh))) (yh))))) (yb (xFz (ycR (yh))) (yb (ybd [14] "before" (ye 3)) (yh))))))) (yR (ybS (yb (xC (.str "fell")) (yb (ye 2) (yh)))))) (yJ)) (ym (ybf (yk 15 "lay_down" ycN (ye 0) (yb (ye 1) (yh)))) (yR (ybS (yb (xC (.str "done")) (yb (ye 2) (yh)))))))))))
def yx:Fn:=ybo 4 (ym (ybn (yk 15 "hand_at" ybv (ye 0) (yb (ye 1) (yh))) (yt 2)) (ym (ybx (yq (xOp (oNe) (yk 14 "state" yck (ye 2) (yh)) (xC (.str "awake")))) (yR (ybS (yb (xC (.str "idle")) (yh)))) (yJ)) (ym (ybn (ybd [10,12] "at" (ybd [14] "run" (ye 2))) (yt 3)) (ym (ybx (ykP (yq (yk 12 "is_looked_over" ybp (ybd [14] "run" (ye 2)) (yh)))) (ym (ybf (yk 12 "go" ycr (ybd [14] "run" (ye 2)) (yh))) (yR (ybS (yb (xC (.str "gone")) (yb (ye 3) (yh)))))) (yJ)) (ym (ybx (yq (yk 12 "is_stale" ycv (ybd [14] "run" (ye 2)) (yb (ybd [15] "marks" (ye 0)) (yh)))) (ym (ybf (yk 14 "begin_anew" ybU (ye 2) (yh))) (yR (ybS (yb (xC (.str "anew")) (yb (ye 3) (yh)))))) (yJ)) (yR (yk 15 "looked_over_told" yO (ye 0) (yb (ye 1) (yb (ye 3) (yh))))))))))
def yy:Fn:=ybo 2 (ym (ybx (yq (xOp (oLt) (ye 1) (xCB (ycg) (yb (ye 0) (yh))))) (yR (xOp (ycu) (ye 0) (ye 1))) (yJ)) (yR (xC (.int 0))))
def ycb:Fn:=ybo 2 (ym (ybn (xOp oDiv (ye 0) (xC (.int 3))) (yt 1)) (ym (ybx (yq (xOp (oEq) (xOp oMod (ye 0) (xC (.int 3))) (xC (.int 1)))) (yR (xOp oMod (ye 1) (xC (.int 5)))) (yJ)) (ym (ybx (yq (xOp (oEq) (xOp oMod (ye 0) (xC (.int 3))) (xC (.int 2)))) (yR (xOp ysn (xOp ysn (xOp yBY (xC (.int 2)) (xC (.int 64))) (xC (.int 1))) (xOp oMod (ye 1) (xC (.int 5))))) (yJ)) (yR (xOp oMod (ye 1) (xOp yBY (xC (.int 2)) (xC (.int 64))))))))
def ybY:Fn:=ybo 5 (ym (ybx (yq (xOp (oEq) (ye 0) (xC (.int 0)))) (ym (ybn (yfG (ycR (yb (ybS (yb (ye 2) (yb (xC (.str "gone")) (yh)))) (yb (ybS (yb (xOp ydp (ye 2) (xC (.int 1))) (yb (xC (.str "seen")) (yb (ye 1) (yh))))) (yb (ybS (yb (xOp ydp (ye 2) (xC (.int 2))) (yb (xC (.str "done")) (yh)))) (yh)))))) (yt 4)) (ym (ybx (yq (ye 3)) (ygO (ye 4) (xC (.int 1)) (ybS (yb (xOp ydp (ye 2) (xC (.int 1))) (yb (xC (.str "gone")) (yh))))) (yJ)) (yR (ybS (yb (xOp yek (xOp yek (xC (.str "let d ")) (xCB (yin) (yb (ye 1) (yh)))) (xC (.str " ; take c d"))) (yb (ye 4) (yh))))))) (yJ)) (ym (ybx (yq (xOp (oEq) (ye 0) (xC (.int 1)))) (yR (ybS (yb (xC (.str "wait")) (yb (xFz (ycR (yb (ybS (yb (ye 2) (yb (xC (.str "asleep")) (yh)))) (yh)))) (yh))))) (yJ)) (ym (ybx (yq (xOp (oEq) (ye 0) (xC (.int 2)))) (yR (ybS (yb (xC (.str "throw low b")) (yb (xFz (ycR (yb (ybS (yb (ye 2) (yb (xC (.str "fell")) (yh)))) (yh)))) (yh))))) (yJ)) (ym (ybx (yq (xOp (oEq) (ye 0) (xC (.int 3)))) (yR (ybS (yb (xC (.str "")) (yb (xFz (ycR (yb (ybS (yb (ye 2) (yb (xC (.str "done")) (yh)))) (yh)))) (yh))))) (yJ)) (ym (ybx (yq (xOp (oEq) (ye 0) (xC (.int 4)))) (ym (ybn (yfG (ycR (yb (ybS (yb (ye 2) (yb (xC (.str "gone")) (yh)))) (yb (ybS (yb (xOp ydp (ye 2) (xC (.int 1))) (yb (xC (.str "gone")) (yh)))) (yb (ybS (yb (xOp ydp (ye 2) (xC (.int 2))) (yb (xC (.str "gone")) (yh)))) (yb (ybS (yb (xOp ydp (ye 2) (xC (.int 3))) (yb (xC (.str "done")) (yh)))) (yh))))))) (yt 4)) (yR (ybS (yb (xOp yek (xOp yek (xC (.str "let d ")) (xCB (yin) (yb (ye 1) (yh)))) (xC (.str " ; put d a ; take c d"))) (yb (ye 4) (yh)))))) (yJ)) (ym (ybx (yq (xOp (oEq) (ye 0) (xC (.int 5)))) (ym (ybn (yfG (ycR (yb (ybS (yb (ye 2) (yb (xC (.str "gone")) (yh)))) (yb (ybS (yb (xOp ydp (ye 2) (xC (.int 1))) (yb (xC (.str "gone")) (yh)))) (yb (ybS (yb (xOp ydp (ye 2) (xC (.int 4))) (yb (xC (.str "gone")) (yh)))) (yb (ybS (yb (xOp ydp (ye 2) (xC (.int 5))) (yb (xC (.str "done")) (yh)))) (yh))))))) (yt 4)) (yR (ybS (yb (xC (.str "either ( wait ) or ( let f 9 )")) (yb (ye 4) (yh)))))) (yJ)) (ym (ybx (yq (xOp (oEq) (ye 0) (xC (.int 6)))) (yR (ybS (yb (xC (.str "try ( throw low b ) on low c ( )")) (yb (xFz (ycR (yb (ybS (yb (ye 2) (yb (xC (.str "gone")) (yh)))) (yb (ybS (yb (xOp ydp (ye 2) (xC (.int 1))) (yb (xC (.str "gone")) (yh)))) (yb (ybS (yb (xOp ydp (ye 2) (xC (.int 4))) (yb (xC (.str "done")) (yh)))) (yh)))))) (yh))))) (yJ)) (ym (ybx (yq (xOp (oEq) (ye 0) (xC (.int 7)))) (ym (ybn (yfG (ykO yhb (xFz (yeD (yms (yb (xC (.int 6)) (yh))) [2] (ybS (yb (xOp ydp (ye 1) (ye 0)) (yb (xC (.str "gone")) (yh)))))) (xFz (ycR (yb (ybS (yb (xOp ydp (ye 2) (xC (.int 7))) (yb (xC (.str "done")) (yh)))) (yh)))))) (yt 4)) (yR (ybS (yb (xOp yek (xOp yek (xC (.str "let d ")) (xCB (yin) (yb (ye 1) (yh)))) (xC (.str " ; put d a ; either ( take c d ) or ( wait )"))) (yb (ye 4) (yh)))))) (yJ)) (ym (ybx (yq (xOp (oEq) (ye 0) (xC (.int 8)))) (yR (ybS (yb (xC (.str "try ( wait ) on low c ( )")) (yb (xFz (ycR (yb (ybS (yb (ye 2) (yb (xC (.str "gone")) (yh)))) (yb (ybS (yb (xOp ydp (ye 2) (xC (.int 1))) (yb (xC (.str "asleep")) (yh)))) (yh))))) (yh))))) (yJ)) (ym (ybx (yq (xOp (oEq) (ye 0) (xC (.int 9)))) (yR (ybS (yb (xC (.str "either ( throw low b ) or ( )")) (yb (xFz (ycR (yb (ybS (yb (ye 2) (yb (xC (.str "gone")) (yh)))) (yb (ybS (yb (xOp ydp (ye 2) (xC (.int 1))) (yb (xC (.str "fell")) (yh)))) (yh))))) (yh))))) (yJ)) (ym (ybn (yfG (ycR (yb (ybS (yb (ye 2) (yb (xC (.str "gone")) (yh)))) (yb (ybS (yb (xOp ydp (ye 2) (xC (.int 1))) (yb (xC (.str "gone")) (yh)))) (yb (ybS (yb (xOp ydp (ye 2) (xC (.int 2))) (yb (xC (.str "gone")) (yh)))) (yh)))))) (yt 4)) (ym (ybx (yq (xOp (oEq) (ye 0) (xC (.int 10)))) (ym (ybn (yfG (ykO yhb (ye 4) (xFz (ycR (yb (ybS (yb (xOp ydp (ye 2) (xC (.int 7))) (yb (xC (.str "gone")) (yh)))) (yb (ybS (yb (xOp ydp (ye 2) (xC (.int 8))) (yb (xC (.str "done")) (yh)))) (yh))))))) (yt 4)) (yR (ybS (yb (xC (.str "either ( try ( wait ) on low c ( ) ) or ( let f 9 )")) (yb (ye 4) (yh)))))) (yJ)) (yR (ybS (yb (xC (.str "try ( either ( throw low b ) or ( ) ) on low c ( )")) (yb (xFz (ykO yhb (ye 4) (xFz (ycR (yb (ybS (yb (xOp ydp (ye 2) (xC (.int 7))) (yb (xC (.str "done")) (yh)))) (yh)))))) (yh)))))))))))))))))
def ydt:Fn:=ybo 3 (ym (ybn (xFz (ycR (yb (xC (.str "let e 5")) (yb (xC (.str "plus f e b")) (yb (xC (.str "less g f a")) (yb (xC (.str "minus h b f")) (yb (xC (.str "same e g h")) (yb (xC (.str "put a f")) (yb (xC (.str "times e b b")) (yh)))))))))) (yt 2)) (yR (xFz (yeD (yms (yb (ye 1) (yh))) [2,0] (xOp (ycu) (ye 1) (xOp oMod (xOp oDiv (ye 2) (xOp ydp (xC (.int 3)) (ye 0))) (xC (.int 7))))))))
def ycY:Fn:=ybo 3 (ym (ybx (yq (xOp (oEq) (xOp (ybb) (ye 1) (xC (.int 1))) (xC (.str "seen")))) (yR (xOp (ypo) (ye 0) (ybS (yb (xC (.str "seen")) (yb (xOp (ybb) (ye 1) (xC (.int 0))) (yb (xOp (ybb) (ye 1) (xC (.int 2))) (yb (xOp (ycu) (ye 2) (xOp (ybb) (ye 1) (xC (.int 2)))) (yh)))))))) (yJ)) (yR (yfF (xCB (ykh yeG) (yb (ye 0) (yb (xC (.ty "tuple")) (yh)))) (xOp (ypo) (ye 0) (ybS (yb (xOp (ybb) (ye 1) (xC (.int 1))) (yb (xOp (ybb) (ye 1) (xC (.int 0))) (yh))))))))
def ogB:XS:=(ybx (yq (xOp (ynU) (yk 15 "turn" yx (ye 0) (yb (xC (.int 1)) (yh))) (ybS (yb (xC (.str "gone")) (yb (ye 4) (yh)))))) (yR (xC (.bl false))) (yJ))
def ycs:Fn:=ybo 5 (ym (yqg (yms (yb (xC (.int 3)) (yh))) (yt 4) ogB) (ym (ybx (yq (xOp (ynU) (yk 15 "turn" yx (ye 0) (yb (xC (.int 1)) (yh))) (ybS (yb (xC (.str "done")) (yb (xC (.int 3)) (yh)))))) (yR (xC (.bl false))) (yJ)) (ym (ygO (ye 2) (ye 1) (ye 3)) (yR (xOp (ypo) (yk 15 "boxes" ydL (ye 0) (yh)) (ye 2))))))
def gB4:XS:=(ybx (ykP (yq (yY ycY (yb (ye 8) (yb (xOp (ycu) (ye 1) (ye 7)) (yb (ye 2) (yh))))))) (yR (xC (.str "wrong"))) (yJ))
def gB5:XS:=(ybx (yq (xOp (oEq) (xOp (ybb) (xOp (ycu) (ye 1) (ye 7)) (xC (.int 1))) (xC (.str "seen")))) (ybf (xBM yfs (ygM) (ye 6) (yb (xOp (ybb) (xOp (ycu) (ye 1) (ye 7)) (xC (.int 2))) (yh)))) (yJ))
def gB1:XS:=(ybx (yq (xOp (oEq) (ye 7) (ye 3))) (ym (ybx (ykP (yq (yY ycs (yb (ye 0) (yb (xOp (ybb) (ye 4) (xC (.int 0))) (yb (ye 2) (yb (xOp (ybb) (ye 4) (xC (.int 1))) (yh)))))))) (yR (xC (.str "wrong"))) (yJ)) (ybn (xOp (yqE false) (xOp (ybb) (ye 4) (xC (.int 0))) (ye 6)) (yt 5))) (yJ))
def gB3:XS:=(ybx (yuW (yq (ye 5)) (yq (xOp (oNe) (xOp (ybb) (xOp (ycu) (ye 1) (ye 7)) (xC (.int 1))) (xC (.str "gone"))))) (ym (ybx (xOr (yq (xOp (ynU) (ye 8) (ybS (yb (xC (.str "anew")) (yb (xOp (ybb) (xOp (ycu) (ye 1) (ye 7)) (xC (.int 0))) (yh)))))) (xOr (yq (xOp (ynU) (yk 15 "saw" yed (ye 0) (yb (xC (.int 0)) (yh))) (xFz (ycR (yh))))) (yq (xOp (ynU) (yk 15 "slots" ydf (ye 0) (yb (xC (.int 0)) (yh))) (xFz (ykO ywB (xFz (ycR (yb (xC (.int 0)) (yh)))) (xC (.int 8)))))))) (yR (xC (.str "wrong"))) (yJ)) (yR (xC (.str "anew")))) (yJ))
def gBt:XS:=(ym (ybn (yk 15 "turn" yx (ye 0) (yb (xC (.int 0)) (yh))) (yt 8)) (ym gB3 (ym gB4 gB5)))
def gB:XS:=(ym gB1 gBt)
def ycD:Fn:=ybo 9 (ym (ybn (xC (.bl false)) (yt 5)) (ym (ybn (yfG (ycR (yh))) (yt 6)) (ym (yqg (yms (yb (xCB (ycg) (yb (ye 1) (yh))) (yh))) (yt 7) gB) (yR (xC (.str "through"))))))
def ydb:Fn:=ybo 6 (ym (ybn (yk 15 "journal" ycw (ye 0) (yh)) (yt 3)) (ym (ybn (xFz (ycR (yb (ybS (yb (xC (.int 1)) (yb (xC (.int 0)) (yb (ybS (yb (xC (.str "done")) (yh))) (yb (xFz (ycR (yh))) (yb (xFz (ycR (yb (ye 2) (yh)))) (yb (xFz (ycR (yb (xOp (ybb) (ye 2) (xC (.int 0))) (yb (xC (.int 0)) (yb (xOp (ybb) (ye 2) (xC (.int 1))) (yb (xC (.int 0)) (yb (xC (.int 0)) (yb (xC (.int 0)) (yb (xC (.int 0)) (yb (xC (.int 0)) (yh))))))))))) (yh)))))))) (yh)))) (yt 4)) (ym (ybx (yq (xOp (ynU) (xFz (yBm yBp (ye 3) (yjo) (ysR (xC (.int 1))))) (ye 4))) (yR (xC (.bl false))) (yJ)) (ym (ybn (xOp (ybb) (xOp (ycu) (ye 1) (xUn yvb (xC (.int 1)))) (xC (.int 1))) (yt 5)) (ym (ybx (yq (xOp (oEq) (ye 5) (xC (.str "asleep")))) (yR (yfF (xOp (oEq) (xCB (ycg) (yb (ye 3) (yh))) (xC (.int 1))) (xOp (oEq) (yk 15 "state" ycG (ye 0) (yb (xC (.int 0)) (yh))) (xC (.str "asleep"))))) (yJ)) (yR (yfF (xOp (oEq) (xCB (ycg) (yb (ye 3) (yh))) (xC (.int 2))) (yfF (xOp (oEq) (yk 15 "state" ycG (ye 0) (yb (xC (.int 0)) (yh))) (xC (.str "ended"))) (xOp (ypo) (xFz (yhC (xIL (ye 3)) [] (yq (xOp (oEq) (xOp (ybb) (ye 0) (xC (.int 0))) (xC (.int 0)))) (xOp (ybb) (xOp (ybb) (ye 0) (xC (.int 2))) (xC (.int 0))))) (xFz (ycR (yb (ye 5) (yh)))))))))))))
def lM3:XS:=(ybn (yY ycb (yb (yY yy (yb (ye 0) (yb (xC (.int 5)) (yh)))) (yh))) (yt 8))
def lM2:XS:=(ybx (yq (xOp (oEq) (xOp oMod (ye 6) (xC (.int 3))) (xC (.int 0)))) (ybn (xOp oMod (xOp oDiv (ye 6) (xC (.int 3))) (ye 1)) (yt 7)) (yJ))
def lM4:XS:=(ybx (yq (xOp (oEq) (xOp oMod (xOp oDiv (ye 6) (xC (.int 100))) (xC (.int 3))) (xC (.int 0)))) (ybn (xOp (ycu) (ye 2) (ye 7)) (yt 8)) (yJ))
def bxE:XE:=(yY ycb (yb (xOp ydp (yY yy (yb (ye 1) (yb (xC (.int 1)) (yh)))) (xOp yzd (xOp yzd (xC (.int 31)) (ye 0)) (ye 0))) (yh)))
def lS4:XS:=(ybn (xOp yek (xOp yek (xOp yek (xOp yek (xC (.str "let a ")) (xCB (yin) (yb (ye 7) (yh)))) (xC (.str " ; let c "))) (xCB (yin) (yb (ye 8) (yh)))) (xC (.str " ; put a c"))) (yt 13))
def lM5:XS:=(ybn (yY ydt (yb (xOp oDiv (ye 6) (xC (.int 300))) (yb (xOp oMod (xOp oDiv (yY yy (yb (ye 0) (yb (xC (.int 3)) (yh)))) (xC (.int 12))) (xC (.int 10))) (yh)))) (yt 9))
def lS1:XS:=(ybn (yY ybY (yb (ye 5) (yb (ye 4) (yb (xOp ydp (xC (.int 2)) (xCB (ycg) (yb (ye 9) (yh)))) (yb (yfF (xOp (oEq) (ye 4) (ye 3)) (xOp (yqE false) (xC (.str "put a f")) (ye 9))) (yh)))))) (yt 10))
def lS2:XS:=(ybn (xFz (ykO yhb (xFz (ykO yhb (xFz (ycR (yb (xOp yek (xC (.str "let a ")) (xCB (yin) (yb (ye 3) (yh)))) (yb (xC (.str "take b a")) (yh))))) (ye 9))) (xFz (yhC (xIL (xFz (ycR (yb (xOp (ybb) (ye 10) (xC (.int 0))) (yh))))) [] (yq (xOp (oNe) (ye 0) (xC (.str "")))) (ye 0))))) (yt 11))
def lS3:XS:=(ybn (xFz (ykO yhb (xFz (ykO yhb (xFz (ycR (yb (ybS (yb (xC (.int 0)) (yb (xC (.str "gone")) (yh)))) (yb (ybS (yb (xC (.int 1)) (yb (xC (.str "seen")) (yb (ye 3) (yh))))) (yh))))) (xFz (yeD (yms (yb (xCB (ycg) (yb (ye 9) (yh))) (yh))) [] (ybS (yb (xOp ydp (xC (.int 2)) (ye 0)) (yb (xC (.str "gone")) (yh)))))))) (xOp (ybb) (ye 10) (xC (.int 1))))) (yt 12))
def laU:XS:=(ym (ybn (yhE 15 ycm (yb (xFz (yil (ybg) (yb (ye 2) (yh)))) (yb (xFz (ycR (yb (xFz (ycR (yb (xBM isStr (yoO) (xC (.str " ; ")) (yb (ye 11) (yh))) (yh)))) (yb (xFz (ycR (yb (ye 13) (yh)))) (yh))))) (yh)))) (yt 14)) (ym (ybn (xOp oMod (yY yy (yb (ye 0) (yb (xC (.int 6)) (yh)))) (xCB (ycg) (yb (ye 12) (yh)))) (yt 15)) (ym (ybn (yY ycD (yb (ye 14) (yb (ye 12) (yb (ye 2) (yb (ye 15) (yb (ybS (yb (ye 7) (yb (ye 8) (yh)))) (yh))))))) (yt 16)) (ym (ybx (yq (xOp (oEq) (ye 16) (xC (.str "anew")))) (ybn (yY ycD (yb (ye 14) (yb (ye 12) (yb (ye 2) (yb (xUn yvb (xC (.int 1))) (yb (ybS (yb (ye 7) (yb (ye 8) (yh)))) (yh))))))) (yt 16)) (yJ)) (yR (yfF (xOp (oEq) (ye 16) (xC (.str "through"))) (yY ydb (yb (ye 14) (yb (ye 12) (yb (ybS (yb (ye 7) (yb (ye 8) (yh)))) (yh)))))))))))
def laV:XS:=(ym lS1 (ym lS2 (ym lS3 (ym lS4 laU))))
def laM:XS:=(ym (ybn (ye 3) (yt 7)) (ym lM2 (ym lM3 (ym lM4 (ym lM5 laV)))))
def ytX:Fn:=ybo 17 (ym (ybn (xOp ydp (xC (.int 2)) (xOp oMod (yY yy (yb (ye 0) (yb (xC (.int 0)) (yh)))) (xC (.int 15)))) (yt 1)) (ym (ybn (yfG (yeD (yms (yb (ye 1) (yh))) [0] bxE)) (yt 2)) (ym (ybn (xOp oMod (yY yy (yb (ye 0) (yb (xC (.int 2)) (yh)))) (ye 1)) (yt 3)) (ym (ybn (xOp oMod (xOp oDiv (yY yy (yb (ye 0) (yb (xC (.int 2)) (yh)))) (xC (.int 16))) (ye 1)) (yt 4)) (ym (ybn (xOp oMod (yY yy (yb (ye 0) (yb (xC (.int 3)) (yh)))) (xC (.int 12))) (yt 5)) (ym (ybn (xOp oMod (xOp yzd (yY yy (yb (ye 0) (yb (xC (.int 4)) (yh)))) (xC (.int 48271))) (xC (.int 2147483647))) (yt 6)) laM))))))
abbrev tI (n:Int):Str:=Str.ofString (toString n)
abbrev B64:Int:=18446744073709551616
theorem yvs:("":Str).length=0:=by rfl'
theorem ycO (a b:Str):(a++b).length=a.length+b.length:=by
 show (a.cps++b.cps).size=_
 simp [Str.length]
theorem ylk (a b c:Str):a++b++c=a++(b++c):=by
 show (⟨(a.cps++b.cps)++c.cps⟩:Str)=⟨a.cps++(b.cps++c.cps)⟩
 rw [Array.append_assoc]
theorem yre (a:Int) {b:Int}(h:0<b):0<=a%b/\a%b<b:=⟨Int.emod_nonneg a (by omega),Int.emod_lt_of_pos a h⟩
theorem yrf:B64<10 ^ 20:=by decide
theorem ytY (sep x:Str) (r:List Str) (h:1<=x.length):1<=(Str.join sep (x::r)).length:=by
 cases r with
 | nil=>exact h
 | cons y r =>
  show 1<=(x++sep++Str.join sep (y::r)).length
  rw [ycO,ycO];omega
def yrg (m:Nat):List Nat:=(Nat.toDigits 10 m).map Char.toNat
theorem yAh:∀ d:Nat,d<10->(Nat.digitChar d).toNat=48+d:=by
 intro d h
 have:d=0\/d=1\/d=2\/d=3\/d=4\/d=5\/d=6\/d=7\/d=8\/d=9:=by omega
 rcases this with rfl|rfl|rfl|rfl|rfl|rfl|rfl|rfl|rfl|rfl
 all_goals decide
theorem ytZ (cs:List Nat) (c:Nat):yvY (cs++[c])=yvY cs*10+((c:Int)-48):=by
 unfold yvY
 rw [List.foldl_append];rfl
theorem yrh:∀ m:Nat,yrg m≠[]/\(∀ c∈yrg m,48<=c/\c<=57)/\yvY (yrg m)=m/\(m≠0->(yrg m)[0]?≠some 48):=by
 intro m
 induction m using Nat.strongRecOn with
 | ind m ih =>
  unfold yrg at *
  by_cases h:m<10
  .rw [Nat.toDigits_of_lt_base h,List.map_singleton,yAh m h]
   refine ⟨by simp,fun c hc=>?_,?_,fun hm e=>?_⟩
   .rw [List.mem_singleton.mp hc];omega
   .show (0:Int)*10+(((48+m:Nat):Int)-48)=m
    omega
   .have:48+m=48:=by simpa using e
    omega
  .rw [Nat.toDigits_of_base_le (by decide) (by omega),map_append,List.map_singleton,yAh (m%10) (by omega)]
   obtain ⟨h1,h2,h3,h4⟩:=ih (m/10) (by omega)
   refine ⟨by simp,fun c hc=>?_,?_,fun _ e=>?_⟩
   .rcases List.mem_append.mp hc with hc|hc
    .exact h2 c hc
    .rw [List.mem_singleton.mp hc];omega
   .rw [ytZ,h3];omega
   .refine h4 (by omega) ?_
    generalize (Nat.toDigits 10 (m/10)).map Char.toNat=l at *
    cases l with
    | nil=>exact absurd rfl h1
    | cons a l=>simpa using e
theorem yri {n:Int}(h:0<=n):(Str.ofString (toString n)).cps.toList=yrg n.toNat:=by
 obtain ⟨m,rfl⟩:∃ m:Nat,n=m:=⟨n.toNat,by omega⟩
 rw [Str.ofString_eq_toList]
 show (toString m).toList.map Char.toNat=_
 rw [Int.toNat_natCast,show (toString m)=m.repr from rfl,Nat.toList_repr];rfl
theorem yfR {sep:Str}:∀ {a b:List Str},a≠[]->b≠[]->Str.join sep (a++b)=Str.join sep a++sep++Str.join sep b
 | [],_,h,_=>absurd rfl h
 | [x],[],_,h=>absurd rfl h
 | [x],y::b,_,_=>rfl
 | x::y::a,b,_,hb=>by
  have ih:=yfR (sep:=sep) (a:=y::a) (b:=b) (fun z=>by cases z) hb
  show x++sep++Str.join sep ((y::a)++b)=x++sep++Str.join sep (y::a)++sep++Str.join sep b
  rw [ih];simp only [ylk]
theorem yrj {sep x:Str}{b:List Str}(h:b≠[]):Str.join sep (x::b)=x++sep++Str.join sep b:=yfR (a:=[x]) (fun z=>by cases z) h
theorem yAi:(" ; ":Str) = " "++";"++" ":=by rfl'
def fr (w:Str):Prop:=32∉w.cps.toList/\w.length≠0/\w.length<=20
theorem yvt {n:Int}(h:0<=n) (h2:n<B64):fr (toString n:String):=by
 have e:=yri h
 obtain ⟨h3,h4,_⟩:=yrh n.toNat
 refine ⟨fun z=>?_,fun z=>h3 ?_,str_len h (by decide) (Int.lt_trans h2 yrf)⟩
 .rw [e] at z
  have:=h4 _ z
  omega
 .rw [<- e]
  have:(Str.ofString (toString n)).cps.size=0:=z
  exact List.eq_nil_of_length_eq_zero (by simpa using this)
theorem ymL (s:Str) (h:decide (32∉s.cps.toList/\s.length≠0/\s.length<=20)=true):fr s:=(show 32∉s.cps.toList/\s.length≠0/\s.length<=20 from of_decide_eq_true h)
def frs (l:List Str):Prop:=∀ w∈l,fr w
theorem yrk {a b:List Str}(h:frs a) (k:frs b):frs (a++b):=fun x hx=>(List.mem_append.mp hx).elim (h x) (k x)
theorem yxr {sep:Str}{l:List Str}(h:frs l) (hl:l≠[]):Str.join sep l≠"":=by
 cases l with
 | nil=>exact absurd rfl hl
 | cons x r =>
  intro e
  have h1:=(h x mem_cons_self).2.1
  have:=ytY sep x r (by omega)
  rw [e,yvs] at this
  omega
theorem yjI (sep:Str) (hs:sep.length<=3):∀ l:List Str,frs l->(Str.join sep l).length<=23*l.length
 | [],_=>by show ("":Str).length<=_;rw [yvs];omega
 | [x],f=>by have:=(f x mem_cons_self).2.2;show x.length<=23*1;omega
 | x::y::r,f=>by
  have h1:=(f x mem_cons_self).2.2
  have h2:=yjI sep hs (y::r) fun w hw=>f w (mem_cons_of_mem _ hw)
  show (x++sep++Str.join sep (y::r)).length<=23*((y::r).length+1)
  rw [ycO,ycO]
  omega
theorem yll:(("throw":Str) = "take")=False:=eq_false (by rfl')
theorem ygB:(("throw":Str) = "wait")=False:=eq_false (by rfl')
theorem ymM:(("wait":Str) = "take")=False:=eq_false (by rfl')
section
variable {h:AH}
theorem yrl {i:Nat}{ρ:PSt}{xs:List PV}(e:ye i ρ h=some (.lst xs,h)):xIL (ye i) ρ h=some (xs,h):=yEz e
theorem yCR {z:Str}{i:Nat}{ρ:PSt}(e:ye i ρ h=some (.str z,h)) (hl:z.length<=100000):xIS (ye i) ρ h=some (z.cps.toList.map sgn,h):=by
 unfold xIS
 rw [e,ybq]
 exact if_pos hl
theorem yoX {x y:Str}(hl:x.length<=1000):yde [.str x,.str y] h=some (.bl (x.cps.toList.all fun c=>decide (c∈y.cps.toList)),h):=by
 unfold yde
 rw [yp]
 show ob (yR _ [.val (.str x),.val (.str y)] h) fnK=_
 have hz:x.cps.toList.length=x.length:=by simp [Str.length]
 symm
 rw [yCR rfl (by omega),ybq]
 rw [if_pos (by rw [length_map];omega)]
 rw [yeF (f:=sgn) (g:=fun c=>.bl (decide (c∈y.cps.toList))) fun c _=>rfl]
 symm
 show ob (yvc [.lst (x.cps.toList.map fun c=>PV.bl (decide (c∈y.cps.toList)))] h) _=_
 unfold yvc yW
 rw [show (x.cps.toList.map fun c=>PV.bl (decide (c∈y.cps.toList)))=(x.cps.toList.map fun c=>decide (c∈y.cps.toList)).map PV.bl by rw [map_map];rfl]
 simp only [ykR,List.all_map]
 rfl
theorem yua {c:Nat}(h1:48<=c) (h2:c<=57):c∈("0123456789":Str).cps.toList:=by
 rw [show ("0123456789":Str).cps.toList=(List.range 10).map (· + 48) by rfl']
 exact List.mem_map.mpr ⟨c-48,List.mem_range.mpr (by omega),by omega⟩
theorem ylm {n:Int}(h0:0<=n) (h1:n<B64):yeq [.str (toString n:String)] h=some (.int n,h):=by
 obtain ⟨d1,d2,d3,d4⟩:=yrh n.toNat
 have hl:=str_len h0 (k:=20) (by decide) (Int.lt_trans h1 yrf)
 have hn:(Str.ofString (toString n)).length≠0:=(yvt h0 h1).2.1
 have e:=yri h0
 have hz:n=0->Str.ofString (toString n) = "0":=fun z=>by subst z;rfl'
 have hat:atI (Str.ofString (toString n)).cps.toList 0=some ((yrg n.toNat).headD 0):=by
  rw [e]
  cases q:yrg n.toNat with
  | nil=>exact absurd q d1
  | cons a l=>exact yDW
 have hh:(yrg n.toNat).headD 0=48->n=0:=fun q=>Classical.byContradiction fun z=>d4 (by omega) (by
  cases q2:yrg n.toNat with
  | nil=>exact absurd q2 d1
  | cons a l=>rw [q2] at q;simpa using q)
 generalize hs:Str.ofString (toString n)=z at *
 unfold yeq
 rw [yp]
 show ob (ym _ _ [.val (.str z),.no] h) fnK=_
 have ml:z.cps.toList.all (fun c=>decide (c∈("0123456789":Str).cps.toList))=true:=List.all_eq_true.mpr fun c hc=>decide_eq_true (yua (d2 c (e ▸ hc)).1 (d2 c (e ▸ hc)).2)
 symm
 rw [if_pos (by omega:z.length<=100000)]
 simp only [show (1:Int)<=z.length by omega,show (z.length:Int)<=20 by omega]
 symm
 rw [yoX (by omega),ml]
 symm
 rw [hat]
 symm
 have hb:∀ h:AH,yqs [.str z] h=some (.int n,h):=fun h=>by
  unfold yqs
  show (if _ then _ else _)=_
  rw [if_pos ⟨by rw [e];exact d1,by rw [e];exact d2,by omega⟩,e,d3,Int.toNat_of_nonneg h0]
 rw [if_neg (not_not_intro trivial),if_pos (by omega)]
 simp only [sgn,hb]
 symm
 rw [if_pos h1]
 split
 .rename_i q
  have q:(yrg n.toNat).headD 0=48:=by
   have q2:=congrArg (fun s:Str=>s.cps.toList) q
   rw [show ("0":Str).cps.toList=[48] by rfl'] at q2
   simpa using q2
  rw [if_neg (not_not_intro (hz (hh q)))]
 .rfl
theorem yAj {sep:Str}{xs:List PV}{ts:List Str}(e:strsOf xs=some ts) (hs:sep.length<=16) (hl:(ts.map (·.length)).sum+ts.length<=1048576):yoO (.str sep) [.lst xs] h=some (.str (Str.join sep ts),h):=by
 unfold yoO yW
 simp only [e]
 exact if_pos ⟨hs,hl⟩
end
theorem yjJ:(("minus":Str) = "plus")=False:=eq_false (by rfl')
theorem yjK:(("plus":Str) = "minus")=False:=eq_false (by rfl')
theorem yjL:(("times":Str) = "plus")=False:=eq_false (by rfl')
theorem yjM:(("plus":Str) = "times")=False:=eq_false (by rfl')
theorem yis:(("times":Str) = "minus")=False:=eq_false (by rfl')
theorem yit:(("minus":Str) = "times")=False:=eq_false (by rfl')
theorem yln:(("less":Str) = "plus")=False:=eq_false (by rfl')
theorem ylo:(("plus":Str) = "less")=False:=eq_false (by rfl')
theorem yjN:(("less":Str) = "minus")=False:=eq_false (by rfl')
theorem yjO:(("minus":Str) = "less")=False:=eq_false (by rfl')
theorem yjP:(("less":Str) = "times")=False:=eq_false (by rfl')
theorem yjQ:(("times":Str) = "less")=False:=eq_false (by rfl')
theorem ylp:(("same":Str) = "plus")=False:=eq_false (by rfl')
theorem yjR:(("same":Str) = "minus")=False:=eq_false (by rfl')
theorem yjS:(("same":Str) = "times")=False:=eq_false (by rfl')
theorem ylq:(("same":Str) = "less")=False:=eq_false (by rfl')
section
variable {h:AH}
noncomputable def Stk (h:AH):List Nat->List (List Key×List PV)->Prop
 | [],[]=>True
 | l::ls,d::ds=>h[l]?=some (.dct d.1 d.2)/\Stk h ls ds
 | _,_=>False
theorem Stk.get {h:AH}:∀ {ls:List Nat}{ds:List (List Key×List PV)}(k:Nat),Stk h ls ds->k<ls.length->∃ l d,ls[k]?=some l/\ds[k]?=some d/\h[l]?=some (.dct d.1 d.2)
 | l::ls,d::ds,0,s,_=>⟨l,d,rfl,rfl,s.1⟩
 | l::ls,d::ds,k+1,s,hk=>by
  obtain ⟨l',d',e1,e2,e3⟩:=Stk.get k s.2 (by simpa using hk)
  exact ⟨l',d',by simpa using e1,by simpa using e2,e3⟩
 | [],[],_,_,hk=>by simp at hk
 | [],_::_,_,s,_=>s.elim
 | _::_,[],_,s,_=>s.elim
noncomputable def yAk (ds:List (List Key×List PV)) (j:Key):Nat->PV
 | 0=>.non
 | k+1=>match ds[k]? with|some d=>(match yhw d.1 d.2 j with|some x=>x|none=>yAk ds j k)|none=>.non
structure LG (h:AH) (o s b:Nat) (ls:List Nat) (ds:List (List Key×List PV)) (ks:List Key) (xs:List PV):Prop where
 ob:h[o]?=some (.ins 11 ["stack","last_seen"] [.loc s,.loc b])
 st:h[s]?=some (.lst (ls.map .loc))
 sn:h[b]?=some (.dct ks xs)
 dl:Stk h ls ds
theorem yfu {o s b:Nat}(e:h[o]?=some (.ins 11 ["stack","last_seen"] [.loc s,.loc b])):yfC [11] "stack" (.loc o) h=some (.loc s,h):=by
 unfold yfC ygL
 simp only [e]
 rw [if_pos (by rfl'),show idxOf ("stack":Str) ["stack","last_seen"]=0 by rfl']
 rfl
theorem yrm {o s b:Nat}(e:h[o]?=some (.ins 11 ["stack","last_seen"] [.loc s,.loc b])):yfC [11] "last_seen" (.loc o) h=some (.loc b,h):=by
 unfold yfC ygL
 simp only [e]
 rw [if_pos (by rfl'),show idxOf ("last_seen":Str) ["stack","last_seen"]=1 by rfl']
 rfl
theorem yrn {n:Nat}{l:List Nat}{t:Nat}(e:h[n]?=some (.lst ((l++[t]).map PV.loc))):ycu (.loc n) (.int (-1)) h=some (.loc t,h):=by
 unfold ycu
 simp only [e]
 have:atI ((l++[t]).map PV.loc) (-1)=some (.loc t):=by
  unfold atI ixN
  simp
  rw [if_pos (by omega),bind_some,show (-1+((l.length:Int)+1)).toNat=l.length by omega]
  simp
 rw [this]
theorem yxs {n:Nat}{ks:List Key}{xs:List PV}{i:Int}{ek ed:XE}{ρ:PSt}(ek':ek ρ h=some (.int i,h)) (ed':ed ρ h=some (.loc n,h)) (e:h[n]?=some (.dct ks xs)):yyd false ek ed ρ h=some (.bl (yhw ks xs (.inl i)).isSome,h):=by
 unfold yyd
 rw [ek',ybq,ed',ybq]
 unfold ywM
 simp only [e,keyOf]
 rfl
theorem yub {n:Nat}{ks:List Key}{xs:List PV}{i:Int}{x:PV}{ek ed:XE}{ρ:PSt}(ed':ed ρ h=some (.loc n,h)) (ek':ek ρ h=some (.int i,h)) (e:h[n]?=some (.dct ks xs)) (hx:yhw ks xs (.inl i)=some x):yhx ed ek ρ h=some (x,h):=by
 unfold yhx
 rw [ed',ybq,ek',ybq]
 unfold ywM
 simp only [e,keyOf,hx]
theorem yjT {n:Nat}{ks:List Key}{xs:List PV}{i:Int}{x:PV}{ed ek ev:XE}{ρ:PSt}(ev':ev ρ h=some (x,h)) (ed':ed ρ h=some (.loc n,h)) (ek':ek ρ h=some (.int i,h)) (e:h[n]?=some (.dct ks xs)) (hl:ks.length<1000) :
  yjw ed ek ev ρ h=some (.nx ρ,h.set n (.dct (ycQ ks xs (.inl i) x).1 (ycQ ks xs (.inl i) x).2)):=by
 unfold yjw
 rw [ev',ybq,ed',ybq,ek',ybq]
 simp only [e,keyOf]
 rw [if_pos hl]
end
section
variable {h:AH}{o s b:Nat}{ls:List Nat}{ds:List (List Key×List PV)}{ks:List Key}{xs:List PV}
theorem yuc {i:Int}(g:LG h o s b ls ds ks xs):∀ (k:Nat),k<=ls.length->∀ c:PVar,
  ob (ylL s true (yt 2) (ybx (yq (yyd false (ye 1) (ye 2))) (yR (yhx (ye 2) (ye 1))) (yJ)) k (ls.length-k) [.val (.loc o),.val (.int i),c] h) (fun o h1=>ob (sqK (yR (xC .non)) o h1) fnK)=some (yAk ds (.inl i) k,h):=by
 intro k
 induction k with
 | zero =>
  intro _ c
  unfold ylL
  simp only [g.st]
  rw [if_pos (by simp),ybq,yel]
  rfl
 | succ k ih =>
  intro hk c
  unfold ylL
  simp only [g.st]
  obtain ⟨l,d,e1,e2,e3⟩:=g.dl.get k (by omega)
  have e4:(ls.map PV.loc)[k]?=some (.loc l):=by rw [getElem?_map,e1];rfl
  simp only [if_true,e4]
  have er:yt 2 (.loc l) [.val (.loc o),.val (.int i),c]=some [.val (.loc o),.val (.int i),.val (.loc l)]:=rfl
  rw [er,bind_some,yzw,yvd,yxs (n:=l) rfl rfl e3,ybq,yDT,ybq]
  have ek:ls.length-(k+1)+1=ls.length-k:=by omega
  unfold yAk
  simp only [e2]
  cases hg:yhw d.1 d.2 (.inl i) with
  | none =>
   rw [if_neg (by simp),yve,ybq]
   dsimp only
   rw [ek]
   exact ih (by omega) _
  | some x =>
   rw [if_pos (show (some x).isSome=true from rfl),yqv,yub (n:=l) rfl rfl e3 hg,ybq,ybq]
   rfl
theorem yAl {i:Int}(g:LG h o s b ls ds ks xs):ydY [.loc o,.int i] h=some (yAk ds (.inl i) ls.length,h):=by
 unfold ydY
 rw [yp]
 show ob (ym _ _ [.val (.loc o),.val (.int i),.no] h) fnK=_
 rw [ydq]
 have:=yuc (i:=i) g ls.length (Nat.le_refl _) .no
 rw [sub_self] at this
 rw [yzp,<- this]
 unfold yjC
 rw [yjr,show ye 0 [PVar.val (.loc o),.val (.int i),.no] h=some (.loc o,h) from rfl,ybq,yfu g.ob,ybq]
 simp only [g.st,length_map]
theorem yud {i:Int}{v:PV}{t:Nat}{d:List Key×List PV}(g:LG h o s b (ls++[t]) ds ks xs) (ht:h[t]?=some (.dct d.1 d.2)) (hl:d.1.length<1000):yen [.loc o,.int i,v] h=some (.non,h.set t (.dct (ycQ d.1 d.2 (.inl i) v).1 (ycQ d.1 d.2 (.inl i) v).2)):=by
 unfold yen
 rw [yp,ydq,ytq,yCe,yjr,show ye 0 ([PV.loc o,.int i,v].map .val++replicate (4-[PV.loc o,.int i,v].length) .no) h=some (.loc o,h) from rfl,ybq,yfu g.ob,ybq]
 show ob (ob (ob (ycu (.loc s) (.int (-1)) h) _) _) _=_
 rw [yrn g.st,ybq]
 show ob (yjw (ye 3) (ye 1) (ye 2) [.val (.loc o),.val (.int i),.val v,.val (.loc t)] h) fnK=_
 rw [yjT (n:=t) (i:=i) (x:=v) rfl rfl rfl ht hl,ybq]
 rfl
theorem yue (g:LG h o s b ls ds ks xs) (hl:ls.length<1000):yeo [.loc o] h=some (.non,(h++[Nd.dct [] []]).set s (.lst ((ls++[h.length]).map .loc))):=by
 have hs:(h++[Nd.dct [] []])[s]?=some (.lst (ls.map .loc)):=by rw [getElem?_append_left (List.getElem?_eq_some_iff.mp g.st).1];exact g.st
 unfold yeo
 rw [yp,ynJ,yzu,yjr,show ye 0 ([PV.loc o].map .val++replicate (1-[PV.loc o].length) .no) h=some (.loc o,h) from rfl,ybq,yfu g.ob,ybq,if_pos (ydc g.st)]
 show ob (ob (ygM (.loc s) [.loc h.length] (h++[Nd.dct [] []])) _) fnK=_
 rw [yjz hs (by rw [length_map];omega),ybq,ybq,map_append]
 rfl
theorem yro {n:Nat}{l:List Nat}{t:Nat}(e:h[n]?=some (.lst ((l++[t]).map PV.loc))):ygN (.loc n) [] h=some (.loc t,h.set n (.lst (l.map .loc))):=by
 unfold ygN
 simp only [e]
 have:((l++[t]).map PV.loc)[((l++[t]).map PV.loc).length-1]?=some (.loc t):=by simp
 rw [this]
 simp
theorem yxt {t:Nat}(g:LG h o s b (ls++[t]) ds ks xs):yeT [.loc o] h=some (.non,h.set s (.lst (ls.map .loc))):=by
 unfold yeT
 rw [yp,ynJ,yzu,yjr,show ye 0 ([PV.loc o].map .val++replicate (1-[PV.loc o].length) .no) h=some (.loc o,h) from rfl,ybq,yfu g.ob,ybq,if_pos (ydc g.st),ytp,ybq,yro g.st,ybq,ybq]
 rfl
end
section
variable {h:AH}{o s b:Nat}{ls:List Nat}{ds:List (List Key×List PV)}{ks:List Key}{xs:List PV}
theorem yrp {t u:Nat}{dt du:List Key×List PV}(g:LG h o s b (ls++[u]++[t]) ds ks xs) (ho:o≠s) (hus:u≠s) (hts:t≠s) (hut:u≠t) (eu:h[u]?=some (.dct du.1 du.2)) (et:h[t]?=some (.dct dt.1 dt.2)) (hl:du.1.length+dt.1.length<1000) :
  ydI [.loc o] h=some (.non,(h.set s (.lst ((ls++[u]).map .loc))).set u (.dct (yjD dt.1 dt.2 du.1 du.2).1 (yjD dt.1 dt.2 du.1 du.2).2)):=by
 have hs:s<h.length:=(List.getElem?_eq_some_iff.mp g.st).1
 have e1:(h.set s (.lst ((ls++[u]).map PV.loc)))[s]?=some (.lst ((ls++[u]).map PV.loc)):=getElem?_set_self hs
 have e2:(h.set s (.lst ((ls++[u]).map PV.loc)))[o]?=some (.ins 11 ["stack","last_seen"] [.loc s,.loc b]):=(getElem?_set_ne (Ne.symm ho)).trans g.ob
 have e3:(h.set s (.lst ((ls++[u]).map PV.loc)))[u]?=some (.dct du.1 du.2):=(getElem?_set_ne (Ne.symm hus)).trans eu
 have e4:(h.set s (.lst ((ls++[u]).map PV.loc)))[t]?=some (.dct dt.1 dt.2):=(getElem?_set_ne (Ne.symm hts)).trans et
 unfold ydI
 rw [yp,ydq,ytq,yzu,yjr,show ye 0 ([PV.loc o].map .val++replicate (3-[PV.loc o].length) .no) h=some (.loc o,h) from rfl,ybq,yfu g.ob,ybq,if_pos (ydc g.st),ytp,ybq,yro g.st,ybq]
 generalize hh:h.set s (.lst ((ls++[u]).map PV.loc))=h1 at *
 show ob (ym _ _ [.val (.loc o),.val (.loc t),.no] h1) fnK=_
 rw [ydq,ytq,yCe,yjr,show ye 0 [PVar.val (.loc o),.val (.loc t),.no] h1=some (.loc o,h1) from rfl,ybq,yfu e2,ybq]
 show ob (ob (ob (ycu (.loc s) (.int (-1)) h1) _) _) _=_
 rw [yrn e1,ybq]
 show ob (ybf (xBM yoV yyf (ye 2) (yb (ye 1) yh)) [.val (.loc o),.val (.loc t),.val (.loc u)] h1) fnK=_
 rw [ynJ,yzu]
 show ob (ob (if yoV (.loc u) h1=true then yyf (.loc u) [.loc t] h1 else none) _) fnK=_
 rw [if_pos (by unfold yoV ykW;simp only [e3];rfl)]
 unfold yyf
 simp only [e3,e4]
 rw [if_pos ⟨hut,hl⟩,ybq,ybq]
 rfl
end
def At (h:AH) (m:List (Nat×Nd)):Prop:=(m.map (·.1)).Nodup/\∀ p∈m,h[p.1]?=some p.2
section
variable {h:AH}{m a b:List (Nat×Nd)}
theorem At.get (A:At h m) (i:Nat) {n:Nat}{d:Nd}(e:m[i]?=some (n,d)):h[n]?=some d:=A.2 _ (mem_of_getElem? e)
theorem At.lt (A:At h m) {p:Nat×Nd}(hp:p∈m):p.1<h.length:=(List.getElem?_eq_some_iff.mp (A.2 p hp)).1
theorem At.upd {n:Nat}{d:Nd}(d':Nd) (A:At h (a++(n,d)::b)):At (h.set n d') (a++(n,d')::b):=by
 have hn:n<h.length:=A.lt (p:=(n,d)) (by simp)
 refine ⟨by have:=A.1;simpa using this,fun p hp=>?_⟩
 by_cases q:p.1=n
 .have:p=(n,d'):=by
   have nd:=A.1
   rw [map_append,map_cons,List.nodup_append] at nd
   rcases List.mem_append.mp hp with z|z
   .exact absurd q (nd.2.2 _ (List.mem_map_of_mem z) _ mem_cons_self)
   .rcases mem_cons.mp z with z|z
    .exact z
    .exact absurd (show n∈b.map (·.1) by rw [<- q];exact List.mem_map_of_mem z) (List.nodup_cons.mp nd.2.1).1
  rw [this,getElem?_set_self hn]
 .rw [getElem?_set_ne (fun z=>q z.symm)]
  refine A.2 p ?_
  rcases List.mem_append.mp hp with z|z
  .exact mem_append_left _ z
  .rcases mem_cons.mp z with z|z
   .exact absurd (by rw [z]) q
   .exact mem_append_right _ (mem_cons_of_mem _ z)
theorem At.new (d:Nd) (A:At h (a++b)):At (h++[d]) (a++(h.length,d)::b):=by
 have lt:∀ p∈a++b,p.1<h.length:=fun p hp=>A.lt hp
 refine ⟨?_,fun p hp=>?_⟩
 .have nd:=A.1
  rw [map_append,List.nodup_append] at nd
  rw [map_append,map_cons,List.nodup_append]
  refine ⟨nd.1,List.nodup_cons.mpr ⟨fun z=>?_,nd.2.1⟩,fun x hx y hy=>?_⟩
  .obtain ⟨p,hp,e⟩:=List.mem_map.mp z
   have:=lt p (mem_append_right _ hp)
   omega
  .rcases mem_cons.mp hy with rfl|hy
   .obtain ⟨p,hp,e⟩:=List.mem_map.mp hx
    have:=lt p (mem_append_left _ hp)
    omega
   .exact nd.2.2 x hx y hy
 .rcases List.mem_append.mp hp with z|z
  .rw [getElem?_append_left (lt p (mem_append_left _ z))];exact A.2 p (mem_append_left _ z)
  .rcases mem_cons.mp z with z|z
   .rw [z];simp
   .rw [getElem?_append_left (lt p (mem_append_right _ z))];exact A.2 p (mem_append_right _ z)
theorem At.sub {m':List (Nat×Nd)}(A:At h m) (s:m'.Sublist m):At h m':=⟨(s.map _).nodup A.1,fun p hp=>A.2 p (s.subset hp)⟩
theorem At.junk (d:Nd) (A:At h m):At (h++[d]) m:=⟨A.1,fun p hp=>by rw [getElem?_append_left (A.lt hp)];exact A.2 p hp⟩
theorem At.perm {m':List (Nat×Nd)}(A:At h m) (s:m'.Perm m):At h m':=⟨(s.map _).nodup_iff.mpr A.1,fun p hp=>A.2 p (s.subset hp)⟩
theorem fl {n k:Nat}{ns:List Str}{xs:List PV}(i:Nat) {cs:List Nat}{f:Str}{y:PV}(e:h[n]?=some (.ins k ns xs)) (hk:k∈cs) (hi:(decide (f∈ns) && ns.idxOf f == i)=true) (hy:xs[i]?=some y):yfC cs f (.loc n) h=some (y,h):=by
 obtain ⟨h1,h2⟩:=Bool.and_eq_true_iff.mp hi
 have h2:=eq_of_beq h2
 unfold yfC ygL
 simp only [e]
 rw [if_pos ⟨hk,of_decide_eq_true h1⟩,h2,hy]
def ylr (nu ma cr en:Nat):Nd:=.ins 15 ["numbers","marks","crew","entries"] [.loc nu,.loc ma,.loc cr,.loc en]
noncomputable def ydg (ds:List PV) (w nth:Int) (sl:Bool) (bf:List Int) (rn:Nat):Nd:=.ins 14 ["deeds","width","nth","sleeps","before","run"] [.lst ds,.int w,.int nth,.bl sl,.lst (bf.map .int),.loc rn]
noncomputable def yiT (hl:Nat) (w:Int) (lg:Nat) (rows:List PV) (t:Int) (sn sd:Nat):Nd:=.ins 12 ["held","width","log","rows","at","seen_stamps","sides"] [.loc hl,.int w,.loc lg,.lst rows,.int t,.loc sn,.loc sd]
theorem ydm {n nu ma cr en:Nat}(e:h[n]?=some (ylr nu ma cr en)):yfC [15] "numbers" (.loc n) h=some (.loc nu,h)/\yfC [15] "marks" (.loc n) h=some (.loc ma,h)/\yfC [15] "crew" (.loc n) h=some (.loc cr,h)/\yfC [15] "entries" (.loc n) h=some (.loc en,h) :=
 ⟨fl 0 e (by decide) (by rfl') rfl,fl 1 e (by decide) (by rfl') rfl,fl 2 e (by decide) (by rfl') rfl,fl 3 e (by decide) (by rfl') rfl⟩
theorem ydn {n:Nat}{ds:List PV}{w nth:Int}{sl:Bool}{bf:List Int}{rn:Nat}(e:h[n]?=some (ydg ds w nth sl bf rn)):yfC [14] "deeds" (.loc n) h=some (.lst ds,h)/\yfC [12,14] "width" (.loc n) h=some (.int w,h)/\yfC [14] "nth" (.loc n) h=some (.int nth,h)/\yfC [14] "sleeps" (.loc n) h=some (.bl sl,h)/\yfC [14] "before" (.loc n) h=some (.lst (bf.map .int),h)/\yfC [14] "run" (.loc n) h=some (.loc rn,h) :=
 ⟨fl 0 e (by decide) (by rfl') rfl,fl 1 e (by decide) (by rfl') rfl,fl 2 e (by decide) (by rfl') rfl,fl 3 e (by decide) (by rfl') rfl,fl 4 e (by decide) (by rfl') rfl,fl 5 e (by decide) (by rfl') rfl⟩
theorem ycK {n hl:Nat}{w:Int}{lg:Nat}{rows:List PV}{t:Int}{sn sd:Nat}(e:h[n]?=some (yiT hl w lg rows t sn sd)):yfC [12] "held" (.loc n) h=some (.loc hl,h)/\yfC [12,14] "width" (.loc n) h=some (.int w,h)/\yfC [12] "log" (.loc n) h=some (.loc lg,h)/\yfC [12] "rows" (.loc n) h=some (.lst rows,h)/\yfC [10,12] "at" (.loc n) h=some (.int t,h)/\yfC [12] "seen_stamps" (.loc n) h=some (.loc sn,h)/\yfC [12] "sides" (.loc n) h=some (.loc sd,h) :=
 ⟨fl 0 e (by decide) (by rfl') rfl,fl 1 e (by decide) (by rfl') rfl,fl 2 e (by decide) (by rfl') rfl,fl 3 e (by decide) (by rfl') rfl,fl 4 e (by decide) (by rfl') rfl,fl 5 e (by decide) (by rfl') rfl,fl 6 e (by decide) (by rfl') rfl⟩
end
def mK (k:Nat) (m:Str) (f:Fn) (as:XA) (ρ:PSt) (x:PV) (h1:AH):Option (PV×AH):=match ygL x h1 with
 | some (k',ns,_)=>if k'=k/\m∉ns then ob (as ρ h1) fun ys h2=>f (x::ys) h2 else none
 | none=>none
def fL (cs:List Nat) (f:Str) (ρ:PSt) (y x:PV) (h2:AH):Option (Out×AH):=match x with
 | .loc n=>(match h2[n]? with|some (.ins k ns xs)=>if k∈cs/\ns.length<1000 then some (.nx ρ,h2.set n (.ins k (putN f y ns xs).1 (putN f y ns xs).2)) else none|_=>none)
 | _=>none
section
variable {h:AH}{ρ:PSt}
theorem yct {k:Nat}{m:Str}{f:Fn}{e:XE}{as:XA}:yk k m f e as ρ h=ob (e ρ h) fun x h1=>mK k m f as ρ x h1:=id rfl
theorem yrq {cs:List Nat}{f:Str}{eo ev:XE}:ydd cs f eo ev ρ h=ob (ev ρ h) fun y h1=>ob (eo ρ h1) fun x h2=>fL cs f ρ y x h2:=id rfl
theorem yE {n k:Nat}{ns:List Str}{xs:List PV}{m:Str}{f:Fn}{as:XA}(e:h[n]?=some (.ins k ns xs)) (hm:decide (m∈ns)=false):mK k m f as ρ (.loc n) h=ob (as ρ h) fun ys h2=>f (.loc n::ys) h2:=by
 unfold mK ygL
 simp only [e]
 rw [if_pos ⟨trivial,of_decide_eq_false hm⟩]
theorem yeK {n k:Nat}{ns ns':List Str}{xs xs':List PV}{cs:List Nat}{f:Str}{y:PV}(e:h[n]?=some (.ins k ns xs)) (hk:(decide (k∈cs) && decide (ns.length<1000))=true) (hp:putN f y ns xs=(ns',xs')):fL cs f ρ y (.loc n) h=some (.nx ρ,h.set n (.ins k ns' xs')):=by
 obtain ⟨h1,h2⟩:=Bool.and_eq_true_iff.mp hk
 unfold fL
 simp only [e]
 rw [if_pos ⟨of_decide_eq_true h1,of_decide_eq_true h2⟩,hp]
end
def W5:List Str:=["plus","minus","times","less","same"]
theorem yuf {w:Str}(h:w∈W5):w = "plus"\/w = "minus"\/w = "times"\/w = "less"\/w = "same":=by simpa [W5] using h
inductive Rw where
 | let_ (r:Str) (n:Int)|take (r p:Str)|put (p s:Str)|throw (nm r:Str)|wait|either (k:Int)|guard (nm r:Str) (k:Int)|settle|reckon (w r s t:Str)|jump (k:Int)|lay
noncomputable def yV:Rw->PV
 | .let_ r n=>.tup [.str "let",.str r,.int n]
 | .take r p=>.tup [.str "take",.str r,.str p]
 | .put p s=>.tup [.str "put",.str p,.str s]
 | .throw nm r=>.tup [.str "throw",.str nm,.str r]
 | .wait=>.tup [.str "wait"]
 | .either k=>.tup [.str "either",.int k]
 | .guard nm r k=>.tup [.str "guard",.str nm,.str r,.int k]
 | .settle=>.tup [.str "settle"]
 | .jump k=>.tup [.str "jump",.int k]
 | .reckon w r s t=>.tup [.str w,.str r,.str s,.str t]
 | .lay=>.tup [.str "lay"]
def rdr (ws:List Str) (k:Nat):Nd:=.ins 10 ["words","at"] [.lst (ws.map .str),.int k]
def hR (h:AH) (o:Nat) (ws:List Str) (k:Nat):AH:=h.set o (rdr ws k)
def hdV:List Str->PV
 | []=>.non
 | w::_=>.str w
def Tk (m:Str) (f:Fn) (xs:List PV) (v:PV) (w:List Str):Prop:=∀ ⦃h:AH⦄ ⦃o:Nat⦄ ⦃ws:List Str⦄ ⦃k:Nat⦄ ⦃r:List Str⦄ ⦃as:XA⦄ ⦃ρ:PSt⦄,o<h.length/\ws.length<=100000->ws.drop k=w++r->as ρ (hR h o ws k)=some (xs,hR h o ws k)->mK 10 m f as ρ (.loc o) (hR h o ws k)=some (v,hR h o ws (k+w.length))
section
variable {h:AH}{o:Nat}{ws:List Str}{k:Nat}{w m:Str}{r:List Str}{f:Fn}{xs:List PV}{v:PV}{ρ:PSt}
theorem yoY (ho:o<h.length):(hR h o ws k)[o]?=some (rdr ws k):=getElem?_set_self ho
theorem Tk.mk {w:List Str}(hm:decide (m∈(["words","at"]:List Str))=false) (H:∀ {h:AH}{o:Nat}{ws:List Str}{k:Nat}{r:List Str},o<h.length/\ws.length<=100000->ws.drop k=w++r->f (.loc o::xs) (hR h o ws k)=some (v,hR h o ws (k+w.length))):Tk m f xs v w:=fun _ _ _ _ _ _ _ G e ea=>by
 rw [yE (yoY G.1) hm,ea,ybq,H G e]
theorem yok (ho:o<h.length):yfC [10] "words" (.loc o) (hR h o ws k)=some (.lst (ws.map .str),hR h o ws k):=fl 0 (yoY ho) (by decide) (by rfl') rfl
theorem yxu (ho:o<h.length):yfC [10,12] "at" (.loc o) (hR h o ws k)=some (.int k,hR h o ws k):=fl 1 (yoY ho) (by decide) (by rfl') rfl
theorem pR {j:Nat}(ho:o<h.length):fL [10,12] "at" ρ (.int (j:Int)) (.loc o) (hR h o ws k)=some (.nx ρ,hR h o ws j):=(yeK (ns':=["words","at"]) (xs':=[.lst (ws.map .str),.int j]) (yoY ho) (by decide) (by kernel_rfl!)).trans (by unfold hR rdr;rw [List.set_set])
theorem yEh (e:ws.drop k=w::r):ws[k]?=some w/\k<ws.length/\ws.drop (k+1)=r:=by
 have hk:k<ws.length:=Classical.byContradiction fun z=>by rw [List.drop_of_length_le (by omega)] at e;cases e
 rw [List.drop_eq_getElem_cons hk] at e
 cases e
 exact ⟨List.getElem?_eq_getElem hk,hk,rfl⟩
theorem d_1 (e:ws.drop k=w::r):ws.drop (k+1)=r:=(yEh e).2.2
theorem yrr {a b:List Str}(e:ws.drop k=a++b):ws.drop (k+a.length)=b:=by
 rw [<- List.drop_drop,e,List.drop_left]
variable (G:o<h.length/\ws.length<=100000)
include G
theorem yer (e:ws.drop k=r):mK 10 "ahead" ybt yh ρ (.loc o) (hR h o ws k)=some (hdV r,hR h o ws k):=by
 rw [yE (yoY G.1) (by rfl'),ytp,ybq]
 unfold ybt
 rw [yp]
 show ob (ym _ _ [.val (.loc o)] (hR h o ws k)) fnK=_
 cases r with
 | nil=>simp_all? only [yok G.1,yxu G.1,length_map,Int.ofNat_lt,show ¬ k<ws.length from by have:=List.drop_eq_nil_iff.mp e;omega,G.2,hdV,↓reduceIte]
 | cons w r =>
  obtain ⟨e1,e2,_⟩:=yEh e
  have e3:atI (ws.map PV.str) (k:Int)=some (.str w):=ydw (by rw [getElem?_map,e1];rfl)
  simp_all? only [yok G.1,yxu G.1,length_map,Int.ofNat_lt,e2,e3,G.2,hdV,↓reduceIte]
end
section
variable {w nm a b c:Str}{n:Int}
theorem ymN {w:Str}:(isN (.str w)=true)=False:=eq_false (by intro z;cases z)
theorem yxv {w:Int}:(isN (.int w)=true)=False:=eq_false (by intro z;cases z)
theorem ygr:Tk "taken" ybu [] (.str w) [w]:=.mk (by rfl') fun {h o ws k r} G e=>by
 unfold ybu
 rw [yp]
 show ob (ym _ _ [.val (.loc o),.no] (hR h o ws k)) fnK=_
 simp_all? only [yct,yer G e,hdV,List.cons_append,ymN,yxu G.1,yrq,↓reduceIte]
 rw [show (k:Int)+1=(k+1:Nat) from rfl,pR G.1]
 symm
theorem yls:Tk "pass_over" yT [.str w] .non [w]:=.mk (by rfl') fun {h o ws k r} G e=>by
 unfold yT
 rw [yp]
 show ob (ym _ _ [.val (.loc o),.val (.str w),.no] (hR h o ws k)) fnK=_
 simp_all? only [yct,ygr G e]
def yee (r:Str):Prop:=∀ h,yhI [.str r] h=some (.bl true,h)
theorem ygC (g:yee w):Tk "slot_taken" yA [] (.str w) [w]:=.mk (by rfl') fun {h o ws k r} G e=>by
 unfold yA
 rw [yp]
 show ob (ym _ _ [.val (.loc o),.no] (hR h o ws k)) fnK=_
 simp_all? only [yct,ygr G e,g _]
def yol (r:Str):Prop:=∀ h,yhJ [.str r] h=some (.bl true,h)
theorem yvu (g:yol w):Tk "name_taken" ybA [] (.str w) [w]:=.mk (by rfl') fun {h o ws k r} G e=>by
 unfold ybA
 rw [yp]
 show ob (ym _ _ [.val (.loc o),.no] (hR h o ws k)) fnK=_
 simp_all? only [yct,ygr G e,g _]
theorem yug (g:0<=n/\n<B64):Tk "number_taken" ybM [] (.int n) [(toString n:String)]:=.mk (by rfl') fun {h o ws k r} G e=>by
 unfold ybM
 rw [yp]
 show ob (ym _ _ [.val (.loc o),.no,.no] (hR h o ws k)) fnK=_
 simp_all? only [yct,ygr G e,ylm g.1 g.2,yxv,↓reduceIte]
theorem yCS {i:Nat}{l:Str}{A B:XS}{ρ:PSt}{h:AH}(e:ρ[i]?=some (.val (.str w))) (n:decide (w=l)=false):ym (ybx (yq (xOp oEq (ye i) (xC (.str l)))) A yJ) B ρ h=B ρ h:=by
 have e1:ye i ρ h=some (.str w,h):=by unfold ye;rw [e]
 simp_all? only [e1,of_decide_eq_false n,↓reduceIte]
theorem yuh (ga:yee a) (gb:yee b) (gc:yee c):Tk "reckon_taken" ybN [.str w] (.ins 2 ["word","slot","one","other"] [.str w,.str a,.str b,.str c]) [a,b,c]:=.mk (by rfl') fun {h o ws k r} G e=>by
 unfold ybN
 rw [yp]
 show ob (ym _ _ [.val (.loc o),.val (.str w),.no,.no,.no] (hR h o ws k)) fnK=_
 simp_all? only [yct,ygC ga G e,ygC gb G (d_1 e),ygC gc G (d_1 (d_1 e))]
 rfl
end
section
variable {w nm a b:Str}{n:Int}
theorem yCT (ga:yee a) (g:0<=n/\n<B64):Tk "plain_taken" yw [.str "let"] (.ins 1 ["slot","number"] [.str a,.int n]) [a,(tI n)]:=.mk (by rfl') fun {h o ws k r} G e=>by
 unfold yw
 rw [yp]
 show ob (ym _ _ [.val (.loc o),.val (.str "let"),.no,.no,.no] (hR h o ws k)) fnK=_
 simp_all? only [yct,ygC ga G e,yug g G (d_1 e)]
 rfl
theorem yvv (ga:yee a) (gb:yee b):Tk "plain_taken" yw [.str "take"] (.ins 3 ["slot","place"] [.str a,.str b]) [a,b]/\Tk "plain_taken" yw [.str "put"] (.ins 4 ["place","slot"] [.str a,.str b]) [a,b]:=by
 constructor
 all_goals
  refine .mk (by rfl') fun {h o ws k r} G e=>?_
  unfold yw
  rw [yp]
  show ob (ym _ _ [.val (.loc o),.val (.str _),.no,.no,.no] (hR h o ws k)) fnK=_
  repeat rw [yCS rfl (by rfl')]
  simp_all? only [yct,ygC ga G e,ygC gb G (d_1 e)]
  rfl
theorem yxw (ga:yol a) (gb:yee b):Tk "plain_taken" yw [.str "throw"] (.ins 8 ["name","slot"] [.str a,.str b]) [a,b]:=.mk (by rfl') fun {h o ws k r} G e=>by
 unfold yw
 rw [yp]
 show ob (ym _ _ [.val (.loc o),.val (.str "throw"),.no,.no,.no] (hR h o ws k)) fnK=_
 repeat rw [yCS rfl (by rfl')]
 simp_all? only [yct,yvu ga G e,ygC gb G (d_1 e)]
 rfl
theorem yAm:Tk "plain_taken" yw [.str "wait"] (.ins 9 [] []) []:=.mk (by rfl') fun _ _=>by kernel_rfl!
theorem yui {c:Str}(g:w∈W5) (ga:yee a) (gb:yee b) (gc:yee c):Tk "plain_taken" yw [.str w] (.ins 2 ["word","slot","one","other"] [.str w,.str a,.str b,.str c]) [a,b,c]:=.mk (by rfl') fun {h o ws k r} G e=>by
 have e1:∀ h,yhH [.str w] h=some (.bl true,h):=fun h=>by rcases yuf g with rfl|rfl|rfl|rfl|rfl<;>kernel_rfl!
 unfold yw
 rw [yp]
 show ob (ym _ _ [.val (.loc o),.val (.str w),.no,.no,.no] (hR h o ws k)) fnK=_
 have e2:∀ l∈(["let","take","put","throw","wait"]:List Str),decide (w=l)=false:=by rcases yuf g with rfl|rfl|rfl|rfl|rfl<;>rfl'
 repeat rw [yCS rfl (e2 _ (by simp))]
 simp_all? only [yct,e1,yuh (w:=w) ga gb gc G e]
end
section
variable {n:Nat}{ar:Int}{w:Str}{tl wa wb:List Str}{v:PV}{va vb:List PV}
theorem yiU (nw:(decide (w = "if") || decide (w = "either") || decide (w = "try"))=false) (ha:ar<=8) (P:Tk "plain_taken" yw [.str w] v tl):Tk "part_taken" (yK (n+1)) [.int ar] v (w::tl):=.mk (by rfl') fun {h o ws k r} G e=>by
 simp only [Bool.or_eq_false_iff,decide_eq_false_iff_not] at nw
 unfold yK
 rw [yp]
 show ob (ym _ _ [.val (.loc o),.val (.int ar),.no] (hR h o ws k)) fnK=_
 simp_all? only [show (ar>8)=False from eq_false (by omega),yct,ygr G e,nw.1.1,nw.1.2,nw.2,P G (d_1 e),↓reduceIte]
 rw [show k+1+tl.length=k+(tl.length+1) by omega]
theorem yuj (A:Tk "side_taken" (yF n) [.int ar] (.lst va) wa) (B:Tk "side_taken" (yF n) [.int ar] (.lst vb) wb):Tk "either_taken" (ybj (n+1)) [.int ar] (.ins 6 ["parts","others"] [.lst va,.lst vb]) (wa++("or":Str)::wb):=.mk (by rfl') fun {h o ws k r} G e=>by
 rw [append_assoc] at e
 have e2:=yrr e
 unfold ybj
 rw [yp]
 show ob (ym _ _ [.val (.loc o),.val (.int ar),.no,.no] (hR h o ws k)) fnK=_
 simp_all? only [yct,A G e,yls (w:="or") G e2,B G (d_1 e2)]
 rw [length_append,show k+wa.length+1+wb.length=k+(wa.length+(wb.length+1)) by omega]
 rfl
theorem yCU {nm s:Str}(gn:yol nm) (gs:yee s) (A:Tk "side_taken" (yF n) [.int ar] (.lst va) wa) (B:Tk "side_taken" (yF n) [.int ar] (.lst vb) wb):Tk "try_taken" (ybO (n+1)) [.int ar] (.ins 7 ["parts","name","slot","others"] [.lst va,.str nm,.str s,.lst vb]) (wa++("on":Str)::nm::s::wb):=.mk (by rfl') fun {h o ws k r} G e=>by
 rw [append_assoc] at e
 have e2:=yrr e
 unfold ybO
 rw [yp]
 show ob (ym _ _ [.val (.loc o),.val (.int ar),.no,.no,.no,.no] (hR h o ws k)) fnK=_
 simp_all? only [yct,A G e,yls (w:="on") G e2,yvu gn G (d_1 e2),ygC gs G (d_1 (d_1 e2)),B G (d_1 (d_1 (d_1 e2)))]
 rw [length_append,show k+wa.length+3+wb.length=k+(wa.length+(wb.length+3)) by omega]
 rfl
theorem yrs (ha:ar<=8):(Tk "either_taken" (ybj n) [.int (ar+1)] v tl->Tk "part_taken" (yK (n+1)) [.int ar] v ("either"::tl))/\(Tk "try_taken" (ybO n) [.int (ar+1)] v tl->Tk "part_taken" (yK (n+1)) [.int ar] v ("try"::tl)):=by
 constructor
 all_goals
  refine fun P=>.mk (by rfl') fun {h o ws k r} G e=>?_
  unfold yK
  rw [yp]
  show ob (ym _ _ [.val (.loc o),.val (.int ar),.no] (hR h o ws k)) fnK=_
  simp_all? only [show (ar>8)=False from eq_false (by omega),yct,ygr G e,show (("either":Str) = "if")=False from eq_false (by rfl'),show (("try":Str) = "if")=False from eq_false (by rfl'),show (("try":Str) = "either")=False from eq_false (by rfl'),P G (d_1 e),↓reduceIte]
  rw [show k+1+tl.length=k+(tl.length+1) by omega]
abbrev Q:=PV×List Str
def wr:List Q->List Str
 | []=>[]
 | q::l=>";"::(q.2++wr l)
def wl:List Q->List Str
 | []=>[]
 | q::l=>q.2++wr l
def PQ (n:Nat) (ar:Int) (q:Q):Prop:=Tk "part_taken" (yK n) [.int ar] q.1 q.2/\∃ w tl,q.2=w::tl/\(w = ")")=False
def yoZ (n:Nat):XS:=ym (ybf (yk 10 "pass_over" yT (ye 0) (yb (xC (.str ";")) (yh)))) (ymr 2 (yk 10 "part_taken" (yK n) (ye 0) (yb (ye 1) (yh))))
variable {h:AH}{o:Nat}{ws rest:List Str}{as:XA}{ρ:PSt}(G:o<h.length/\ws.length<=100000) (hr:rest=[]\/∃ r,rest=(")":Str)::r)
include G hr
theorem yrt:∀ (l:List Q) (acc:List PV) (k fu:Nat),(∀ q∈l,PQ n ar q)->l.length<fu->acc.length+l.length<=1000->ws.drop k=wr l++rest ->
  whl yjH (yoZ n) fu [.val (.loc o),.val (.int ar),.own (.lst acc)] (hR h o ws k)=some (.nx [.val (.loc o),.val (.int ar),.own (.lst (acc++l.map (·.1)))],hR h o ws (k+(wr l).length))
 | [],acc,k,fu+1,_,_,_,e=>by
  have c:yjH [.val (.loc o),.val (.int ar),.own (.lst acc)] (hR h o ws k)=some (false,hR h o ws k):=by
   unfold yjH
   simp_all? only [yct,yer G (show ws.drop k=rest from e)]
   rcases hr with rfl|⟨r,rfl⟩<;>kernel_rfl!
  rw [ynS,c,ybq,if_neg (by intro z;cases z),map_nil,append_nil]
  rfl
 | q::l,acc,k,fu+1,H,hu,ha,e=>by
  have e:ws.drop k=(";":Str)::(q.2++(wr l++rest)):=by rw [e,<- append_assoc];rfl
  have e1:=d_1 e
  rw [length_cons] at hu ha
  have c:yjH [.val (.loc o),.val (.int ar),.own (.lst acc)] (hR h o ws k)=some (true,hR h o ws k):=by
   unfold yjH
   simp_all? only [yct,yer G e,hdV]
  have b:yoZ n [.val (.loc o),.val (.int ar),.own (.lst acc)] (hR h o ws k)=some (.nx [.val (.loc o),.val (.int ar),.own (.lst (acc++[q.1]))],hR h o ws (k+1+q.2.length)):=by
   unfold yoZ
   simp_all? only [yct,yls (w:=";") G e]
   rw [yzN rfl]
   simp_all? only [yct,(H q mem_cons_self).1 G e1,show acc.length<100000 by omega,↓reduceIte]
  rw [ynS,c,ybq,if_pos rfl,b,ybq]
  show whl yjH (yoZ n) fu _ _=_
  rw [yrt l (acc++[q.1]) (k+1+q.2.length) fu (fun q h=>H q (mem_cons_of_mem _ h)) (by omega) (by rw [length_append,List.length_singleton];omega) (yrr e1),append_assoc,show k+1+q.2.length+(wr l).length=k+(wr (q::l)).length by show _=k+((q.2++wr l).length+1);rw [length_append];omega]
  rfl
theorem list_eq {l:List Q}{k:Nat}(H:∀ q∈l,PQ n ar q) (hc:l.length<=90) (e:ws.drop k=wl l++rest) (ea:as ρ (hR h o ws k)=some ([.int ar],hR h o ws k)) :
  mK 10 "list_taken" (ybB (n+1)) as ρ (.loc o) (hR h o ws k)=some (.lst (l.map (·.1)),hR h o ws (k+(wl l).length)):=by
 rw [yE (yoY G.1) (by rfl'),ea,ybq]
 unfold ybB
 rw [yp]
 show ob (ym _ (ym _ (ym (yfa 100 yjH (yoZ n)) _)) [.val (.loc o),.val (.int ar),.no] (hR h o ws k)) fnK=_
 cases l with
 | nil =>
  have e:ws.drop k=rest:=e
  rcases hr with rfl|⟨r,rfl⟩
  .simp_all? only [yct,yer G e,hdV]
   rfl
  .simp_all? only [yct,yer G e,hdV,ymN,↓reduceIte]
   rfl
 | cons q l =>
  obtain ⟨P,w,tl,ew,nw⟩:=H q mem_cons_self
  have e:ws.drop k=q.2++(wr l++rest):=by rw [e,<- append_assoc];rfl
  have e0:ws.drop k=w::(tl++(wr l++rest)):=by rw [e,ew];rfl
  rw [length_cons] at hc
  have lp:=yrt (n:=n) (ar:=ar) G hr l [q.1] (k+q.2.length) 100 (fun q h=>H q (mem_cons_of_mem _ h)) (by omega) (by rw [List.length_singleton];omega) (yrr e)
  simp_all? only [yct,yer G e0,hdV,ymN,nw,P G e,↓reduceIte]
  rw [show yfa 100 yjH (yoZ n) [.val (.loc o),.val (.int ar),.own (.lst [q.1])] (hR h o ws (k+q.2.length))=_ from lp]
  symm
  rw [show k+q.2.length+(wr l).length=k+(wl (q::l)).length by show _=k+(q.2++wr l).length;rw [length_append];omega]
  rfl
omit G hr
theorem yom {l:List Q}(H:∀ q∈l,PQ n ar q) (hc:l.length<=90):Tk "side_taken" (yF (n+2)) [.int ar] (.lst (l.map (·.1))) (("(":Str)::(wl l++[(")":Str)])):=.mk (by rfl') fun {h o ws k r} G e=>by
 have e:ws.drop k=("(":Str)::(wl l++(")":Str)::r):=by rw [e];simp
 unfold yF
 rw [yp]
 show ob (ym _ _ [.val (.loc o),.val (.int ar),.no] (hR h o ws k)) fnK=_
 simp_all? only [yct,yls (w:="(") G e,list_eq G (.inr ⟨_,rfl⟩) H hc (d_1 e),yls (w:=")") G (yrr (d_1 e))]
 rw [length_append,show k+1+(wl l).length+1=k+((wl l).length+1+1) by omega]
 rfl
end
def SL:List Str:=["a","b","c","d","e","f","g","h"]
def sx (r:Str):Nat:=SL.idxOf r
section
variable {h:AH}{n hl lg sn sd:Nat}{w t:Int}{rows:List PV}{hs:List Int}{r:Str}
theorem yfS (hr:r∈SL):ydJ [.str r] h=some (.int (sx r),h):=by
 unfold SL at hr
 simp only [mem_cons,List.not_mem_nil,or_false] at hr
 rcases hr with rfl|rfl|rfl|rfl|rfl|rfl|rfl|rfl<;>kernel_rfl!
theorem yAn (hr:r∈SL):sx r<8:=List.idxOf_lt_length_of_mem hr
theorem yes {n:Nat}{xs:List Int}{i:Nat}(e:h[n]?=some (.lst (xs.map .int))) (hi:i<xs.length):ycu (.loc n) (.int i) h=some (.int (xs.getD i 0),h):=by
 unfold ycu
 simp only [e]
 have:(xs.map PV.int)[i]?=some (.int (xs.getD i 0)):=by
  rw [getElem?_map,List.getElem?_eq_getElem hi,getD_eq_getElem?_getD,List.getElem?_eq_getElem hi];rfl
 rw [ydw this]
theorem yhO {rw:PV}(e:h[n]?=some (yiT hl w lg rows t sn sd)) {i:Nat}(ht:t=i) (er:rows[i]?=some rw):ydz [.loc n] h=some (rw,h):=by
 obtain ⟨f1,f2,f3,f4,f5,f6,f7⟩:=ycK e
 subst ht
 unfold ydz
 rw [yp]
 show ob (yR _ [.val (.loc n)] h) fnK=_
 simp_all? only [f4,f5]
 rw [ydw er]
 rfl
variable (e:h[n]?=some (yiT hl w lg rows t sn sd)) (eh:h[hl]?=some (.lst (hs.map .int))) (h8:hs.length=8) (hr:r∈SL)
include e eh h8 hr
theorem ydv:ybi [.loc n,.str r] h=some (.int (hs.getD (sx r) 0),h):=by
 obtain ⟨f1,f2,f3,f4,f5,f6,f7⟩:=ycK e
 unfold ybi
 rw [yp]
 show ob (yR _ [.val (.loc n),.val (.str r)] h) fnK=_
 simp_all? only [f1,yfS hr]
 rw [yes eh (by rw [h8];exact yAn hr),ybq]
theorem yhP {v:Int}:ybW [.loc n,.str r,.int v] h=some (.non,h.set hl (.lst ((hs.set (sx r) v).map .int))):=by
 obtain ⟨f1,f2,f3,f4,f5,f6,f7⟩:=ycK e
 unfold ybW
 rw [yp]
 show ob (ygO _ _ _ [.val (.loc n),.val (.str r),.val (.int v)] h) fnK=_
 unfold ygO
 show ob (ob (some (PV.int v,h)) _) _=_
 rw [ybq]
 simp_all? only [f1,yfS hr]
 have hi:sx r<hs.length:=by rw [h8];exact yAn hr
 have e':ixN (hs.map PV.int).length (sx r:Nat)=some (sx r):=by
  unfold ixN
  simp [hi]
 simp only [eh,e']
 rw [ybq,map_set]
 rfl
theorem yeL (hw:1<=w):ybL [.loc n,.str r] h=some (.int (hs.getD (sx r) 0%w),h):=by
 obtain ⟨f1,f2,f3,f4,f5,f6,f7⟩:=ycK e
 unfold ybL
 rw [yp]
 show ob (yR _ [.val (.loc n),.val (.str r)] h) fnK=_
 simp_all? only [yct,yE (m:="held_in") e (by rfl'),ydv e eh h8 hr,f2]
 rw [if_pos (by omega)]
end
def ygD:Rw->Rw->Bool
 | .either _,.wait=>true
 | .guard nm _ _,.throw nm' _=>decide (nm=nm')
 | _,_=>false
def ymO:Rw->Bool|.either _=>true|.guard ..=>true|_=>false
def yuk:Rw->Bool|.wait=>true|.throw ..=>true|_=>false
def sdV (s:Rw×List Int):PV:=.tup [yV s.1,.lst (s.2.map .int)]
noncomputable def tkL (sd:List (Rw×List Int)) (r:Rw):Nat->Nat
 | 0=>0
 | k+1=>match sd[k]? with|some s=>if ygD s.1 r then k+1 else tkL sd r k|none=>0
section
variable {h:AH}{n hl lg sn sdl:Nat}{w t:Int}{rows:List PV}{hs:List Int}{r:Rw}{sd:List (Rw×List Int)}
theorem yul {b:Rw}(hb:ymO b=true) (hr:yuk r=true):yhK [yV b,yV r] h=some (.bl (ygD b r),h):=by
 cases b<;>first|(cases hb;done)|skip
 all_goals cases r<;>first|(cases hr;done)|kernel_rfl!|skip
 rename_i nm _ _ nm' _
 unfold yhK
 rw [yp]
 show ob (ym _ _ [.val (yV (.guard nm _ _)),.val (yV (.throw nm' _))] h) fnK=_
 unfold yV
 simp_all? only [ygB]
 rfl
theorem yum {c:XT}{s:XS}{k:Nat}{ρ:PSt}:whl c s (k+1) ρ h=ob (c ρ h) fun k' h1=>if k'=true then ob (s ρ h1) fun o h2=>(match o with|.nx ρ'=>whl c s k ρ' h2|.ct ρ'=>whl c s k ρ' h2|.bk ρ'=>some (.nx ρ',h2)|.rt y=>some (.rt y,h2)) else some (.nx ρ,h1):=rfl
theorem yon (e:h[n]?=some (yiT hl w lg rows t sn sdl)) (es:h[sdl]?=some (.lst (sd.map sdV))) (hb:∀ s∈sd,ymO s.1=true) (hr:yuk r=true) (hl9:sd.length<900):ybh [.loc n,yV r] h=some (.int (tkL sd r sd.length),h):=by
 obtain ⟨f1,f2,f3,f4,f5,f6,f7⟩:=ycK e
 unfold ybh
 rw [yp]
 show ob (ym _ (ym (yfa 1000 _ _) _) [.val (.loc n),.val (yV r),.no] h) fnK=_
 have lp:∀ (c:XT) (s:XS),c=(yuW (yq (xOp (oGt) (ye 2) (xC (.int 0)))) (ykP (yq (yY yhK (yb (xOp (ybb) (xOp (ycu) (ybd [12] "sides" (ye 0)) (xOp ysn (ye 2) (xC (.int 1)))) (xC (.int 0))) (yb (ye 1) (yh)))))))->s=(ybn (xOp ysn (ye 2) (xC (.int 1))) (yt 2)) ->
   ∀ (k f:Nat),k<=sd.length->k<f->whl c s f [.val (.loc n),.val (yV r),.val (.int k)] h=some (.nx [.val (.loc n),.val (yV r),.val (.int (tkL sd r k))],h):=by
  intro c s hc hs k
  induction k with
  | zero =>
   intro f _ hf
   obtain ⟨f,rfl⟩:∃ g,f=g+1:=⟨f-1,by omega⟩
   subst hc hs
   rw [yum]
   rfl
  | succ k ih =>
   intro f hk hf
   obtain ⟨f,rfl⟩:∃ g,f=g+1:=⟨f-1,by omega⟩
   have hlt:k<sd.length:=hk
   have ge:sd[k]?=some sd[k]:=List.getElem?_eq_getElem hlt
   have i1:ycu (.loc sdl) (.int (((k+1:Nat):Int)-1)) h=some (sdV sd[k],h):=by
    unfold ycu
    simp only [es]
    rw [show ((k+1:Nat):Int)-1=(k:Nat) by omega,ydw (by rw [getElem?_map,ge];rfl)]
   have i2:ybb (sdV sd[k]) (.int 0) h=some (yV sd[k].1,h):=rfl
   have i3:=yul (h:=h) (hb sd[k] (getElem_mem hlt)) hr
   have i4:oGt (.int ((k+1:Nat):Int)) (.int 0) h=some (.bl true,h):=by
    show some (PV.bl (decide ((0:Int)<((k+1:Nat):Int))),h)=_
    rw [decide_eq_true (by omega)]
   have ec:c [.val (.loc n),.val (yV r),.val (.int ((k+1:Nat):Int))] h=some (!(ygD sd[k].1 r),h):=by
    subst hc
    show ob _ _=_
    simp_all? only [f7,i1,i2,i3,i4]
   rw [yum,ec,ybq]
   show (if (!(ygD sd[k].1 r))=true then _ else _)=some (Out.nx [_,_,.val (.int ((match sd[k]? with|some s=>if ygD s.1 r then k+1 else tkL sd r k|none=>0:Nat):Int))],h)
   rw [ge]
   cases ht:ygD sd[k].1 r with
   | true=>simp only [Bool.not_true,if_true,ht];rfl
   | false =>
    simp only [Bool.not_false,if_true,ht,Bool.false_eq_true,if_false]
    have:=ih f (by omega) (by omega)
    rw [<- this]
    subst hs
    show ob (some (Out.nx [.val (.loc n),.val (yV r),.val (.int (((k+1:Nat):Int)-1))],h)) _=_
    rw [ybq,show ((k+1:Nat):Int)-1=(k:Nat) by omega]
 have l1:ycg [.loc sdl] h=some (.int sd.length,h):=by rw [yjy es,length_map]
 have l2:=lp _ _ rfl rfl sd.length 1000 (Nat.le_refl _) (by omega)
 simp_all? only [f7,l1]
 exact (congrArg (ob · _) l2).trans rfl
end
section
variable {h:AH}{n hl lg sn sdl:Nat}{w:Int}{rows:List PV}{t:Nat}{r:Rw}
theorem yoo {j:Int}{t:Int}{ρ:PSt}(e:h[n]?=some (yiT hl w lg rows t sn sdl)):fL [10,12] "at" ρ (.int j) (.loc n) h=some (.nx ρ,h.set n (yiT hl w lg rows j sn sdl)):=yeK e (by decide) (by kernel_rfl!)
theorem yun {j:Nat}{t:Int}{ρ:PSt}(e:h[n]?=some (yiT hl w lg rows t sn sdl)):fL [12] "held" ρ (.loc j) (.loc n) h=some (.nx ρ,h.set n (yiT j w lg rows t sn sdl)):=yeK e (by decide) (by kernel_rfl!)
theorem yjU (e:h[n]?=some (yiT hl w lg rows t sn sdl)) (er:rows[t]?=some (yV r)):ycr [.loc n] h=ob (goB [.val (.loc n),.val (yV r)] (h.set n (yiT hl w lg rows (t+1:Nat) sn sdl))) fnK:=by
 obtain ⟨f1,f2,f3,f4,f5,f6,f7⟩:=ycK e
 unfold ycr
 rw [yp]
 show ob (ym _ (ym _ goB) [.val (.loc n),.no] h) fnK=_
 simp_all? only [yct,yE (m:="row") e (by rfl'),yhO e rfl er,f5,yrq,yoo e]
 rfl
theorem yxx (e:h[n]?=some (yiT hl w lg rows t sn sdl)) (er:rows[t]?=some (yV r)):ybp [.loc n] h=ob (loB [.val (.loc n),.val (yV r)] h) fnK:=by
 unfold ybp
 rw [yp]
 show ob (ym _ loB [.val (.loc n),.no] h) fnK=_
 simp_all? only [yct,yE (m:="row") e (by rfl'),yhO e rfl er]
abbrev M2 (m:Str) (f:Fn):XE:=yk 12 m f (ye 0) (yb (ye 1) (yh))
theorem yAo {x:PV}{s:Str}{k:Int}:goB [.val x,.val (yV (.let_ s k))] h=ybf (M2 "go_plain" yC) [.val x,.val (yV (.let_ s k))] h:=by kernel_rfl!
theorem yxy {x:PV}{s k:Str}:goB [.val x,.val (yV (.take s k))] h=ybf (M2 "go_plain" yC) [.val x,.val (yV (.take s k))] h:=by kernel_rfl!
theorem yAp {x:PV}{s k:Str}:goB [.val x,.val (yV (.put s k))] h=ybf (M2 "go_plain" yC) [.val x,.val (yV (.put s k))] h:=by kernel_rfl!
theorem yxz {x:PV}:goB [.val x,.val (yV .wait)] h=ybf (M2 "leave" ycj) [.val x,.val (yV .wait)] h:=by kernel_rfl!
theorem yuo {x:PV}{s k:Str}:goB [.val x,.val (yV (.throw s k))] h=ybf (M2 "throw" ycC) [.val x,.val (yV (.throw s k))] h:=by kernel_rfl!
theorem yru {x:PV}{k:Int}:goB [.val x,.val (yV (.either k))] h=goE [.val x,.val (yV (.either k))] h:=by kernel_rfl!
theorem yup {x:PV}{s r:Str}{k:Int}:goB [.val x,.val (yV (.guard s r k))] h=goE [.val x,.val (yV (.guard s r k))] h:=by kernel_rfl!
theorem yrv {x:PV}:goB [.val x,.val (yV .settle)] h=goS [.val x,.val (yV .settle)] h:=by kernel_rfl!
theorem yxA {x:PV}{k:Int}:goB [.val x,.val (yV (.jump k))] h=ybf (M2 "lead" ydu) [.val x,.val (yV (.jump k))] h:=by kernel_rfl!
theorem yrw {x:PV}{w a b c:Str}(g:w∈W5):goB [.val x,.val (yV (.reckon w a b c))] h=ybf (M2 "go_plain" yC) [.val x,.val (yV (.reckon w a b c))] h:=by
 rcases yuf g with rfl|rfl|rfl|rfl|rfl
 all_goals kernel_rfl!
end
structure Lc where
 rn:Nat
 hl:Nat
 lg:Nat
 st:Nat
 ls:Nat
 sn:Nat
 sd:Nat
 ly:List Nat
structure RS where
 t:Nat
 hs:List Int
 sd:List (Rw×List Int)
 dd:List (List Key×List PV)
 sn:List (Nat×Int×Int)
def sK (m:List (Nat×Int×Int)):List Key:=m.map fun p=>.inl (p.1:Int)
def sA (m:List (Nat×Int×Int)):List PV:=m.map fun p=>.int p.2.1
def sB (m:List (Nat×Int×Int)):List PV:=m.map fun p=>.int p.2.2
noncomputable def ydi (m:List (Nat×Int×Int)) (k:Nat) (a b:Int):List (Nat×Int×Int):=if k∈m.map (·.1) then m.map (fun p=>if p.1=k then (k,a,b) else p) else m++[(k,a,b)]
def lay:List Nat->List (List Key×List PV)->List (Nat×Nd)
 | l::ls,d::ds=>(l,.dct d.1 d.2)::lay ls ds
 | _,_=>[]
def RM (w:Int) (rows:List PV) (c:Lc) (s:RS) (rest:List (Nat×Nd)):List (Nat×Nd) :=
 (c.rn,yiT c.hl w c.lg rows s.t c.sn c.sd)::(c.hl,.lst (s.hs.map .int))::(c.lg,.ins 11 ["stack","last_seen"] [.loc c.st,.loc c.ls])::(c.st,.lst (c.ly.map .loc))::(c.ls,.dct (sK s.sn) (sA s.sn))::(c.sn,.dct (sK s.sn) (sB s.sn))::(c.sd,.lst (s.sd.map sdV))::(lay c.ly s.dd++rest)
structure RR (w:Int) (rows:List PV) (rest:List (Nat×Nd)) (h:AH) (c:Lc) (s:RS):Prop where
 at_:At h (RM w rows c s rest)
 len:c.ly.length=s.dd.length
theorem yeM:∀ (l m:List Nat) (d e:List (List Key×List PV)),l.length=d.length->lay (l++m) (d++e)=lay l d++lay m e
 | [],_,[],_,_=>rfl
 | a::l,m,b::d,e,h=>by
  show (a,_)::lay (l++m) (d++e)=(a,_)::(lay l d++lay m e)
  rw [yeM l m d e (by simpa using h)]
noncomputable def okR:Rw->Bool
 | .let_ r _=>decide (r∈SL)
 | .put p r=>decide (p∈SL) && decide (r∈SL)
 | .take p r=>decide (p∈SL) && decide (r∈SL)
 | .throw _ r=>decide (r∈SL)
 | .guard _ r k=>decide (r∈SL) && decide (0<=k)
 | .either k=>decide (0<=k)
 | .jump k=>decide (0<=k)
 | .reckon w a b c=>decide (w∈W5) && decide (a∈SL) && decide (b∈SL) && decide (c∈SL)
 | _=>true
def okS (s:RS):Bool:=(s.hs.length == 8) && (s.dd.length == s.sd.length+1) && decide (s.sd.length<90) && s.sd.all (fun x=>ymO x.1 && okR x.1 && (x.2.length == 8)) && s.dd.all (fun d=>decide (d.1.length<400))
def toB:Rw->Int|.either k=>k|.guard _ _ k=>k|_=>0
def slB:Rw->Str|.guard _ r _=>r|_=>""
def ygE (dd:List (List Key×List PV)) (k v:Int):List (List Key×List PV):=match dd.getLast? with|some d=>dd.dropLast++[ycQ d.1 d.2 (.inl k) (.int v)]|none=>dd
def yop (dd:List (List Key×List PV)):List (List Key×List PV):=match dd.getLast?,dd.dropLast.getLast? with|some d,some e=>dd.dropLast.dropLast++[yjD d.1 d.2 e.1 e.2]|_,_=>dd
def yiV (s:RS) (r:Rw) (g:Rw->List Int->List Int):Option RS:=match tkL s.sd r s.sd.length with
 | 0=>none
 | L+1=>match s.sd[L]? with|some x=>some ⟨(toB x.1).toNat,g x.1 x.2,s.sd.take L,s.dd.take (L+1),s.sn⟩|none=>none
def ymP (s:RS) (w:Int) (p:Str):PV:=yAk s.dd (.inl (s.hs.getD (sx p) 0%w)) s.dd.length
noncomputable def rk (w:Str) (x y:Int):Int:=if w = "plus" then (x+y)%B64 else if w = "minus" then (x-y)%B64 else if w = "times" then x*y%B64 else if w = "less" then (if x<y then 1 else 0) else (if x=y then 1 else 0)
def ydR (w:Int) (r:Rw) (s:RS):Option RS:=if (okR r && okS s)=true then (match r with
 | .let_ r n=>some ⟨s.t+1,s.hs.set (sx r) n,s.sd,s.dd,s.sn⟩
 | .take r p=>(match ymP s w p with|.int v=>some ⟨s.t+1,s.hs.set (sx r) v,s.sd,s.dd,s.sn⟩|_=>none)
 | .put p r=>some ⟨s.t+1,s.hs,s.sd,ygE s.dd (s.hs.getD (sx p) 0%w) (s.hs.getD (sx r) 0),s.sn⟩
 | .either k=>some ⟨s.t+1,s.hs,s.sd++[(.either k,s.hs)],s.dd++[([],[])],s.sn⟩
 | .guard a b k=>some ⟨s.t+1,s.hs,s.sd++[(.guard a b k,s.hs)],s.dd++[([],[])],s.sn⟩
 | .settle=>if s.sd.length=0 then none else some ⟨s.t+1,s.hs,s.sd.dropLast,yop s.dd,s.sn⟩
 | .jump k=>some ⟨k.toNat,s.hs,s.sd,s.dd,s.sn⟩
 | .wait=>yiV s .wait fun _ q=>q
 | .throw a b=>yiV s (.throw a b) fun x q=>q.set (sx (slB x)) (s.hs.getD (sx b) 0)
 | .reckon v a p q=>if 0<=s.hs.getD (sx p) 0/\s.hs.getD (sx p) 0<B64 then some ⟨s.t+1,s.hs.set (sx a) (rk v (s.hs.getD (sx p) 0) (s.hs.getD (sx q) 0)),s.sd,s.dd,s.sn⟩ else none
 | .lay=>none) else none
def S0 (hs:List Int):RS:=⟨0,hs,[],[([],[])],[]⟩
section
variable {h:AH}{m:List (Nat×Nd)}
theorem At.ne (A:At h m) {i j:Nat}{p q:Nat×Nd}(hij:i<j) (e1:m[i]?=some p) (e2:m[j]?=some q):p.1≠q.1:=by
 intro z
 obtain ⟨l1,q1⟩:=List.getElem?_eq_some_iff.mp e1
 obtain ⟨l2,q2⟩:=List.getElem?_eq_some_iff.mp e2
 have:=List.pairwise_iff_getElem.mp A.1 i j (by simpa using l1) (by simpa using l2) hij
 rw [List.getElem_map,List.getElem_map,q1,q2] at this
 exact this z
theorem yhQ:∀ (ly:List Nat) (dd:List (List Key×List PV)),ly.length=dd.length->(lay ly dd).length=ly.length
 | [],[],_=>rfl
 | _::ls,_::ds,e=>by show (lay ls ds).length+1=ls.length+1;rw [yhQ ls ds (by simpa using e)]
theorem yvw:∀ (ly:List Nat) (dd:List (List Key×List PV)),ly.length=dd.length->(∀ p∈lay ly dd,h[p.1]?=some p.2)->Stk h ly dd
 | [],[],_,_=>trivial
 | l::ls,d::ds,e,g=>⟨g (l,.dct d.1 d.2) mem_cons_self,yvw ls ds (by simpa using e) fun p hp=>g p (mem_cons_of_mem _ hp)⟩
variable {w:Int}{rows:List PV}{rest:List (Nat×Nd)}{c:Lc}{s:RS}
theorem RR.lg (R:RR w rows rest h c s):LG h c.lg c.st c.ls c.ly s.dd (sK s.sn) (sA s.sn):=⟨R.at_.get 2 rfl,R.at_.get 3 rfl,R.at_.get 4 rfl,yvw _ _ R.len fun p hp=>R.at_.2 p (by unfold RM;simp [hp])⟩
theorem RR.run (R:RR w rows rest h c s):h[c.rn]?=some (yiT c.hl w c.lg rows s.t c.sn c.sd):=R.at_.get 0 rfl
theorem RR.held (R:RR w rows rest h c s):h[c.hl]?=some (.lst (s.hs.map .int)):=R.at_.get 1 rfl
theorem RR.sds (R:RR w rows rest h c s):h[c.sd]?=some (.lst (s.sd.map sdV)):=R.at_.get 6 rfl
theorem RR.to (R:RR w rows rest h c s) (k:Nat):RR w rows rest (h.set c.rn (yiT c.hl w c.lg rows k c.sn c.sd)) c { s with t:=k }:=⟨R.at_.upd (a:=[]) _,R.len⟩
theorem RR.hold (R:RR w rows rest h c s) (q:List Int):RR w rows rest (h.set c.hl (.lst (q.map .int))) c { s with hs:=q }:=⟨R.at_.upd (a:=[_]) _,R.len⟩
theorem ygF (e:okS s=true):s.hs.length=8/\s.dd.length=s.sd.length+1/\s.sd.length<90/\(∀ x∈s.sd,ymO x.1=true/\okR x.1=true/\x.2.length=8)/\∀ d∈s.dd,d.1.length<400:=by
 unfold okS at e
 simp only [and_eq_true,beq_iff_eq,decide_eq_true_eq,List.all_eq_true] at e
 obtain ⟨⟨⟨⟨e1,e2⟩,e3⟩,e4⟩,e5⟩:=e
 exact ⟨e1,e2,e3,fun x hx=>⟨(e4 x hx).1.1,(e4 x hx).1.2,(e4 x hx).2⟩,e5⟩
def dk (m:Option (PV×AH)) (ρ:PSt):Option (PV×AH):=ob (ob m fun _ h1=>some (Out.nx ρ,h1)) fnK
theorem yAq {x:PV}{r:Str}{k:Int}:yC [x,yV (.let_ r k)] h=dk (mK 12 "hold" ybW (fun _ h1=>some ([.str r,.int k],h1)) [] x h) [.val x,.val (yV (.let_ r k))]:=by kernel_rfl!
theorem yAr {x:PV}{p r:Str}:yC [x,yV (.put p r)] h=dk (mK 12 "do_put" ycM (fun _ h1=>some ([.str p,.str r],h1)) [] x h) [.val x,.val (yV (.put p r))]:=by kernel_rfl!
theorem yAs {r:Str}{k:Int}(R:RR w rows rest h c s) (er:rows[s.t]?=some (yV (.let_ r k))) (hr:r∈SL) (h8:s.hs.length=8):∃ h',ycr [.loc c.rn] h=some (.non,h')/\RR w rows rest h' c ⟨s.t+1,s.hs.set (sx r) k,s.sd,s.dd,s.sn⟩:=by
 have R1:=R.to (s.t+1)
 refine ⟨_,?_,R1.hold _⟩
 rw [yjU R.run er,yAo]
 show dk (mK 12 "go_plain" yC _ _ (.loc c.rn) _) _=_
 rw [yE R1.run (by rfl')]
 show dk (yC [.loc c.rn,yV (.let_ r k)] _) _=_
 rw [yAq,yE R1.run (by rfl'),ybq,yhP R1.run R1.held h8 hr]
 rfl
end
section
variable {h:AH}{w:Int}{rows:List PV}{rest:List (Nat×Nd)}{c:Lc}{s:RS}
theorem yxB {k:Int}(R:RR w rows rest h c s) (er:rows[s.t]?=some (yV (.jump k))) (hk:0<=k):∃ h',ycr [.loc c.rn] h=some (.non,h')/\RR w rows rest h' c ⟨k.toNat,s.hs,s.sd,s.dd,s.sn⟩:=by
 have R1:=R.to (s.t+1)
 refine ⟨_,?_,R1.to k.toNat⟩
 rw [yjU R.run er,yxA]
 show dk (mK 12 "lead" ydu _ _ (.loc c.rn) _) _=_
 rw [yE R1.run (by rfl')]
 show dk (ydu [.loc c.rn,yV (.jump k)] _) _=_
 rw [show ∀ x h,ydu [x,yV (.jump k)] h=ob (fL [10,12] "at" [.val x,.val (yV (.jump k))] (.int k) x h) fnK by intro x h;kernel_rfl!,yoo R1.run,show ((k.toNat:Nat):Int)=k by omega]
 rfl
theorem yxC (R:RR w rows rest h c s) {l:List Nat}{t:Nat}{ds:List (List Key×List PV)}{d d':List Key×List PV}(el:c.ly=l++[t]) (ed:s.dd=ds++[d]):RR w rows rest (h.set t (.dct d'.1 d'.2)) c { s with dd:=ds++[d'] }:=by
 have hl:l.length=ds.length:=by have:=R.len;rw [el,ed] at this;simpa using this
 have A:=R.at_
 refine ⟨?_,by show c.ly.length=(ds++[d']).length;rw [R.len,ed];simp⟩
 unfold RM at A ⊢
 rw [el,ed,yeM _ _ _ _ hl] at A
 show At _ (_::_::_::_::_::_::_::(lay c.ly (ds++[d'])++rest))
 rw [el,yeM _ _ _ _ hl,append_assoc]
 rw [append_assoc] at A
 exact A.upd (a:=_::_::_::_::_::_::_::lay l ds) (n:=t) (d:=.dct d.1 d.2) (b:=rest) (.dct d'.1 d'.2)
theorem yce {α:Type}{xs:List α}(h:xs.length≠0):∃ a y,xs=a++[y]:=⟨xs.dropLast,xs.getLast (by intro z;rw [z] at h;exact h rfl),(List.dropLast_concat_getLast _).symm⟩
theorem yrx {p r:Str}(R:RR w rows rest h c s) (hp:p∈SL) (hr:r∈SL) (h8:s.hs.length=8) (hw:1<=w) {l:List Nat}{t:Nat}{ds:List (List Key×List PV)}{d:List Key×List PV}(el:c.ly=l++[t]) (ed:s.dd=ds++[d]) (hd:d.1.length<400) :
  ycM [.loc c.rn,.str p,.str r] h=some (.non,h.set t (.dct (ycQ d.1 d.2 (.inl (s.hs.getD (sx p) 0%w)) (.int (s.hs.getD (sx r) 0))).1 (ycQ d.1 d.2 (.inl (s.hs.getD (sx p) 0%w)) (.int (s.hs.getD (sx r) 0))).2)):=by
 obtain ⟨f1,f2,f3,f4,f5,f6,f7⟩:=ycK R.run
 have G:=R.lg
 have hl:l.length=ds.length:=by have:=R.len;rw [el,ed] at this;simpa using this
 have ht:h[t]?=some (.dct d.1 d.2):=by
  have A:=R.at_
  unfold RM at A
  rw [el,ed,yeM _ _ _ _ hl,append_assoc] at A
  exact A.2 (t,.dct d.1 d.2) (by simp [lay])
 have G':=G
 rw [el] at G'
 unfold ycM
 rw [yp]
 show ob (ybf _ [.val (.loc c.rn),.val (.str p),.val (.str r)] h) fnK=_
 simp_all? only [f3,yct,yE (m:="box_at") R.run (by rfl'),yE (m:="held_in") R.run (by rfl'),yE (m:="write") G.ob (by rfl'),yeL R.run R.held h8 hp hw,ydv R.run R.held h8 hr,yud G' ht (Nat.lt_trans hd (by decide))]
theorem yAt {p r:Str}(R:RR w rows rest h c s) (er:rows[s.t]?=some (yV (.put p r))) (hp:p∈SL) (hr:r∈SL) (hw:1<=w) (ok:okS s=true):∃ h',ycr [.loc c.rn] h=some (.non,h')/\RR w rows rest h' c ⟨s.t+1,s.hs,s.sd,ygE s.dd (s.hs.getD (sx p) 0%w) (s.hs.getD (sx r) 0),s.sn⟩:=by
 obtain ⟨h8,o2,o3,o4,o5⟩:=ygF ok
 have R1:=R.to (s.t+1)
 obtain ⟨ds,d,ed⟩:=yce (xs:=s.dd) (by omega)
 obtain ⟨l,t,el⟩:=yce (xs:=c.ly) (by have:=R.len;omega)
 have e2:=yrx R1 hp hr h8 hw el ed (o5 d (by rw [ed];simp))
 have R2:=yxC (d':=ycQ d.1 d.2 (.inl (s.hs.getD (sx p) 0%w)) (.int (s.hs.getD (sx r) 0))) R1 el ed
 refine ⟨_,?_,by
  have:ygE s.dd (s.hs.getD (sx p) 0%w) (s.hs.getD (sx r) 0)=ds++[ycQ d.1 d.2 (.inl (s.hs.getD (sx p) 0%w)) (.int (s.hs.getD (sx r) 0))]:=by
   unfold ygE
   rw [ed,List.getLast?_concat,List.dropLast_concat]
  rw [this]
  exact R2⟩
 rw [yjU R.run er,yAp]
 show dk (mK 12 "go_plain" yC _ _ (.loc c.rn) _) _=_
 rw [yE R1.run (by rfl')]
 show dk (yC [.loc c.rn,yV (.put p r)] _) _=_
 rw [yAr,yE R1.run (by rfl'),ybq,e2]
 rfl
end
section
variable {h:AH}{w:Int}{rows:List PV}{rest:List (Nat×Nd)}{c:Lc}{s:RS}
theorem RR.side (R:RR w rows rest h c s) (q:List (Rw×List Int)):RR w rows rest (h.set c.sd (.lst (q.map sdV))) c { s with sd:=q }:=⟨R.at_.upd (a:=[_,_,_,_,_,_]) _,R.len⟩
theorem yAu {r:Rw}(R:RR w rows rest h c s) (o3:s.sd.length<90) (o2:s.dd.length=s.sd.length+1):∃ h' c',ob (goE [.val (.loc c.rn),.val (yV r)] h) fnK=some (.non,h')/\RR w rows rest h' c' { s with sd:=s.sd++[(r,s.hs)],dd:=s.dd++[([],[])] }/\c'.rn=c.rn:=by
 obtain ⟨f1,f2,f3,f4,f5,f6,f7⟩:=ycK R.run
 have R2:=R.side (s.sd++[(r,s.hs)])
 obtain ⟨g1,g2,g3,g4,g5,g6,g7⟩:=ycK R2.run
 have G:=R2.lg
 have e1:ygM (.loc c.sd) [.tup [yV r,.lst (s.hs.map .int)]] h=some (.non,h.set c.sd (.lst ((s.sd++[(r,s.hs)]).map sdV))):=by
  rw [yjz R.sds (by rw [length_map];omega),map_append]
  rfl
 have e2:=yue G (by have:=R.len;omega)
 generalize hh:h.set c.sd (.lst ((s.sd++[(r,s.hs)]).map sdV))=h2 at *
 refine ⟨(h2++[Nd.dct [] []]).set c.st (.lst ((c.ly++[h2.length]).map .loc)),{ c with ly:=c.ly++[h2.length] },?_,⟨?_,?_⟩,rfl⟩
 rotate_left
 .have A:=R2.at_
  have A1:=At.new (.dct [] []) (a:=_::_::_::_::_::_::_::lay c.ly s.dd) (b:=rest) A
  have A2:=At.upd (a:=[_,_,_]) (.lst ((c.ly++[h2.length]).map .loc)) A1
  unfold RM
  show At _ (_::_::_::_::_::_::_::(lay (c.ly++[h2.length]) (s.dd++[([],[])])++rest))
  rw [yeM _ _ _ _ R.len,append_assoc]
  exact A2
 .show (c.ly++[h2.length]).length=(s.dd++[([],[])]).length
  rw [length_append,length_append,R.len];rfl
 unfold goE
 simp_all? only [f7,f1,ydc R.sds,yfL R.held,e1,g3,yct,yE (m:="begin") G.ob (by rfl'),e2]
theorem yry {n:Nat}{xs:List PV}{y:PV}(e:h[n]?=some (.lst (xs++[y]))):ygN (.loc n) [] h=some (y,h.set n (.lst xs)):=by
 unfold ygN
 simp only [e]
 have:(xs++[y])[(xs++[y]).length-1]?=some y:=by simp
 rw [this]
 simp
theorem yrz (R:RR w rows rest h c s) (ok:okS s=true) (hn:s.sd.length≠0):∃ h' c',ob (goS [.val (.loc c.rn),.val (yV .settle)] h) fnK=some (.non,h')/\RR w rows rest h' c' { s with sd:=s.sd.dropLast,dd:=yop s.dd }/\c'.rn=c.rn:=by
 obtain ⟨h8,o2,o3,o4,o5⟩:=ygF ok
 obtain ⟨f1,f2,f3,f4,f5,f6,f7⟩:=ycK R.run
 obtain ⟨q,x,eq⟩:=yce hn
 obtain ⟨d1,dt,ed⟩:=yce (xs:=s.dd) (by omega)
 obtain ⟨ds,du,ed1⟩:=yce (xs:=d1) (by have:=congrArg length ed;simp at this;omega)
 obtain ⟨l1,t,el⟩:=yce (xs:=c.ly) (by have:=R.len;omega)
 obtain ⟨l,u,el1⟩:=yce (xs:=l1) (by have a:=R.len;have b:c.ly.length=l1.length+1:=(by rw [el];simp);omega)
 subst el1 ed1
 have hl:l.length=ds.length:=by have:=R.len;rw [el,ed] at this;simpa using this
 have em:yop s.dd=ds++[yjD dt.1 dt.2 du.1 du.2]:=by
  unfold yop
  rw [ed,List.getLast?_concat,List.dropLast_concat,List.getLast?_concat,List.dropLast_concat]
 have es:s.sd.dropLast=q:=by rw [eq,List.dropLast_concat]
 rw [em,es]
 have R2:=R.side q
 obtain ⟨g1,g2,g3,g4,g5,g6,g7⟩:=ycK R2.run
 have e1:ygN (.loc c.sd) [] h=some (sdV x,h.set c.sd (.lst (q.map sdV))):=yry (by rw [R.sds,eq,map_append];rfl)
 have G:=R2.lg
 have A:=R2.at_
 generalize hh:h.set c.sd (.lst (q.map sdV))=h2 at *
 have hA:At h2 ((c.rn,yiT c.hl w c.lg rows s.t c.sn c.sd)::(c.hl,.lst (s.hs.map .int))::(c.lg,.ins 11 ["stack","last_seen"] [.loc c.st,.loc c.ls])::(c.st,.lst (c.ly.map .loc))::(c.ls,.dct (sK s.sn) (sA s.sn))::(c.sn,.dct (sK s.sn) (sB s.sn))::(c.sd,.lst (q.map sdV))::(lay l ds++((u,.dct du.1 du.2)::(t,.dct dt.1 dt.2)::rest))):=by
  unfold RM at A
  have el':lay c.ly s.dd=lay l ds++[(u,.dct du.1 du.2),(t,.dct dt.1 dt.2)]:=by
   rw [el,ed,append_assoc,append_assoc,yeM _ _ _ _ hl]
   rfl
  have:∀ z:List (Nat×Nd),(lay l ds++[(u,.dct du.1 du.2),(t,.dct dt.1 dt.2)])++z=lay l ds++((u,.dct du.1 du.2)::(t,.dct dt.1 dt.2)::z):=fun z=>by rw [append_assoc];rfl
  simpa only [el',this] using A
 have iu:(lay l ds++((u,Nd.dct du.1 du.2)::(t,.dct dt.1 dt.2)::rest))[l.length]?=some (u,.dct du.1 du.2):=by
  rw [getElem?_append_right (by rw [yhQ _ _ hl];omega),yhQ _ _ hl,sub_self];rfl
 have it:(lay l ds++((u,Nd.dct du.1 du.2)::(t,.dct dt.1 dt.2)::rest))[l.length+1]?=some (t,.dct dt.1 dt.2):=by
  rw [getElem?_append_right (by rw [yhQ _ _ hl];omega),yhQ _ _ hl,Nat.add_sub_cancel_left,List.getElem?_cons_succ,List.getElem?_cons_zero]
 have nu:=hA.ne (i:=3) (j:=7+l.length) (by omega) rfl (by rw [show 7+l.length=l.length+7 by omega];exact iu)
 have nt:=hA.ne (i:=3) (j:=7+(l.length+1)) (by omega) rfl (by rw [show 7+(l.length+1)=(l.length+1)+7 by omega];exact it)
 have nut:=hA.ne (i:=7+l.length) (j:=7+(l.length+1)) (by omega) (by rw [show 7+l.length=l.length+7 by omega];exact iu) (by rw [show 7+(l.length+1)=(l.length+1)+7 by omega];exact it)
 have G':=G
 rw [el] at G'
 have e2:=yrp G' (hA.ne (i:=2) (j:=3) (by omega) rfl rfl) (fun z=>nu z.symm) (fun z=>nt z.symm) nut (hA.get (7+l.length) (by rw [show 7+l.length=l.length+7 by omega];exact iu)) (hA.get (7+(l.length+1)) (by rw [show 7+(l.length+1)=(l.length+1)+7 by omega];exact it)) (by have a:=o5 du (by rw [ed];simp);have b:=o5 dt (by rw [ed];simp);omega)
 refine ⟨(h2.set c.st (.lst ((l++[u]).map .loc))).set u (.dct (yjD dt.1 dt.2 du.1 du.2).1 (yjD dt.1 dt.2 du.1 du.2).2),{ c with ly:=l++[u] },?_,⟨?_,by show (l++[u]).length=(ds++[yjD dt.1 dt.2 du.1 du.2]).length;simp [hl]⟩,rfl⟩
 rotate_left
 .have A1:=At.upd (a:=[_,_,_]) (.lst ((l++[u]).map .loc)) hA
  have A2:=At.upd (a:=_::_::_::_::_::_::_::lay l ds) (.dct (yjD dt.1 dt.2 du.1 du.2).1 (yjD dt.1 dt.2 du.1 du.2).2) (b:=(t,.dct dt.1 dt.2)::rest) A1
  unfold RM
  show At _ (_::_::_::_::_::_::_::(lay (l++[u]) (ds++[yjD dt.1 dt.2 du.1 du.2])++rest))
  rw [yeM _ _ _ _ hl,append_assoc]
  exact A2.sub (((((((((List.Sublist.refl _).append (((List.sublist_cons_self _ _)).cons₂ _)).cons₂ _).cons₂ _).cons₂ _).cons₂ _).cons₂ _).cons₂ _).cons₂ _)
 unfold goS
 simp_all? only [f7,ydc R.sds,e1,g3,yct,yE (m:="settle") G.ob (by rfl'),e2]
end
section
variable {w:Int}{rows:List PV}{rest:List (Nat×Nd)}
theorem yuq {h:AH}{c:Lc}{s:RS}(R:RR w rows rest h c s) {l:List Nat}{t:Nat}{ds:List (List Key×List PV)}{d:List Key×List PV}(el:c.ly=l++[t]) (ed:s.dd=ds++[d]):RR w rows rest (h.set c.st (.lst (l.map .loc))) { c with ly:=l } { s with dd:=ds }:=by
 have hl:l.length=ds.length:=by have:=R.len;rw [el,ed] at this;simpa using this
 refine ⟨?_,hl⟩
 have A:=At.upd (a:=[_,_,_]) (.lst (l.map .loc)) R.at_
 unfold RM
 rw [el,ed,yeM _ _ _ _ hl,append_assoc] at A
 exact A.sub (((((((((List.Sublist.refl _).append (List.sublist_cons_self _ _)).cons₂ _).cons₂ _).cons₂ _).cons₂ _).cons₂ _).cons₂ _).cons₂ _)
theorem yED {L rn:Nat}{v1 v3:PV}{p4:PVar}:∀ (k f:Nat) (h:AH) (c:Lc) (s:RS),RR w rows rest h c s->c.rn=rn->s.sd.length=L+k->s.dd.length=s.sd.length+1->k<f ->
  ∃ h' c',whl lvC lvB f [.val (.loc rn),.val v1,.val (.int ((L+1:Nat):Int)),.val v3,p4] h=some (.nx [.val (.loc rn),.val v1,.val (.int ((L+1:Nat):Int)),.val v3,p4],h')/\RR w rows rest h' c' { s with sd:=s.sd.take L,dd:=s.dd.take (L+1) }/\c'.rn=rn:=by
 intro k
 induction k with
 | zero =>
  intro f h c s R hn hs hd hf
  obtain ⟨f,rfl⟩:∃ g,f=g+1:=⟨f-1,by omega⟩
  subst hn
  obtain ⟨f1,f2,f3,f4,f5,f6,f7⟩:=ycK R.run
  refine ⟨h,c,?_,by rw [List.take_of_length_le (by omega),List.take_of_length_le (by omega)];exact R,rfl⟩
  have ec:lvC [.val (.loc c.rn),.val v1,.val (.int ((L+1:Nat):Int)),.val v3,p4] h=some (false,h):=by
   have l1:ycg [.loc c.sd] h=some (.int s.sd.length,h):=by rw [yjy R.sds,length_map]
   have l2:oGe (.int (s.sd.length:Nat)) (.int ((L+1:Nat):Int)) h=some (.bl false,h):=by
    show some (PV.bl (decide (((L+1:Nat):Int)<=(s.sd.length:Nat))),h)=_
    rw [decide_eq_false (by omega)]
   simp_all? only [f7,l1,l2]
  rw [yum,ec]
  rfl
 | succ k ih =>
  intro f h c s R hn hs hd hf
  obtain ⟨f,rfl⟩:∃ g,f=g+1:=⟨f-1,by omega⟩
  subst hn
  obtain ⟨f1,f2,f3,f4,f5,f6,f7⟩:=ycK R.run
  obtain ⟨q,x,eq⟩:=yce (xs:=s.sd) (by omega)
  obtain ⟨ds,d,ed⟩:=yce (xs:=s.dd) (by omega)
  obtain ⟨l,t,el⟩:=yce (xs:=c.ly) (by have:=R.len;omega)
  have lq:s.sd.length=q.length+1:=by rw [eq];simp
  have ld:s.dd.length=ds.length+1:=by rw [ed];simp
  have R2:=R.side q
  have e1:ygN (.loc c.sd) [] h=some (sdV x,h.set c.sd (.lst (q.map sdV))):=yry (by rw [R.sds,eq,map_append];rfl)
  have ec:lvC [.val (.loc c.rn),.val v1,.val (.int ((L+1:Nat):Int)),.val v3,p4] h=some (true,h):=by
   have l1:ycg [.loc c.sd] h=some (.int s.sd.length,h):=by rw [yjy R.sds,length_map]
   have l2:oGe (.int (s.sd.length:Nat)) (.int ((L+1:Nat):Int)) h=some (.bl true,h):=by
    show some (PV.bl (decide (((L+1:Nat):Int)<=(s.sd.length:Nat))),h)=_
    rw [decide_eq_true (by omega)]
   simp_all? only [f7,l1,l2]
  obtain ⟨g1,g2,g3,g4,g5,g6,g7⟩:=ycK R2.run
  have G:=R2.lg
  have G':=G
  rw [el] at G'
  have e2:=yxt G'
  have R3:=yuq R2 el ed
  have eb:lvB [.val (.loc c.rn),.val v1,.val (.int ((L+1:Nat):Int)),.val v3,p4] h=some (.nx [.val (.loc c.rn),.val v1,.val (.int ((L+1:Nat):Int)),.val v3,p4],(h.set c.sd (.lst (q.map sdV))).set c.st (.lst (l.map .loc))):=by
   generalize h.set c.sd (.lst (q.map sdV))=h2 at *
   simp_all? only [f7,ydc R.sds,e1,g3,yct,yE (m:="drop") G.ob (by rfl'),e2]
  obtain ⟨h',c',q1,q2,q3⟩:=ih f _ _ _ R3 rfl (by show q.length=L+k;omega) (by show ds.length=q.length+1;omega) (by omega)
  refine ⟨h',c',?_,?_,q3⟩
  .rw [yum,ec,ybq,if_pos rfl,eb,ybq]
   exact q1
  .rw [eq,ed,List.take_append_of_le_length (by omega),List.take_append_of_le_length (by omega)]
   exact q2
end
section
variable {h:AH}{w:Int}{rows:List PV}{rest:List (Nat×Nd)}{c:Lc}{s:RS}
theorem RR.newh (R:RR w rows rest h c s) (q:List Int):RR w rows rest ((h++[Nd.lst (q.map .int)]).set c.rn (yiT h.length w c.lg rows s.t c.sn c.sd)) { c with hl:=h.length } { s with hs:=q }:=by
 refine ⟨?_,R.len⟩
 have A:=At.new (.lst (q.map .int)) (a:=[_]) R.at_
 have A1:=At.upd (a:=[]) (yiT h.length w c.lg rows s.t c.sn c.sd) A
 exact A1.sub ((List.Sublist.cons _ (List.Sublist.refl _)).cons₂ _ |>.cons₂ _)
theorem yAv {b:Rw}(hb:ymO b=true):ybb (yV b) (.int (-1)) h=some (.int (toB b),h):=by
 cases b<;>first|(cases hb;done)|kernel_rfl!
theorem yoq {r:Rw}{L:Nat}{x:Rw×List Int}(R:RR w rows rest h c s) (ok:okS s=true) (hr:yuk r=true) (hL:tkL s.sd r s.sd.length=L+1) (hx:s.sd[L]?=some x) :
  ∃ h' c',ycj [.loc c.rn,yV r] h=some (yV x.1,h')/\RR w rows rest h' c' ⟨(toB x.1).toNat,x.2,s.sd.take L,s.dd.take (L+1),s.sn⟩/\c'.rn=c.rn:=by
 obtain ⟨h8,o2,o3,o4,o5⟩:=ygF ok
 obtain ⟨f1,f2,f3,f4,f5,f6,f7⟩:=ycK R.run
 have hlt:L<s.sd.length:=(List.getElem?_eq_some_iff.mp hx).1
 obtain ⟨b1,b2,b3⟩:=o4 x (mem_of_getElem? hx)
 obtain ⟨h1,c1,q1,R1,q3⟩:=yED (v1:=yV r) (v3:=sdV x) (p4:=.no) (L:=L) (s.sd.length-L) 1000 h c s R rfl (by omega) o2 (by omega)
 have q1:yfa 1000 lvC lvB [.val (.loc c.rn),.val (yV r),.val (.int ((L+1:Nat):Int)),.val (sdV x),.no] h=_:=q1
 have k0:0<=toB x.1:=by
  revert b1 b2
  cases x.1<;>simp [ymO,okR,toB]
 have R2:=R1.newh x.2
 rw [q3] at R2
 have R3:=R2.to (toB x.1).toNat
 refine ⟨_,_,?_,R3,rfl⟩
 have i1:ycu (.loc c.sd) (.int (((L+1:Nat):Int)-1)) h=some (sdV x,h):=by
  unfold ycu
  simp only [R.sds]
  rw [show ((L+1:Nat):Int)-1=(L:Nat) by omega,ydw (by rw [getElem?_map,hx];rfl)]
 have i2:∀ h,ybb (sdV x) (.int 0) h=some (yV x.1,h):=fun _=>rfl
 have i3:∀ h,ybb (sdV x) (.int 1) h=some (.lst (x.2.map .int),h):=fun _=>rfl
 have i4:=yon R.run R.sds (fun x hx=>(o4 x hx).1) hr (by omega)
 rw [hL] at i4
 have e1:(h1++[Nd.lst (x.2.map .int)])[c.rn]?=some (yiT c1.hl w c1.lg rows s.t c1.sn c1.sd):=by
  rw [<- q3,getElem?_append_left (List.getElem?_eq_some_iff.mp R1.run).1];exact R1.run
 have e2:=yun (j:=h1.length) (ρ:=[.val (.loc c.rn),.val (yV r),.val (.int ((L+1:Nat):Int)),.val (sdV x),.val (yV x.1)]) e1
 have e3:=yoo (j:=toB x.1) (ρ:=[.val (.loc c.rn),.val (yV r),.val (.int ((L+1:Nat):Int)),.val (sdV x),.val (yV x.1)]) R2.run
 have i5:=fun h=>yAv (h:=h) b1
 unfold ycj
 rw [yp]
 show ob (ym _ (ym _ (ym (yfa 1000 lvC lvB) _)) [.val (.loc c.rn),.val (yV r),.no,.no,.no] h) fnK=_
 simp_all? only [yct,yE (m:="taker_layer") R.run (by rfl'),i4,f7,i1,q1,i2,i3,yrq,e2,i5,e3]
 rw [show (((toB x.1).toNat:Nat):Int)=toB x.1 by omega]
theorem yxD {L:Nat}{x:Rw×List Int}(R:RR w rows rest h c s) (er:rows[s.t]?=some (yV .wait)) (ok:okS s=true) (hL:tkL s.sd .wait s.sd.length=L+1) (hx:s.sd[L]?=some x) :
  ∃ h' c',ycr [.loc c.rn] h=some (.non,h')/\RR w rows rest h' c' ⟨(toB x.1).toNat,x.2,s.sd.take L,s.dd.take (L+1),s.sn⟩/\c'.rn=c.rn:=by
 have R1:=R.to (s.t+1)
 obtain ⟨h',c',q1,q2,q3⟩:=yoq (r:=.wait) R1 ok rfl hL hx
 refine ⟨h',c',?_,q2,q3⟩
 rw [yjU R.run er,yxz]
 show dk (mK 12 "leave" ycj _ _ (.loc c.rn) _) _=_
 rw [yE R1.run (by rfl')]
 show dk (ycj [.loc c.rn,yV .wait] _) _=_
 rw [q1]
 rfl
theorem yur {L:Nat}{x:Rw×List Int}{a b:Str}(R:RR w rows rest h c s) (er:rows[s.t]?=some (yV (.throw a b))) (hb:b∈SL) (ok:okS s=true) (hL:tkL s.sd (.throw a b) s.sd.length=L+1) (hx:s.sd[L]?=some x) (hg:ygD x.1 (.throw a b)=true) :
  ∃ h' c',ycr [.loc c.rn] h=some (.non,h')/\RR w rows rest h' c' ⟨(toB x.1).toNat,x.2.set (sx (slB x.1)) (s.hs.getD (sx b) 0),s.sd.take L,s.dd.take (L+1),s.sn⟩/\c'.rn=c.rn:=by
 have R1:=R.to (s.t+1)
 obtain ⟨h8,o2,o3,o4,o5⟩:=ygF ok
 obtain ⟨b1,b2,b3⟩:=o4 x (mem_of_getElem? hx)
 obtain ⟨h',c',q1,q2,q3⟩:=yoq (r:=.throw a b) R1 ok rfl hL hx
 obtain ⟨nm,rr,k,ex⟩:∃ nm rr k,x.1=.guard nm rr k:=by
  revert hg
  cases x.1<;>first|(intro hg;cases hg;done)|exact fun _=>⟨_,_,_,rfl⟩
 have hs:rr∈SL:=by
  rw [ex] at b2
  unfold okR at b2
  simp only [and_eq_true,decide_eq_true_eq] at b2
  exact b2.1
 have e4:=yhP (v:=s.hs.getD (sx b) 0) q2.run q2.held b3 hs
 rw [ex] at q1 q2 e4 ⊢
 refine ⟨_,c',?_,q2.hold _,q3⟩
 have e1:=ydv R1.run R1.held h8 hb
 have i1:∀ h,ybb (yV (.throw a b)) (.int 2) h=some (.str b,h):=fun _=>rfl
 have i2:∀ h,ybb (yV (.guard nm rr k)) (.int 2) h=some (.str rr,h):=fun _=>rfl
 have r2:=q2.run
 rw [q3] at r2 e4
 rw [yjU R.run er,yuo]
 show dk (mK 12 "throw" ycC _ _ (.loc c.rn) _) _=_
 rw [yE R1.run (by rfl')]
 show dk (ycC [.loc c.rn,yV (.throw a b)] _) _=_
 have:ycC [.loc c.rn,yV (.throw a b)] (h.set c.rn (yiT c.hl w c.lg rows (s.t+1:Nat) c.sn c.sd))=some (.non,h'.set c'.hl (.lst ((x.2.set (sx rr) (s.hs.getD (sx b) 0)).map .int))):=by
  unfold ycC
  rw [yp]
  show ob (ym _ _ [.val (.loc c.rn),.val (yV (.throw a b)),.no,.no] _) fnK=_
  simp_all? only [yct,yE (m:="held_in") R1.run (by rfl'),yE (m:="leave") R1.run (by rfl'),yE (m:="hold") r2 (by rfl'),i1,i2,e1,q1,e4]
 rw [this]
 rfl
end
local macro_rules | `(tactic| walk_at "pw")=>`(tactic| simp_all? only [$(sl_ "yjJ yjK yjL yjM yis yit yln ylo yjN yjO yjP yjQ ylp yjR yjS ylq if_true if_false"),*])
section
variable {h:AH}{w:Int}{rows:List PV}{rest:List (Nat×Nd)}{c:Lc}{s s':RS}{r:Rw}
theorem yor {sd:List (Rw×List Int)}:∀ {k L:Nat},tkL sd r k=L+1->∃ x,sd[L]?=some x/\ygD x.1 r=true
 | k+1,L,e=>by
  unfold tkL at e
  split at e
  .rename_i x hx
   split at e
   .rename_i ht
    cases e
    exact ⟨x,hx,ht⟩
   .exact yor e
  .cases e
theorem yAw {p:Str}(R:RR w rows rest h c s):ydY [.loc c.lg,.int (s.hs.getD (sx p) 0%w)] h=some (ymP s w p,h):=by
 rw [yAl R.lg,R.len];rfl
theorem yxE {x:PV}{r p:Str}:yC [x,yV (.take r p)] h=dk (mK 12 "take_own" yci (fun _ h1=>some ([.str r,.str p],h1)) [] x h) [.val x,.val (yV (.take r p))]:=by kernel_rfl!
theorem ymQ {r p:Str}{v:Int}(R:RR w rows rest h c s) (hr:r∈SL) (hp:p∈SL) (h8:s.hs.length=8) (hw:1<=w) (ev:ymP s w p=.int v):yci [.loc c.rn,.str r,.str p] h=some (.non,h.set c.hl (.lst ((s.hs.set (sx r) v).map .int))):=by
 obtain ⟨f1,f2,f3,f4,f5,f6,f7⟩:=ycK R.run
 have o:=yAw (p:=p) R
 rw [ev] at o
 unfold yci
 rw [yp]
 show ob (ybf _ [.val (.loc c.rn),.val (.str r),.val (.str p)] h) fnK=_
 simp_all? only [yct,f3,yE (m:="hold") R.run (by rfl'),yE (m:="own") R.lg.ob (by rfl'),yE (m:="box_at") R.run (by rfl'),yeL R.run R.held h8 hp hw,o,yhP R.run R.held h8 hr]
theorem yxF {p:Str}(R:RR w rows rest h c s) (hp:p∈SL) (h8:s.hs.length=8) (hw:1<=w):ycZ [.loc c.rn,.str p] h=some (.bl (isN (ymP s w p)),h):=by
 obtain ⟨f1,f2,f3,f4,f5,f6,f7⟩:=ycK R.run
 unfold ycZ
 rw [yp]
 show ob (yR _ [.val (.loc c.rn),.val (.str p)] h) fnK=_
 simp_all? only [yct,f3,yE (m:="own") R.lg.ob (by rfl'),yE (m:="box_at") R.run (by rfl'),yeL R.run R.held h8 hp hw,yAw R]
theorem yxG {r p:Str}{v:Int}(R:RR w rows rest h c s) (er:rows[s.t]?=some (yV (.take r p))) (hr:r∈SL) (hp:p∈SL) (h8:s.hs.length=8) (hw:1<=w) (ev:ymP s w p=.int v):∃ h',ycr [.loc c.rn] h=some (.non,h')/\RR w rows rest h' c ⟨s.t+1,s.hs.set (sx r) v,s.sd,s.dd,s.sn⟩:=by
 have R1:=R.to (s.t+1)
 refine ⟨_,?_,R1.hold _⟩
 rw [yjU R.run er,yxy]
 show dk (mK 12 "go_plain" yC _ _ (.loc c.rn) _) _=_
 rw [yE R1.run (by rfl')]
 show dk (yC [.loc c.rn,yV (.take r p)] _) _=_
 rw [yxE,yE R1.run (by rfl'),ybq,ymQ R1 hr hp h8 hw ev]
 rfl
theorem yCV {w:Str}{x y:Int}(hw:w∈W5) (hx:0<=x/\x<B64):yhe [.str w,.int x,.int y] h=some (.int (rk w x y),h):=by
 have hm:MulOk x y:=.inl ⟨by have:=hx.1;omega,hx.2⟩
 unfold yhe
 rw [yp]
 show ob (ym _ _ [.val (.str w),.val (.int x),.val (.int y)] h) fnK=_
 unfold rk
 rcases yuf hw with rfl|rfl|rfl|rfl|rfl
 .walk_at "pw"
 .walk_at "pw"
 .walk_at "pw"
  rw [if_pos hm]
 .walk_at "pw"
  split<;>rfl
 .walk_at "pw"
  split<;>rfl
theorem ylt {v r p q:Str}(R:RR w rows rest h c s) (hv:v∈W5) (hr:r∈SL) (hp:p∈SL) (hq:q∈SL) (h8:s.hs.length=8) (hx:0<=s.hs.getD (sx p) 0/\s.hs.getD (sx p) 0<B64):yca [.loc c.rn,.str v,.str r,.str p,.str q] h=some (.non,h.set c.hl (.lst ((s.hs.set (sx r) (rk v (s.hs.getD (sx p) 0) (s.hs.getD (sx q) 0))).map .int))):=by
 unfold yca
 rw [yp]
 show ob (ybf _ [.val (.loc c.rn),.val (.str v),.val (.str r),.val (.str p),.val (.str q)] h) fnK=_
 simp_all? only [yct,yE (m:="hold") R.run (by rfl'),yE (m:="held_in") R.run (by rfl'),ydv R.run R.held h8 hp,ydv R.run R.held h8 hq,yCV hv hx,yhP R.run R.held h8 hr]
theorem yrA {x:PV}{v r p q:Str}(g:v∈W5):yC [x,yV (.reckon v r p q)] h=dk (mK 12 "do_reckon" yca (fun _ h1=>some ([.str v,.str r,.str p,.str q],h1)) [] x h) [.val x,.val (yV (.reckon v r p q))]:=by
 rcases yuf g with rfl|rfl|rfl|rfl|rfl
 all_goals kernel_rfl!
theorem yrB {v r p q:Str}(R:RR w rows rest h c s) (er:rows[s.t]?=some (yV (.reckon v r p q))) (hv:v∈W5) (hr:r∈SL) (hp:p∈SL) (hq:q∈SL) (h8:s.hs.length=8) (hx:0<=s.hs.getD (sx p) 0/\s.hs.getD (sx p) 0<B64):∃ h',ycr [.loc c.rn] h=some (.non,h')/\RR w rows rest h' c ⟨s.t+1,s.hs.set (sx r) (rk v (s.hs.getD (sx p) 0) (s.hs.getD (sx q) 0)),s.sd,s.dd,s.sn⟩:=by
 have R1:=R.to (s.t+1)
 refine ⟨_,?_,R1.hold _⟩
 rw [yjU R.run er,yrw hv]
 show dk (mK 12 "go_plain" yC _ _ (.loc c.rn) _) _=_
 rw [yE R1.run (by rfl')]
 show dk (yC [.loc c.rn,yV (.reckon v r p q)] _) _=_
 rw [yrA hv,yE R1.run (by rfl'),ybq,ylt R1 hv hr hp hq h8 hx]
 rfl
theorem yxH (R:RR w rows rest h c s) (er:rows[s.t]?=some (yV r)) (hw:1<=w) (e:ydR w r s=some s'):∃ h' c',ycr [.loc c.rn] h=some (.non,h')/\RR w rows rest h' c' s'/\c'.rn=c.rn:=by
 unfold ydR at e
 split at e
 .rename_i hok
  obtain ⟨k1,ok⟩:=Bool.and_eq_true_iff.mp hok
  obtain ⟨h8,o2,o3,o4,o5⟩:=ygF ok
  have bg:∀ b:Rw,(∀ x h,goB [.val x,.val (yV b)] h=goE [.val x,.val (yV b)] h)->rows[s.t]?=some (yV b)->∃ h' c',ycr [.loc c.rn] h=some (.non,h')/\RR w rows rest h' c' ⟨s.t+1,s.hs,s.sd++[(b,s.hs)],s.dd++[([],[])],s.sn⟩/\c'.rn=c.rn:=fun b hb er=>by
   obtain ⟨h',c',q1,q2,q3⟩:=yAu (r:=b) (R.to (s.t+1)) o3 o2
   exact ⟨h',c',by rw [yjU R.run er,hb,q1],q2,q3⟩
  cases r with
  | let_ a n =>
   cases e
   obtain ⟨h',q1,q2⟩:=yAs R er (by simpa [okR] using k1) h8
   exact ⟨h',c,q1,q2,rfl⟩
  | put p a =>
   cases e
   obtain ⟨k2,k3⟩:p∈SL/\a∈SL:=by simpa [okR] using k1
   obtain ⟨h',q1,q2⟩:=yAt R er k2 k3 hw ok
   exact ⟨h',c,q1,q2,rfl⟩
  | take p a =>
   obtain ⟨k2,k3⟩:p∈SL/\a∈SL:=by simpa [okR] using k1
   dsimp only at e
   split at e
   .rename_i v hv
    cases e
    obtain ⟨h',q1,q2⟩:=yxG R er k2 k3 h8 hw hv
    exact ⟨h',c,q1,q2,rfl⟩
   .cases e
  | jump k =>
   cases e
   obtain ⟨h',q1,q2⟩:=yxB R er (by simpa [okR] using k1)
   exact ⟨h',c,q1,q2,rfl⟩
  | either k=>cases e;exact bg _ (fun _ _=>yru) er
  | guard a b k=>cases e;exact bg _ (fun _ _=>yup) er
  | settle =>
   dsimp only at e
   split at e
   .cases e
   .rename_i hn
    cases e
    obtain ⟨h',c',q1,q2,q3⟩:=yrz (R.to (s.t+1)) ok hn
    exact ⟨h',c',by rw [yjU R.run er,yrv,q1],q2,q3⟩
  | reckon v a p q =>
   dsimp only at e
   split at e
   .rename_i hx
    cases e
    obtain ⟨⟨⟨k2,k3⟩,k4⟩,k5⟩:((v∈W5/\a∈SL)/\p∈SL)/\q∈SL:=by simpa [okR] using k1
    obtain ⟨h',q1,q2⟩:=yrB R er k2 k3 k4 k5 h8 hx
    exact ⟨h',c,q1,q2,rfl⟩
   .cases e
  | lay=>cases e
  | wait =>
   dsimp only at e
   unfold yiV at e
   split at e
   .cases e
   .rename_i L hL
    split at e
    .rename_i x hx
     cases e
     exact yxD R er ok hL hx
    .cases e
  | throw a b =>
   dsimp only at e
   unfold yiV at e
   split at e
   .cases e
   .rename_i L hL
    split at e
    .rename_i x hx
     cases e
     obtain ⟨y,hy,ht⟩:=yor hL
     rw [hx] at hy
     cases hy
     exact yur R er (by simpa [okR] using k1) ok hL hx ht
    .cases e
 .cases e
def yef (w:Int) (s:RS):Rw->Bool
 | .take _ p=>isN (ymP s w p)
 | .wait=>decide (((tkL s.sd .wait s.sd.length:Nat):Int)=0)
 | .throw a b=>decide (((tkL s.sd (.throw a b) s.sd.length:Nat):Int)=0)
 | .lay=>true
 | _=>false
theorem ymR (R:RR w rows rest h c s) (er:rows[s.t]?=some (yV r)) (ok:okS s=true) (okr:okR r=true) (hw:1<=w):ybp [.loc c.rn] h=some (.bl (yef w s r),h):=by
 obtain ⟨h8,o2,o3,o4,o5⟩:=ygF ok
 rw [yxx R.run er]
 have tk:∀ b:Rw,yuk b=true->loB [.val (.loc c.rn),.val (yV b)] h=ob (yR (xOp (oEq) (M2 "taker_layer" ybh) (xC (.int 0))) [.val (.loc c.rn),.val (yV b)] h) (sqK (yR (xOp (oEq) (xOp (ybb) (ye 1) (xC (.int 0))) (xC (.str "lay")))))->ob (loB [.val (.loc c.rn),.val (yV b)] h) fnK=some (.bl (decide (((tkL s.sd b s.sd.length:Nat):Int)=0)),h):=fun b hb e=>by
  rw [e]
  show ob (ob (yR (xOp oEq (yk 12 "taker_layer" ybh (ye 0) (yb (ye 1) (yh))) (xC (.int 0))) [.val (.loc c.rn),.val (yV b)] h) _) fnK=_
  simp_all? only [yct,yE (m:="taker_layer") R.run (by rfl'),yon R.run R.sds (fun x hx=>(o4 x hx).1) hb (by omega)]
 cases r with
 | wait=>exact tk .wait rfl (by kernel_rfl!)
 | throw a b=>exact tk (.throw a b) rfl (by kernel_rfl!)
 | take a p =>
  obtain ⟨k2,k3⟩:a∈SL/\p∈SL:=by simpa [okR] using okr
  have i0:∀ h,ybb (yV (.take a p)) (.int 0) h=some (.str "take",h):=fun _=>rfl
  have i2:∀ h,ybb (yV (.take a p)) (.int 2) h=some (.str p,h):=fun _=>rfl
  unfold loB
  simp_all? only [yct,i0,i2,yE (m:="sees_at") R.run (by rfl'),yxF R k3 h8 hw]
  rfl
 | reckon v a p q =>
  obtain ⟨⟨⟨k2,_⟩,_⟩,_⟩:((v∈W5/\a∈SL)/\p∈SL)/\q∈SL:=by simpa [okR] using okr
  rcases yuf k2 with rfl|rfl|rfl|rfl|rfl<;>kernel_rfl!
 | _=>kernel_rfl!
end
def stB (m:List (Nat×Int×Int)) (sp:List Int):Bool:=(m.map fun p=>!decide (sp.getD p.1 0=p.2.2)).any id
theorem yAx {f:Nat×Int×Int->PV}:∀ {m:List (Nat×Int×Int)}{p:Nat×Int×Int},(m.map (·.1)).Nodup->p∈m->yhw (sK m) (m.map f) (.inl (p.1:Int))=some (f p)
 | q::m,p,nd,hp=>by
  show (if (Sum.inl (q.1:Int):Key)=.inl (p.1:Int) then some (f q) else yhw (sK m) (m.map f) (.inl (p.1:Int)))=_
  obtain ⟨n1,n2⟩:=List.nodup_cons.mp nd
  rcases mem_cons.mp hp with rfl|hp
  .rw [if_pos rfl]
  .rw [if_neg (fun z=>n1 ?_)]
   .exact yAx n2 hp
   .have:q.1=p.1:=by have:=Sum.inl.inj z;omega
    show q.1∈m.map (·.1)
    rw [this]
    exact List.mem_map_of_mem hp
theorem ymS {α:Type}(f:α->Bool):∀ l:List α,yht (l.map fun a=>PV.bl (f a))=some (l.map f)
 | []=>rfl
 | a::l=>by
  show yht (PV.bl (f a)::l.map fun a=>PV.bl (f a))=some (f a::l.map f)
  unfold yht
  simp only [ymS f l]
  try rfl
theorem yAy {f:Nat×Int×Int->PV}{k:Nat}{a b:Int}{m:List (Nat×Int×Int)}(hf:f (k,a,b)=v):ycQ (sK m) (m.map f) (.inl (k:Int)) v=(sK (ydi m k a b),(ydi m k a b).map f):=by
 have e1:∀ m:List (Nat×Int×Int),yqA (sK m) (.inl (k:Int))=decide (k∈m.map (·.1)):=by
  intro m
  induction m with
  | nil=>rfl
  | cons q m ih =>
   show (if (Sum.inl (q.1:Int):Key)=.inl (k:Int) then true else yqA (sK m) (.inl (k:Int)))=_
   rw [ih]
   by_cases e:q.1=k
   .rw [if_pos (by rw [e])]
    simp [e]
   .rw [if_neg (fun z=>e (by have:=Sum.inl.inj z;omega))]
    simp [Ne.symm e]
 have e2:∀ m:List (Nat×Int×Int),setK (sK m) (m.map f) (.inl (k:Int)) v=(m.map fun p=>if p.1=k then (k,a,b) else p).map f:=by
  intro m
  induction m with
  | nil=>rfl
  | cons q m ih =>
   show (if (Sum.inl (q.1:Int):Key)=.inl (k:Int) then v::setK (sK m) (m.map f) (.inl (k:Int)) v else f q::setK (sK m) (m.map f) (.inl (k:Int)) v)=f (if q.1=k then (k,a,b) else q)::_
   rw [ih]
   by_cases e:q.1=k
   .rw [if_pos (by rw [e]),if_pos e,hf]
   .rw [if_neg (fun z=>e (by have:=Sum.inl.inj z;omega)),if_neg e]
 unfold ycQ ydi
 rw [e1]
 by_cases e:k∈m.map (·.1)
 .rw [if_pos (decide_eq_true e),if_pos e,e2]
  refine Prod.ext ?_ rfl
  show sK m=(m.map fun p=>if p.1=k then (k,a,b) else p).map _
  rw [map_map]
  refine List.map_congr_left fun p _=>?_
  show _=(Sum.inl (((if p.1=k then (k,a,b) else p).1:Nat):Int):Key)
  split
  .rename_i e;rw [e]
  .rfl
 .rw [if_neg (by simp [e]),if_neg e,map_append]
  unfold sK
  rw [map_append,<- hf]
  rfl
section
variable {h:AH}{w:Int}{rows:List PV}{rest:List (Nat×Nd)}{c:Lc}{s s':RS}{r:Rw}{sp bx:List Int}{ma nu:Nat}
theorem yjV (R:RR w rows rest h c s) (hm:(ma,.lst (sp.map .int))∈rest) (nd:(s.sn.map (·.1)).Nodup) (hb:∀ p∈s.sn,p.1<sp.length) (hl:s.sn.length<=900):ycv [.loc c.rn,.loc ma] h=some (.bl (stB s.sn sp),h):=by
 obtain ⟨f1,f2,f3,f4,f5,f6,f7⟩:=ycK R.run
 have e:h[c.sn]?=some (.dct (sK s.sn) (sB s.sn)):=R.at_.get 5 rfl
 have A:=At.upd (a:=[_,_,_,_,_]) (.fz (sK s.sn) (sB s.sn)) R.at_
 have em:(h.set c.sn (.fz (sK s.sn) (sB s.sn)))[ma]?=some (.lst (sp.map .int)):=A.2 (ma,.lst (sp.map .int)) (by simp [hm])
 obtain ⟨g1,g2,g3,g4,g5,g6,g7⟩:=ycK (A.get 0 rfl)
 have en:(h.set c.sn (.fz (sK s.sn) (sB s.sn)))[c.sn]?=some (.fz (sK s.sn) (sB s.sn)):=A.get 5 rfl
 have back:(h.set c.sn (.fz (sK s.sn) (sB s.sn))).set c.sn (.dct (sK s.sn) (sB s.sn))=h:=by
  rw [List.set_set]
  obtain ⟨l1,l2⟩:=List.getElem?_eq_some_iff.mp e
  rw [<- l2,List.set_getElem_self]
 have cm:yij (xOp (oNe) (xOp (ycu) (ye 1) (ye 0)) (yhx (ybd [12] "seen_stamps" (ye 2)) (ye 0))) (yeX [1,0] [.val (.loc c.rn),.val (.loc ma)]) ((sK s.sn).map yjE) (h.set c.sn (.fz (sK s.sn) (sB s.sn)))=some (s.sn.map (fun p=>.bl (!decide (sp.getD p.1 0=p.2.2))),h.set c.sn (.fz (sK s.sn) (sB s.sn))):=by
  generalize h.set c.sn (.fz (sK s.sn) (sB s.sn))=h1 at *
  show yij _ _ ((s.sn.map fun p=>(.inl (p.1:Int):Key)).map yjE) _=_
  rw [map_map]
  refine yeF _ _ fun p hp=>?_
  show xOp _ _ _ [.val (.int (p.1:Int)),.val (.loc ma),.val (.loc c.rn)] _=_
  have i1:=yes em (hb p hp)
  have i2:yhx (ybd [12] "seen_stamps" (ye 2)) (ye 0) [.val (.int (p.1:Int)),.val (.loc ma),.val (.loc c.rn)] h1=some (.int p.2.2,h1):=by
   unfold yhx
   simp_all? only [g6]
   unfold ywM
   simp only [en,keyOf]
   unfold sB
   rw [yAx nd hp]
  simp_all? only [i1,i2]
 have an:∀ h,ytM [.lst (s.sn.map (fun p=>PV.bl (!decide (sp.getD p.1 0=p.2.2))))] h=some (.bl (stB s.sn sp),h):=fun h=>by
  unfold ytM yW
  simp only [ymS (fun p:Nat×Int×Int=>!decide (sp.getD p.1 0=p.2.2))]
  rfl
 have cd:yiO (ybd [12] "seen_stamps" (ye 0)) [1,0] (xOp (oNe) (xOp (ycu) (ye 1) (ye 0)) (yhx (ybd [12] "seen_stamps" (ye 2)) (ye 0))) [.val (.loc c.rn),.val (.loc ma)] h=some (.lst (s.sn.map (fun p=>.bl (!decide (sp.getD p.1 0=p.2.2)))),h):=by
  unfold yiO
  simp_all? only [f6]
  simp only [e]
  rw [if_pos (by unfold sK;rw [length_map];omega),cm,ybq,back]
 unfold ycv
 rw [yp]
 show ob (yR (xCB ytM (yb (xFz (yiO _ _ _)) yh)) [.val (.loc c.rn),.val (.loc ma)] h) fnK=_
 simp_all? only [cd,an]
theorem RR.see (R:RR w rows rest h c s) (k:Nat) (a b:Int):RR w rows rest ((h.set c.sn (.dct (sK (ydi s.sn k a b)) (sB (ydi s.sn k a b)))).set c.ls (.dct (sK (ydi s.sn k a b)) (sA (ydi s.sn k a b)))) c { s with sn:=ydi s.sn k a b }:=by
 have A:=At.upd (a:=[_,_,_,_,_]) (.dct (sK (ydi s.sn k a b)) (sB (ydi s.sn k a b))) R.at_
 exact ⟨At.upd (a:=[_,_,_,_]) (.dct (sK (ydi s.sn k a b)) (sA (ydi s.sn k a b))) A,R.len⟩
theorem yAz {o st b:Nat}{i:Int}{v:PV}{ks:List Key}{xs:List PV}(e1:h[o]?=some (.ins 11 ["stack","last_seen"] [.loc st,.loc b])) (e2:h[b]?=some (.dct ks xs)) (hl:ks.length<1000):yfO [.loc o,.int i,v] h=some (.non,h.set b (.dct (ycQ ks xs (.inl i) v).1 (ycQ ks xs (.inl i) v).2)):=by
 unfold yfO
 rw [yp]
 show ob (yjw _ _ _ [.val (.loc o),.val (.int i),.val v] h) fnK=_
 rw [yjT (n:=b) (i:=i) (x:=v) rfl (by rw [yjr,show ye 0 [PVar.val (.loc o),.val (.int i),.val v] h=some (.loc o,h) from rfl,ybq,yrm e1]) rfl e2 hl]
 rfl
theorem ymT {a p:Str}{k:Nat}(R:RR w rows rest h c s) (er:rows[s.t]?=some (yV (.take a p))) (hm:(ma,.lst (sp.map .int))∈rest) (hn:(nu,.lst (bx.map .int))∈rest) (h8:s.hs.length=8) (ha:a∈SL) (hp:p∈SL) (hw:1<=w) (hk:s.hs.getD (sx p) 0%w=(k:Nat)) (hks:k<sp.length) (hkb:k<bx.length) (hl:s.sn.length<=900) :
  ∃ h',yda [.loc c.rn,.loc nu,.loc ma] h=some (.int (k:Nat),h')/\RR w rows rest h' c ⟨s.t+1,s.hs.set (sx a) (bx.getD k 0),s.sd,s.dd,ydi s.sn k (bx.getD k 0) (sp.getD k 0)⟩:=by
 have R1:=R.see k (bx.getD k 0) (sp.getD k 0)
 have R2:=R1.hold (s.hs.set (sx a) (bx.getD k 0))
 refine ⟨_,?_,R2.to (s.t+1)⟩
 obtain ⟨f1,f2,f3,f4,f5,f6,f7⟩:=ycK R.run
 have A0:=At.upd (a:=[_,_,_,_,_]) (.dct (sK (ydi s.sn k (bx.getD k 0) (sp.getD k 0))) (sB (ydi s.sn k (bx.getD k 0) (sp.getD k 0)))) R.at_
 have i1:ycu (.loc ma) (.int (k:Nat)) h=some (.int (sp.getD k 0),h):=yes (R.at_.2 (ma,.lst (sp.map .int)) (by unfold RM;simp [hm])) hks
 have i2:∀ h,ybb (yV (.take a p)) (.int 1) h=some (.str a,h):=fun _=>rfl
 have i3:∀ h,ybb (yV (.take a p)) (.int 2) h=some (.str p,h):=fun _=>rfl
 have b1:=yeL R.run R.held h8 hp hw
 rw [hk] at b1
 have lk:(sK s.sn).length<1000:=by unfold sK;rw [length_map];omega
 have d1:=yjT (h:=h) (n:=c.sn) (i:=(k:Nat)) (x:=.int (sp.getD k 0)) (ed:=ybd [12] "seen_stamps" (ye 0)) (ek:=ye 4) (ev:=xOp (ycu) (ye 2) (ye 4)) (ρ:=[.val (.loc c.rn),.val (.loc nu),.val (.loc ma),.val (yV (.take a p)),.val (.int (k:Nat))]) (by simp_all? only [i1]) (by simp_all? only [f6]) rfl (R.at_.get 5 rfl) lk
 rw [show sB s.sn=s.sn.map (fun p=>.int p.2.2) from rfl,yAy (f:=fun p=>.int p.2.2) (a:=bx.getD k 0) (b:=sp.getD k 0) rfl] at d1
 have r1:(h.set c.sn (.dct (sK (ydi s.sn k (bx.getD k 0) (sp.getD k 0))) (sB (ydi s.sn k (bx.getD k 0) (sp.getD k 0)))))[c.rn]?=some (yiT c.hl w c.lg rows s.t c.sn c.sd):=A0.get 0 rfl
 have ts:ycy [.loc c.rn,.str a,.str p,.loc nu] (h.set c.sn (.dct (sK (ydi s.sn k (bx.getD k 0) (sp.getD k 0))) (sB (ydi s.sn k (bx.getD k 0) (sp.getD k 0)))))=some (.non,((h.set c.sn (.dct (sK (ydi s.sn k (bx.getD k 0) (sp.getD k 0))) (sB (ydi s.sn k (bx.getD k 0) (sp.getD k 0))))).set c.ls (.dct (sK (ydi s.sn k (bx.getD k 0) (sp.getD k 0))) (sA (ydi s.sn k (bx.getD k 0) (sp.getD k 0))))).set c.hl (.lst ((s.hs.set (sx a) (bx.getD k 0)).map .int))):=by
  have b2:=yeL (r:=p) (A0.get 0 rfl) (A0.get 1 rfl) h8 hp hw
  rw [hk] at b2
  have g1:=(ycK (A0.get 0 rfl)).2.2.1
  have s1:=yAz (i:=(k:Nat)) (v:=.int (bx.getD k 0)) (A0.get 2 rfl) (A0.get 4 rfl) lk
  rw [show sA s.sn=s.sn.map (fun p=>.int p.2.1) from rfl,yAy (f:=fun p=>.int p.2.1) (a:=bx.getD k 0) (b:=sp.getD k 0) rfl] at s1
  have j1:=yes (A0.2 (nu,.lst (bx.map .int)) (by simp [hn])) hkb
  have j2:=yes (R1.at_.2 (nu,.lst (bx.map .int)) (by unfold RM;simp [hn])) hkb
  have lo:=A0.get 2 rfl
  have hd:=yhP (v:=bx.getD k 0) R1.run R1.held h8 ha
  have r2:=R1.run
  dsimp only at hd r2
  change _=some (PV.non,(h.set c.sn _).set c.ls (.dct (sK (ydi s.sn k (bx.getD k 0) (sp.getD k 0))) (sA (ydi s.sn k (bx.getD k 0) (sp.getD k 0))))) at s1
  generalize (h.set c.sn (.dct (sK (ydi s.sn k (bx.getD k 0) (sp.getD k 0))) (sB (ydi s.sn k (bx.getD k 0) (sp.getD k 0)))))=h1 at *
  generalize (h1.set c.ls (.dct (sK (ydi s.sn k (bx.getD k 0) (sp.getD k 0))) (sA (ydi s.sn k (bx.getD k 0) (sp.getD k 0)))))=h2 at *
  unfold ycy
  rw [yp]
  show ob (ym _ _ [.val (.loc c.rn),.val (.str a),.val (.str p),.val (.loc nu),.no] h1) fnK=_
  simp_all? only [yct,yE (m:="box_at") r1 (by rfl'),b2,g1,yE (m:="see") lo (by rfl'),j1,s1,yE (m:="hold") r2 (by rfl'),j2,hd]
 have rr:=R2.run
 have f5':=(ycK R2.run).2.2.2.2.1
 have sa:=fun ρ=>yoo (j:=((s.t+1:Nat):Int)) (ρ:=ρ) R2.run
 have z:((s.t:Nat):Int)+1=((s.t+1:Nat):Int):=by omega
 dsimp only at f5' sa rr
 change _=some (Out.nx _,h.set c.sn (.dct (sK (ydi s.sn k (bx.getD k 0) (sp.getD k 0))) (sB (ydi s.sn k (bx.getD k 0) (sp.getD k 0))))) at d1
 generalize (h.set c.sn (.dct (sK (ydi s.sn k (bx.getD k 0) (sp.getD k 0))) (sB (ydi s.sn k (bx.getD k 0) (sp.getD k 0)))))=h1 at *
 generalize ((h1.set c.ls (.dct (sK (ydi s.sn k (bx.getD k 0) (sp.getD k 0))) (sA (ydi s.sn k (bx.getD k 0) (sp.getD k 0))))).set c.hl (.lst ((s.hs.set (sx a) (bx.getD k 0)).map .int)))=h2 at *
 unfold yda
 rw [yp]
 show ob (ym _ _ [.val (.loc c.rn),.val (.loc nu),.val (.loc ma),.no,.no] h) fnK=_
 simp_all? only [yct,yE (m:="row") R.run (by rfl'),yhO R.run rfl er,i2,i3,yE (m:="box_at") R.run (by rfl'),b1,d1,yE (m:="take_seen") r1 (by rfl'),ts,yrq,f5',z,sa]
end
structure HC where
 H:Nat
 nu:Nat
 ma:Nat
 cr:Nat
 en:Nat
structure HQ where
 bx:List Int
 sp:List Int
 en:List PV
 cw:List Nat
 i:Nat
 hd:Nat
 ds:List PV
 nth:Nat
 sl:Bool
 bf:List Int
def HL (g:HC) (rn:Nat) (w:Int) (q:HQ) (own:List (Nat×Nd)):List (Nat×Nd) :=
 (g.H,ylr g.nu g.ma g.cr g.en)::(g.nu,.lst (q.bx.map .int))::(g.ma,.lst (q.sp.map .int))::(g.cr,.lst (q.cw.map .loc))::(g.en,.lst q.en)::(q.hd,ydg q.ds w q.nth q.sl q.bf rn)::own
structure NF (W:Nat) (s:RS):Prop where
 nd:(s.sn.map (·.1)).Nodup
 hb:∀ p∈s.sn,p.1<W
 hl:s.sn.length<=900
def stN (q:HQ):Str:=if q.nth=q.ds.length then "ended" else if q.sl=true then "asleep" else "awake"
section
variable {h:AH}{w:Int}{rows:List PV}{c:Lc}{s s':RS}{r:Rw}{g:HC}{q:HQ}{own:List (Nat×Nd)}{rn:Nat}
theorem RR.rest {m:List (Nat×Nd)}(R:RR w rows m h c s):At h m:=by
 have A:=R.at_
 unfold RM at A
 exact (At.sub A (List.sublist_append_right (_::_::_::_::_::_::_::lay c.ly s.dd) m))
theorem ymU (A:At h (HL g rn w q own)) (hi:q.cw[q.i]?=some q.hd):ycu (.loc g.cr) (.int (q.i:Nat)) h=some (.loc q.hd,h):=by
 have e:h[g.cr]?=some (.lst (q.cw.map .loc)):=A.get 3 rfl
 unfold ycu
 simp only [e]
 rw [ydw (show (q.cw.map PV.loc)[q.i]?=some (.loc q.hd) by rw [getElem?_map,hi];rfl)]
theorem yeV (A:At h (HL g rn w q own)) (hi:q.cw[q.i]?=some q.hd):ybv [.loc g.H,.int (q.i:Nat)] h=some (.loc q.hd,h):=by
 obtain ⟨f1,f2,f3,f4⟩:=ydm (A.get 0 rfl)
 have e:h[g.cr]?=some (.lst (q.cw.map .loc)):=A.get 3 rfl
 have i1:ydZ [.int (q.i:Nat)] h=some (.bl true,h):=by kernel_rfl!
 have i2:=ymU A hi
 have lt:=(List.getElem?_eq_some_iff.mp hi).1
 have l1:((0:Int)<=(q.i:Nat))=True:=eq_true (by omega)
 have l2:(((q.i:Nat):Int)<((q.cw.map PV.loc).length:Nat))=True:=eq_true (by rw [length_map];omega)
 unfold ybv
 rw [yp]
 show ob (ym _ _ [.val (.loc g.H),.val (.int (q.i:Nat))] h) fnK=_
 simp_all? only [f3,yjy e,i1,i2,l1,l2]
theorem yfT (A:At h (HL g rn w q own)):yck [.loc q.hd] h=some (.str (stN q),h):=by
 obtain ⟨f1,f2,f3,f4,f5,f6⟩:=ydn (A.get 5 rfl)
 unfold yck stN
 rw [yp]
 show ob (ym _ _ [.val (.loc q.hd)] h) fnK=_
 by_cases e:q.nth=q.ds.length
 .have e':((q.nth:Nat):Int)=(q.ds.length:Nat):=by omega
  rw [if_pos e]
  simp_all? only [f3,f1,e']
 .have e':(((q.nth:Nat):Int)=(q.ds.length:Nat))=False:=eq_false (by omega)
  rw [if_neg e]
  simp_all? only [f3,f1,f4,e']
  cases q.sl<;>rfl
theorem awake (hn:q.nth<q.ds.length) (hs:q.sl=false):stN q = "awake":=by
 unfold stN
 rw [if_neg (by omega),hs]
 rfl
theorem yrC (R:RR w rows (HL g c.rn w q own) h c s) (hi:q.cw[q.i]?=some q.hd) (er:rows[s.t]?=some (yV r)) (hw:1<=w) (hn:q.nth<q.ds.length) (hs:q.sl=false) (ok:okS s=true) (okr:okR r=true) (hlk:yef w s r=false) (e:ydR w r s=some s') :
  ∃ h' c',yx [.loc g.H,.int (q.i:Nat)] h=some (.tup [.str "gone",.int s.t],h')/\RR w rows (HL g c'.rn w q own) h' c' s':=by
 obtain ⟨h',c',q1,q2,q3⟩:=yxH R er hw e
 refine ⟨h',c',?_,by rw [q3];exact q2⟩
 have A:=R.rest
 obtain ⟨f1,f2,f3,f4,f5,f6⟩:=ydn (A.get 5 rfl)
 obtain ⟨k1,k2,k3,k4,k5,k6,k7⟩:=ycK R.run
 have st:=yfT A
 rw [awake hn hs] at st
 have lk:=ymR R er ok okr hw
 rw [hlk] at lk
 unfold yx
 rw [yp]
 show ob (ym _ _ [.val (.loc g.H),.val (.int (q.i:Nat)),.no,.no] h) fnK=_
 simp_all? only [yct,yE (m:="hand_at") (A.get 0 rfl) (by rfl'),yeV A hi,yE (m:="state") (A.get 5 rfl) (by rfl'),st,f6,k5,yE (m:="is_looked_over") R.run (by rfl'),lk,yE (m:="go") R.run (by rfl'),q1]
theorem yfU (R:RR w rows (HL g c.rn w q own) h c s) (hi:q.cw[q.i]?=some q.hd) (er:rows[s.t]?=some (yV r)) (hw:1<=w) (hn:q.nth<q.ds.length) (hs:q.sl=false) (ok:okS s=true) (okr:okR r=true) (hlk:yef w s r=true) (F:NF q.sp.length s) (fr:stB s.sn q.sp=false):yx [.loc g.H,.int (q.i:Nat)] h=ob (yO [.loc g.H,.int (q.i:Nat),.int s.t] h) (fun x h=>some (x,h)):=by
 have A:=R.rest
 obtain ⟨f1,f2,f3,f4,f5,f6⟩:=ydn (A.get 5 rfl)
 obtain ⟨g1,g2,g3,g4⟩:=ydm (A.get 0 rfl)
 obtain ⟨k1,k2,k3,k4,k5,k6,k7⟩:=ycK R.run
 have st:=yfT A
 rw [awake hn hs] at st
 have lk:=ymR R er ok okr hw
 rw [hlk] at lk
 have sl:=yjV (ma:=g.ma) (sp:=q.sp) R (mem_of_getElem? (i:=2) rfl) F.nd F.hb F.hl
 rw [fr] at sl
 unfold yx
 rw [yp]
 show ob (ym _ _ [.val (.loc g.H),.val (.int (q.i:Nat)),.no,.no] h) fnK=_
 simp_all? only [yct,yE (m:="hand_at") (A.get 0 rfl) (by rfl'),yeV A hi,yE (m:="state") (A.get 5 rfl) (by rfl'),st,f6,k5,yE (m:="is_looked_over") R.run (by rfl'),lk,g2,yE (m:="is_stale") R.run (by rfl'),sl,yE (m:="looked_over_told") (A.get 0 rfl) (by rfl')]
theorem yrD {a p:Str}{k:Nat}(R:RR w rows (HL g c.rn w q own) h c s) (hi:q.cw[q.i]?=some q.hd) (er:rows[s.t]?=some (yV (.take a p))) (hw:1<=w) (hn:q.nth<q.ds.length) (hs:q.sl=false) (ok:okS s=true) (okr:okR (.take a p)=true) (hlk:isN (ymP s w p)=true) (F:NF q.sp.length s) (fr:stB s.sn q.sp=false) (hk:s.hs.getD (sx p) 0%w=(k:Nat)) (hkb:k<q.bx.length) (hbs:q.sp.length=q.bx.length) :
  ∃ h',yx [.loc g.H,.int (q.i:Nat)] h=some (.tup [.str "seen",.int s.t,.int (k:Nat),.int (q.bx.getD k 0)],h')/\RR w rows (HL g c.rn w q own) h' c ⟨s.t+1,s.hs.set (sx a) (q.bx.getD k 0),s.sd,s.dd,ydi s.sn k (q.bx.getD k 0) (q.sp.getD k 0)⟩:=by
 obtain ⟨h8,o2,o3,o4,o5⟩:=ygF ok
 obtain ⟨k2,k3⟩:a∈SL/\p∈SL:=by simpa [okR] using okr
 obtain ⟨h',q1,R'⟩:=ymT (ma:=g.ma) (nu:=g.nu) (sp:=q.sp) (bx:=q.bx) R er (mem_of_getElem? (i:=2) rfl) (mem_of_getElem? (i:=1) rfl) h8 k2 k3 hw hk (by omega) hkb F.hl
 refine ⟨h',?_,R'⟩
 rw [yfU R hi er hw hn hs ok okr hlk F fr]
 have A:=R.rest
 have A':=R'.rest
 obtain ⟨f1,f2,f3,f4,f5,f6⟩:=ydn (A.get 5 rfl)
 obtain ⟨g1,g2,g3,g4⟩:=ydm (A.get 0 rfl)
 have g1':=(ydm (A'.get 0 rfl)).1
 have i2:=ymU A hi
 have i4:∀ h,ybb (yV (.take a p)) (.int 0) h=some (.str "take",h):=fun _=>rfl
 have i5:=yes (A'.get 1 rfl) hkb
 unfold yO
 rw [yp]
 show ob (ob (ym _ _ [.val (.loc g.H),.val (.int (q.i:Nat)),.val (.int s.t),.no,.no,.no] h) fnK) _=_
 simp_all? only [yct,g1,g2,g3,i2,f6,yE (m:="row") R.run (by rfl'),yhO R.run rfl er,i4,yE (m:="see_next") R.run (by rfl'),q1,g1',i5]
theorem yrE {n:Nat}{ds:List PV}{w nth:Int}{sl v:Bool}{bf:List Int}{rn:Nat}{ρ:PSt}(e:h[n]?=some (ydg ds w nth sl bf rn)):fL [14] "sleeps" ρ (.bl v) (.loc n) h=some (.nx ρ,h.set n (ydg ds w nth v bf rn)):=yeK e (by decide) (by kernel_rfl!)
theorem RR.sub {m m':List (Nat×Nd)}(R:RR w rows m h c s) (u:m'.Sublist m):RR w rows m' h c s:=by
 refine ⟨?_,R.len⟩
 have A:=R.at_
 unfold RM at A ⊢
 exact A.sub ((((((((List.Sublist.refl _).append u).cons₂ _).cons₂ _).cons₂ _).cons₂ _).cons₂ _).cons₂ _ |>.cons₂ _)
theorem RR.urest {a b:List (Nat×Nd)}{n:Nat}{d:Nd}(d':Nd) (R:RR w rows (a++(n,d)::b) h c s):RR w rows (a++(n,d')::b) (h.set n d') c s:=by
 refine ⟨?_,R.len⟩
 have A:=R.at_
 unfold RM at A ⊢
 rw [<- append_assoc] at A ⊢
 exact At.upd (a:=_::_::_::_::_::_::_::(lay c.ly s.dd++a)) d' A
theorem ypa (R:RR w rows (HL g c.rn w q own) h c s) (hi:q.cw[q.i]?=some q.hd) (er:rows[s.t]?=some (yV .wait)) (hw:1<=w) (hn:q.nth<q.ds.length) (hs:q.sl=false) (ok:okS s=true) (hlk:yef w s .wait=true) (F:NF q.sp.length s) (fr:stB s.sn q.sp=false) :
  ∃ h',yx [.loc g.H,.int (q.i:Nat)] h=some (.tup [.str "asleep",.int s.t],h')/\RR w rows (HL g c.rn w { q with sl:=true } own) h' c s:=by
 have A:=R.rest
 refine ⟨h.set q.hd (ydg q.ds w q.nth true q.bf c.rn),?_,RR.urest (a:=[_,_,_,_,_]) _ R⟩
 rw [yfU R hi er hw hn hs ok rfl hlk F fr]
 obtain ⟨f1,f2,f3,f4,f5,f6⟩:=ydn (A.get 5 rfl)
 obtain ⟨g1,g2,g3,g4⟩:=ydm (A.get 0 rfl)
 have i2:=ymU A hi
 have i4:∀ h,ybb (yV .wait) (.int 0) h=some (.str "wait",h):=fun _=>rfl
 have fa:ycf [.loc q.hd] h=some (.non,h.set q.hd (ydg q.ds w q.nth true q.bf c.rn)):=by
  have s1:=fun ρ=>yrE (ρ:=ρ) (v:=true) (A.get 5 rfl)
  unfold ycf
  rw [yp]
  show ob (ydd _ _ _ _ [.val (.loc q.hd)] h) fnK=_
  simp_all? only [yrq,s1]
 unfold yO
 rw [yp]
 show ob (ob (ym _ _ [.val (.loc g.H),.val (.int (q.i:Nat)),.val (.int s.t),.no,.no,.no] h) fnK) _=_
 simp_all? only [yct,g3,i2,f6,yE (m:="row") R.run (by rfl'),yhO R.run rfl er,i4,ymM,yE (m:="fall_asleep") (A.get 5 rfl) (by rfl'),fa]
end
section
variable {h:AH}{w:Int}{rows rows':List PV}{c:Lc}{s s':RS}{r:Rw}{g:HC}{q:HQ}{own:List (Nat×Nd)}{rn:Nat}
def hp1 (h:AH) (bf:List Int):AH:=h++[Nd.lst (bf.map .int)]
def hp2 (h:AH) (bf:List Int):AH:=hp1 h bf++[Nd.dct [] []]
def hp3 (h:AH) (bf:List Int):AH:=hp2 h bf++[Nd.lst [.loc (hp1 h bf).length]]
def hp4 (h:AH) (bf:List Int):AH:=hp3 h bf++[Nd.dct [] []]
noncomputable def hp5 (h:AH) (bf:List Int):AH:=hp4 h bf++[Nd.ins 11 ["stack","last_seen"] [.loc (hp2 h bf).length,.loc (hp3 h bf).length]]
def hp6 (h:AH) (bf:List Int):AH:=hp5 h bf++[Nd.dct [] []]
def hp7 (h:AH) (bf:List Int):AH:=hp6 h bf++[Nd.lst []]
theorem yus {bf:List Int}:∃ h' c',ob (ydQ [.lst rows,.lst (bf.map .int),.int w] h) (fun d h1=>some (PV.loc h1.length,h1++[d]))=some (.loc c'.rn,h')/\∀ m,At h m->RR w rows m h' c' (S0 bf):=by
 refine ⟨_,⟨(hp7 h bf).length,h.length,(hp4 h bf).length,(hp2 h bf).length,(hp3 h bf).length,(hp5 h bf).length,(hp6 h bf).length,[(hp1 h bf).length]⟩,rfl,fun m A=>⟨?_,rfl⟩⟩
 have A2:=At.new (.dct [] []) (a:=[_]) (At.new (.lst (bf.map .int)) (a:=[]) A)
 have A4:=At.new (.dct [] []) (a:=[_,_]) (At.new (.lst [.loc (hp1 h bf).length]) (a:=[_]) A2)
 have A5:=At.new (.ins 11 ["stack","last_seen"] [.loc (hp2 h bf).length,.loc (hp3 h bf).length]) (a:=[_]) A4
 exact At.new _ (a:=[]) (At.new (.lst []) (a:=[_,_,_,_,_]) (At.new (.dct [] []) (a:=[_,_,_,_]) A5))
theorem yut {n:Nat}{ds:List PV}{w nth v:Int}{sl:Bool}{bf:List Int}{rn:Nat}{ρ:PSt}(e:h[n]?=some (ydg ds w nth sl bf rn)):fL [14] "nth" ρ (.int v) (.loc n) h=some (.nx ρ,h.set n (ydg ds w v sl bf rn)):=yeK e (by decide) (by kernel_rfl!)
theorem yxI {n:Nat}{ds:List PV}{w nth:Int}{sl:Bool}{bf v:List Int}{rn:Nat}{ρ:PSt}(e:h[n]?=some (ydg ds w nth sl bf rn)):fL [14] "before" ρ (.lst (v.map .int)) (.loc n) h=some (.nx ρ,h.set n (ydg ds w nth sl v rn)):=yeK e (by decide) (by kernel_rfl!)
theorem yrF {n:Nat}{ds:List PV}{w nth:Int}{sl:Bool}{bf:List Int}{rn v:Nat}{ρ:PSt}(e:h[n]?=some (ydg ds w nth sl bf rn)):fL [14] "run" ρ (.loc v) (.loc n) h=some (.nx ρ,h.set n (ydg ds w nth sl bf v)):=yeK e (by decide) (by kernel_rfl!)
def Due (ds:List PV) (nth:Nat) (rows:List PV):Prop:=nth<ds.length/\ds[nth]?=some (.lst rows)\/nth=ds.length/\rows=[]
theorem ygs {n:Nat}{ds:List PV}{nth:Nat}{bf:List Int}(f1:yfC [14] "deeds" (.loc n) h=some (.lst ds,h)) (f2:yfC [12,14] "width" (.loc n) h=some (.int w,h)) (f3:yfC [14] "nth" (.loc n) h=some (.int nth,h)) (f5:yfC [14] "before" (.loc n) h=some (.lst (bf.map .int),h)) (hr:Due ds nth rows):∃ h' c',ycd [.loc n] h=some (.loc c'.rn,h')/\∀ m,At h m->RR w rows m h' c' (S0 bf):=by
 obtain ⟨h',c',q1,q2⟩:=yus (h:=h) (w:=w) (rows:=rows) (bf:=bf)
 refine ⟨h',c',?_,q2⟩
 unfold ycd
 rw [yp]
 show ob (ym _ _ [.val (.loc n),.no] h) fnK=_
 rcases hr with ⟨h1,h2⟩|⟨h1,h2⟩
 .have e1:(((nth:Nat):Int)<(ds.length:Nat))=True:=eq_true (by omega)
  have e2:ycu (.lst ds) (.int (nth:Nat)) h=some (.lst rows,h):=by unfold ycu;simp only [ydw h2]
  simp_all? only [f3,f1,f5,f2,e1,e2,q1]
 .have e1:(((nth:Nat):Int)<(ds.length:Nat))=False:=eq_false (by omega)
  subst h2
  simp_all? only [f3,f1,f5,f2,e1,q1]
theorem yuu {v:PV}{bf:List Int}(A:At h (HL g rn w q own)) (hb:∀ h1,At h1 (HL g rn w { q with nth:=q.nth+1 } own)->ybg [v] h1=some (.lst (bf.map .int),h1)) (hr:Due q.ds (q.nth+1) rows) :
  ∃ h' c',ydK [.loc q.hd,v] h=some (.non,h')/\RR w rows (HL g c'.rn w { q with nth:=q.nth+1,bf:=bf } own) h' c' (S0 bf):=by
 obtain ⟨f1,f2,f3,f4,f5,f6⟩:=ydn (A.get 5 rfl)
 have A1:At (h.set q.hd (ydg q.ds w (q.nth+1:Nat) q.sl q.bf rn)) (HL g rn w { q with nth:=q.nth+1 } own):=At.upd (a:=[_,_,_,_,_]) _ A
 have A2:At ((h.set q.hd (ydg q.ds w (q.nth+1:Nat) q.sl q.bf rn)).set q.hd (ydg q.ds w (q.nth+1:Nat) q.sl bf rn)) (HL g rn w { q with nth:=q.nth+1,bf:=bf } own):=At.upd (a:=[_,_,_,_,_]) _ A1
 have s1:=fun ρ=>yut (ρ:=ρ) (v:=((q.nth+1:Nat):Int)) (A.get 5 rfl)
 have s2:=fun ρ=>yxI (ρ:=ρ) (v:=bf) (A1.get 5 rfl)
 have b1:=hb _ A1
 obtain ⟨a1,a2,a3,a4,a5,a6⟩:=ydn (A2.get 5 rfl)
 obtain ⟨h',c',q1,q2⟩:=ygs a1 a2 a3 a5 hr
 have R:=q2 _ A2
 have B:=R.rest
 have s3:=fun ρ=>yrF (ρ:=ρ) (v:=c'.rn) (B.get 5 rfl)
 refine ⟨h'.set q.hd (ydg q.ds w (q.nth+1:Nat) q.sl bf c'.rn),c',?_,RR.urest (a:=[_,_,_,_,_]) _ R⟩
 have z:((q.nth:Nat):Int)+1=((q.nth+1:Nat):Int):=by omega
 unfold ydK
 rw [yp]
 show ob (ym _ _ [.val (.loc q.hd),.val v] h) fnK=_
 simp_all? only [yrq,yct,f3,z,s1,s2,b1,yE (m:="new_run") (A2.get 5 rfl) (by rfl'),q1,s3]
def EX (c:Lc) (w:Int) (rows:List PV) (s:RS):List (Nat×Nd):=RM w rows c s []
theorem yhR {m:List (Nat×Nd)}:RM w rows c s m=EX c w rows s++m:=by
 unfold EX RM
 simp
theorem RR.hl (R:RR w rows (HL g c.rn w q own) h c s):At h (HL g c.rn w q (EX c w rows s++own)):=by
 have A:=R.at_
 rw [yhR] at A
 exact A.perm (show (HL g c.rn w q []++(EX c w rows s++own)).Perm _ from List.perm_append_comm_assoc _ _ _)
theorem yvx {L:List PV}{b st:Nat}{m:List (Nat×Int×Int)}(e1:h[b]?=some (.ins 11 ["stack","last_seen"] [.loc st,.loc rn])) (e2:h[rn]?=some (.dct (sK m) (sA m))) (hs:sortI (sK m) (sA m)=some L):yeH [.loc b] h=some (.lst L,h):=by
 have e1:=yrm e1
 unfold yeH
 rw [yp,yqv,yBq]
 unfold yiN
 rw [yjr,show ye 0 ([PV.loc b].map .val++replicate (1-[PV.loc b].length) .no) h=some (.loc b,h) from rfl,ybq,e1,ybq]
 unfold ykW
 simp only [e2,hs]
 rfl
noncomputable def yxJ (q:HQ) (en:PV) (L laid:List PV) (bf:List Int):PV:=.tup [.int (q.i:Nat),.int (q.nth:Nat),en,.lst L,.lst laid,.lst (bf.map .int)]
theorem yhS {en v:PV}{L laid:List PV}{bf:List Int}(A:At h (HL g c.rn w q (EX c w rows s++own))) (hi:q.cw[q.i]?=some q.hd) (hs:sortI (sK s.sn) (sA s.sn)=some L) (hb:∀ h1 q',At h1 (HL g c.rn w q' (EX c w rows s++own))->ybg [v] h1=some (.lst (bf.map .int),h1)) (hr:Due q.ds (q.nth+1) rows') (hl:q.en.length<1000) :
  ∃ h' c',ycn [.loc g.H,.int (q.i:Nat),en,.lst laid,v] h=some (.non,h')/\RR w rows' (HL g c'.rn w { q with en:=q.en++[yxJ q en L laid bf],nth:=q.nth+1,bf:=bf } own) h' c' (S0 bf):=by
 obtain ⟨f1,f2,f3,f4⟩:=ydm (A.get 0 rfl)
 obtain ⟨k1,k2,k3,k4,k5,k6⟩:=ydn (A.get 5 rfl)
 obtain ⟨r1,r2,r3,r4,r5,r6,r7⟩:=ycK (A.get 6 rfl)
 have i2:=ymU A hi
 have een:h[g.en]?=some (.lst q.en):=A.get 4 rfl
 have A1:At (h.set g.en (.lst (q.en++[yxJ q en L laid bf]))) (HL g c.rn w { q with en:=q.en++[yxJ q en L laid bf] } (EX c w rows s++own)):=At.upd (a:=[_,_,_,_]) _ A
 obtain ⟨h',c',q1,q2⟩:=yuu (v:=v) (bf:=bf) A1 (fun h1 a=>hb h1 _ a) hr
 refine ⟨h',c',?_,q2.sub ((((((List.sublist_append_right _ _).cons₂ _).cons₂ _).cons₂ _).cons₂ _).cons₂ _ |>.cons₂ _)⟩
 have ea:ygM (.loc g.en) [.tup [.int (q.i:Nat),.int (q.nth:Nat),en,.lst L,.lst laid,.lst (bf.map .int)]] h=some (.non,h.set g.en (.lst (q.en++[yxJ q en L laid bf]))):=yjz een (by omega)
 have b1:=hb _ _ A
 have sw:=yvx (A.get 8 rfl) (A.get 10 rfl) hs
 unfold ycn
 rw [yp]
 show ob (ym _ _ [.val (.loc g.H),.val (.int (q.i:Nat)),.val en,.val (.lst laid),.val v,.no] h) fnK=_
 simp_all? only [yct,f3,i2,f4,ydc een,k3,k6,r3,yE (m:="saw") (A.get 8 rfl) (by rfl'),sw,b1,ea,yE (m:="go_on") (A1.get 5 rfl) (by rfl'),q1]
theorem ypb:(("lay":Str) = "take")=False:=eq_false (by rfl')
theorem ypc:(("lay":Str) = "wait")=False:=eq_false (by rfl')
theorem ymV:(("lay":Str) = "throw")=False:=eq_false (by rfl')
theorem yrG {L:List PV}{a b:Str}(R:RR w rows (HL g c.rn w q own) h c s) (hi:q.cw[q.i]?=some q.hd) (er:rows[s.t]?=some (yV (.throw a b))) (hw:1<=w) (hn:q.nth<q.ds.length) (hs:q.sl=false) (ok:okS s=true) (okr:okR (.throw a b)=true) (hlk:yef w s (.throw a b)=true) (F:NF q.sp.length s) (fr:stB s.sn q.sp=false) (hL:sortI (sK s.sn) (sA s.sn)=some L) (hr:Due q.ds (q.nth+1) rows') (hl:q.en.length<1000) :
  ∃ h' c',yx [.loc g.H,.int (q.i:Nat)] h=some (.tup [.str "fell",.int s.t],h')/\RR w rows' (HL g c'.rn w { q with en:=q.en++[yxJ q (.tup [.str "fell",.str a,.int (s.hs.getD (sx b) 0)]) L [] q.bf],nth:=q.nth+1 } own) h' c' (S0 q.bf):=by
 obtain ⟨h8,o2,o3,o4,o5⟩:=ygF ok
 have A:=R.hl
 have hb:b∈SL:=by simpa [okR] using okr
 obtain ⟨h',c',q1,q2⟩:=yhS (en:=.tup [.str "fell",.str a,.int (s.hs.getD (sx b) 0)]) (v:=.lst (q.bf.map .int)) (laid:=[]) (bf:=q.bf) A hi hL (fun h1 _ _=>rfl) hr hl
 refine ⟨h',c',?_,q2⟩
 rw [yfU R hi er hw hn hs ok okr hlk F fr]
 obtain ⟨f1,f2,f3,f4,f5,f6⟩:=ydn (A.get 5 rfl)
 obtain ⟨g1,g2,g3,g4⟩:=ydm (A.get 0 rfl)
 have i2:=ymU A hi
 have i3:=ydv R.run R.held h8 hb
 have i4:∀ h,ybb (yV (.throw a b)) (.int 0) h=some (.str "throw",h):=fun _=>rfl
 have i5:∀ h,ybb (yV (.throw a b)) (.int 1) h=some (.str a,h):=fun _=>rfl
 have i6:∀ h,ybb (yV (.throw a b)) (.int 2) h=some (.str b,h):=fun _=>rfl
 unfold yO
 rw [yp]
 show ob (ob (ym _ _ [.val (.loc g.H),.val (.int (q.i:Nat)),.val (.int s.t),.no,.no,.no] h) fnK) _=_
 simp_all? only [yct,g3,i2,f6,yE (m:="row") R.run (by rfl'),yhO R.run rfl er,i4,i5,i6,yll,ygB,yE (m:="held_in") R.run (by rfl'),i3,f5,yE (m:="end_deed") (A.get 0 rfl) (by rfl'),q1]
end
def ydS (p:Nat×Int):PV:=.tup [.int (p.1:Nat),.int p.2]
def yAA:List Int->List (Nat×Int)->List Int
 | bx,[]=>bx
 | bx,p::r=>yAA (bx.set p.1 p.2) r
def yiW:List Int->List (Nat×Int)->List Int
 | sp,[]=>sp
 | sp,p::r=>yiW (sp.set p.1 (sp.getD p.1 0+1)) r
theorem yhf:∀ (l:List (Nat×Int)) (bx:List Int),(yiW bx l).length=bx.length
 | [],_=>rfl
 | p::r,bx=>by show (yiW (bx.set p.1 (bx.getD p.1 0+1)) r).length=_;rw [yhf r,length_set]
section
variable {h:AH}{w:Int}{rows rows':List PV}{c:Lc}{s s':RS}{r:Rw}{g:HC}{q:HQ}{own:List (Nat×Nd)}{rn:Nat}
theorem ymW {n:Nat}{xs:List Int}{k:Nat}{v:Int}{eo ei ev:XE}{ρ:PSt}(e1:ev ρ h=some (.int v,h)) (e2:eo ρ h=some (.loc n,h)) (e3:ei ρ h=some (.int (k:Nat),h)) (e:h[n]?=some (.lst (xs.map .int))) (hk:k<xs.length):ygO eo ei ev ρ h=some (.nx ρ,h.set n (.lst ((xs.set k v).map .int))):=by
 have e':ixN (xs.map PV.int).length (k:Nat)=some k:=by
  unfold ixN
  simp [hk]
 unfold ygO
 rw [e1,ybq,e2,ybq,e3,ybq]
 simp only [e,e']
 rw [map_set]
theorem ygQ {G:XG}{S:XS}{x:PV}{xs:List PV}{ρ ρ1 ρ2:PSt}{h1:AH}(e1:G x ρ=some ρ1) (e2:S ρ1 h=some (.nx ρ2,h1)):ygk G S (x::xs) ρ h=ygk G S xs ρ2 h1:=by
 show (G x ρ).bind _=_
 rw [e1,bind_some,e2]
 rfl
theorem yos {v1 v2 v3:PVar}:∀ (l:List (Nat×Int)) (q:HQ) (h:AH) (v4 v5:PVar),At h (HL g rn w q own)->(∀ p∈l,p.1<q.bx.length)->q.sp.length=q.bx.length ->
  ∃ h' v4' v5',ygk (yt 4) ldB (l.map ydS) [.val (.loc g.H),v1,v2,v3,v4,v5] h=some (.nx [.val (.loc g.H),v1,v2,v3,v4',v5'],h')/\At h' (HL g rn w { q with bx:=yAA q.bx l,sp:=yiW q.sp l } own)
 | [],q,h,v4,v5,A,_,_=>⟨h,v4,v5,rfl,A⟩
 | p::l,q,h,v4,v5,A,hb,hs=>by
  have hp:=hb p mem_cons_self
  obtain ⟨g1,g2,g3,g4⟩:=ydm (A.get 0 rfl)
  have A1:At (h.set g.nu (.lst ((q.bx.set p.1 p.2).map .int))) (HL g rn w { q with bx:=q.bx.set p.1 p.2 } own):=At.upd (a:=[_]) _ A
  have A2:At ((h.set g.nu (.lst ((q.bx.set p.1 p.2).map .int))).set g.ma (.lst ((q.sp.set p.1 (q.sp.getD p.1 0+1)).map .int))) (HL g rn w { q with bx:=q.bx.set p.1 p.2,sp:=q.sp.set p.1 (q.sp.getD p.1 0+1) } own):=At.upd (a:=[_,_]) _ A1
  obtain ⟨t1,t2,t3,t4⟩:=ydm (A1.get 0 rfl)
  have s1:=ymW (h:=h) (xs:=q.bx) (k:=p.1) (v:=p.2) (eo:=ybd [15] "numbers" (ye 0)) (ei:=ye 5) (ev:=xOp (ybb) (ye 4) (xC (.int 1))) (ρ:=[.val (.loc g.H),v1,v2,v3,.val (ydS p),.val (.int (p.1:Nat))]) rfl (by simp_all? only [g1]) rfl (A.get 1 rfl) hp
  have s2:=ymW (h:=h.set g.nu (.lst ((q.bx.set p.1 p.2).map .int))) (xs:=q.sp) (k:=p.1) (v:=q.sp.getD p.1 0+1) (eo:=ybd [15] "marks" (ye 0)) (ei:=ye 5) (ev:=xOp ydp (xOp (ycu) (ybd [15] "marks" (ye 0)) (ye 5)) (xC (.int 1))) (ρ:=[.val (.loc g.H),v1,v2,v3,.val (ydS p),.val (.int (p.1:Nat))]) (by
   have i3:=yes (A1.get 2 rfl) (show p.1<q.sp.length by omega)
   simp_all? only [t2,i3]) (by simp_all? only [t2]) rfl (A1.get 2 rfl) (by omega)
  have i0:∀ h,ybb (ydS p) (.int 0) h=some (.int (p.1:Nat),h):=fun _=>rfl
  have bd:ldB [.val (.loc g.H),v1,v2,v3,.val (ydS p),v5] h=some (.nx [.val (.loc g.H),v1,v2,v3,.val (ydS p),.val (.int (p.1:Nat))],(h.set g.nu (.lst ((q.bx.set p.1 p.2).map .int))).set g.ma (.lst ((q.sp.set p.1 (q.sp.getD p.1 0+1)).map .int))):=by
   unfold ldB
   simp_all? only [i0,s1,s2]
  obtain ⟨h',a,b,e1,e2⟩:=yos (v1:=v1) (v2:=v2) (v3:=v3) l _ _ (.val (ydS p)) (.val (.int (p.1:Nat))) A2 (fun x hx=>by show x.1<(q.bx.set p.1 p.2).length;rw [length_set];exact hb x (mem_cons_of_mem _ hx)) (by show (q.sp.set _ _).length=(q.bx.set _ _).length;rw [length_set,length_set];exact hs)
  refine ⟨h',a,b,?_,e2⟩
  show ygk _ _ (ydS p::l.map ydS) _ h=_
  rw [ygQ (by kernel_rfl!) bd]
  exact e1
theorem yuv {o st b l0:Nat}{d:List Key×List PV}{ks:List Key}{xs L:List PV}(G:LG h o st b [l0] [d] ks xs) (hs:sortI d.1 d.2=some L):yep [.loc o] h=some (.lst L,h):=by
 have e1:=yfu G.ob
 have e2:=G.st
 have e3:h[l0]?=some (.dct d.1 d.2):=G.dl.1
 have i2:ycu (.loc st) (.int 0) h=some (.loc l0,h):=by unfold ycu;simp only [e2];rfl
 unfold yep
 rw [yp]
 show ob (ym _ _ [.val (.loc o),.no] h) fnK=_
 simp_all? only [e1,i2]
 unfold yiN
 symm
 unfold ykW
 simp only [e3,hs]
 rfl
theorem yAB {L:List PV}{l:List (Nat×Int)}{d:List Key×List PV}(R:RR w rows (HL g c.rn w q own) h c s) (hi:q.cw[q.i]?=some q.hd) (ed:s.dd=[d]) (hd:sortI d.1 d.2=some (l.map ydS)) (hb:∀ p∈l,p.1<q.bx.length) (hsp:q.sp.length=q.bx.length) (hL:sortI (sK s.sn) (sA s.sn)=some L) (hr:Due q.ds (q.nth+1) rows') (hl:q.en.length<1000) :
  ∃ h1 c',(∀ h2,yby [.loc g.H] h1=some (.non,h2)->ycN [.loc g.H,.int (q.i:Nat)] h=some (.non,h2))/\RR w rows' (HL g c'.rn w { q with bx:=yAA q.bx l,sp:=yiW q.sp l,en:=q.en++[yxJ q (.tup [.str "done"]) L (l.map ydS) s.hs],nth:=q.nth+1,bf:=s.hs } own) h1 c' (S0 s.hs):=by
 have A:=R.hl
 obtain ⟨l0,el⟩:∃ l0,c.ly=[l0]:=by
  have:=R.len
  rw [ed] at this
  exact List.length_eq_one_iff.mp this
 have G:=R.lg
 rw [el,ed] at G
 have wr:=yuv G hd
 obtain ⟨g1,g2,g3,g4⟩:=ydm (A.get 0 rfl)
 obtain ⟨k1,k2,k3,k4,k5,k6⟩:=ydn (A.get 5 rfl)
 obtain ⟨r1,r2,r3,r4,r5,r6,r7⟩:=ycK R.run
 have i2:=ymU A hi
 obtain ⟨h3,v4,v5,lp,A2⟩:=yos (v1:=.val (.int (q.i:Nat))) (v2:=.val (.loc c.rn)) (v3:=.val (.lst (l.map ydS))) l q h .no .no A hb hsp
 obtain ⟨h',c',q1,q2⟩:=yhS (en:=.tup [.str "done"]) (v:=.loc c.hl) (laid:=l.map ydS) (bf:=s.hs) A2 hi hL (fun h1 q' a=>yfL (a.get 7 rfl)) hr hl
 refine ⟨h',c',fun h2 wk=>?_,q2⟩
 obtain ⟨u1,u2,u3,u4,u5,u6,u7⟩:=ycK (A2.get 6 rfl)
 have i7:xIL (ye 3) [.val (.loc g.H),.val (.int (q.i:Nat)),.val (.loc c.rn),.val (.lst (l.map ydS)),.no,.no] h=some (l.map ydS,h):=yrl rfl
 unfold ycN
 rw [yp]
 show ob (ym _ (ym _ (ym (yqg (xIL (ye 3)) _ ldB) _)) [.val (.loc g.H),.val (.int (q.i:Nat)),.no,.no,.no,.no] h) fnK=_
 simp_all? only [yct,g3,i2,k6,r3,yE (m:="wrote") R.lg.ob (by rfl'),wr,i7,lp,u1,yE (m:="end_deed") (A2.get 0 rfl) (by rfl'),q1,yE (m:="wake_stale") (q2.rest.get 0 rfl) (by rfl'),wk]
theorem yrH {L:List PV}{l:List (Nat×Int)}{d:List Key×List PV}(R:RR w rows (HL g c.rn w q own) h c s) (hi:q.cw[q.i]?=some q.hd) (er:rows[s.t]?=some (yV .lay)) (hw:1<=w) (hn:q.nth<q.ds.length) (hs:q.sl=false) (ok:okS s=true) (F:NF q.sp.length s) (fr:stB s.sn q.sp=false) (ed:s.dd=[d]) (hd:sortI d.1 d.2=some (l.map ydS)) (hb:∀ p∈l,p.1<q.bx.length) (hsp:q.sp.length=q.bx.length) (hL:sortI (sK s.sn) (sA s.sn)=some L) (hr:Due q.ds (q.nth+1) rows') (hl:q.en.length<1000) :
  ∃ h1 c',(∀ h2,yby [.loc g.H] h1=some (.non,h2)->yx [.loc g.H,.int (q.i:Nat)] h=some (.tup [.str "done",.int s.t],h2))/\RR w rows' (HL g c'.rn w { q with bx:=yAA q.bx l,sp:=yiW q.sp l,en:=q.en++[yxJ q (.tup [.str "done"]) L (l.map ydS) s.hs],nth:=q.nth+1,bf:=s.hs } own) h1 c' (S0 s.hs):=by
 obtain ⟨h',c',q1,q2⟩:=yAB R hi ed hd hb hsp hL hr hl
 refine ⟨h',c',fun h2 wk=>?_,q2⟩
 have q1:=q1 h2 wk
 rw [yfU R hi er hw hn hs ok rfl rfl F fr]
 have A:=R.rest
 obtain ⟨f1,f2,f3,f4,f5,f6⟩:=ydn (A.get 5 rfl)
 obtain ⟨g1,g2,g3,g4⟩:=ydm (A.get 0 rfl)
 have i2:=ymU A hi
 have i4:∀ h,ybb (yV .lay) (.int 0) h=some (.str "lay",h):=fun _=>rfl
 unfold yO
 rw [yp]
 show ob (ob (ym _ _ [.val (.loc g.H),.val (.int (q.i:Nat)),.val (.int s.t),.no,.no,.no] h) fnK) _=_
 simp_all? only [yct,g3,i2,f6,yE (m:="row") R.run (by rfl'),yhO R.run rfl er,i4,ypb,ypc,ymV,yE (m:="lay_down") (A.get 0 rfl) (by rfl'),q1]
theorem yrI (R:RR w rows (HL g c.rn w q own) h c s) (hr:Due q.ds q.nth rows'):∃ h' c',ybU [.loc q.hd] h=some (.non,h')/\RR w rows' (HL g c'.rn w { q with sl:=false } own) h' c' (S0 q.bf):=by
 have A:=R.rest
 have A1:At (h.set q.hd (ydg q.ds w q.nth false q.bf c.rn)) (HL g c.rn w { q with sl:=false } own):=At.upd (a:=[_,_,_,_,_]) _ A
 have s1:=fun ρ=>yrE (ρ:=ρ) (v:=false) (A.get 5 rfl)
 obtain ⟨a1,a2,a3,a4,a5,a6⟩:=ydn (A1.get 5 rfl)
 obtain ⟨h',c',q1,q2⟩:=ygs a1 a2 a3 a5 hr
 have R':=q2 _ A1
 have B:=R'.rest
 have s3:=fun ρ=>yrF (ρ:=ρ) (v:=c'.rn) (B.get 5 rfl)
 refine ⟨h'.set q.hd (ydg q.ds w q.nth false q.bf c'.rn),c',?_,RR.urest (a:=[_,_,_,_,_]) _ R'⟩
 unfold ybU
 rw [yp]
 show ob (ym _ _ [.val (.loc q.hd)] h) fnK=_
 simp_all? only [yrq,yct,s1,yE (m:="new_run") (A1.get 5 rfl) (by rfl'),q1,s3]
theorem yrJ (R:RR w rows (HL g c.rn w q own) h c s) (hi:q.cw[q.i]?=some q.hd) (er:rows[s.t]?=some (yV r)) (hw:1<=w) (hn:q.nth<q.ds.length) (hs:q.sl=false) (ok:okS s=true) (okr:okR r=true) (hlk:yef w s r=true) (F:NF q.sp.length s) (fr:stB s.sn q.sp=true) (hr:Due q.ds q.nth rows') :
  ∃ h' c',yx [.loc g.H,.int (q.i:Nat)] h=some (.tup [.str "anew",.int s.t],h')/\RR w rows' (HL g c'.rn w { q with sl:=false } own) h' c' (S0 q.bf):=by
 obtain ⟨h',c',q1,q2⟩:=yrI R hr
 refine ⟨h',c',?_,q2⟩
 have A:=R.rest
 obtain ⟨f1,f2,f3,f4,f5,f6⟩:=ydn (A.get 5 rfl)
 obtain ⟨g1,g2,g3,g4⟩:=ydm (A.get 0 rfl)
 obtain ⟨k1,k2,k3,k4,k5,k6,k7⟩:=ycK R.run
 have st:=yfT A
 rw [awake hn hs] at st
 have lk:=ymR R er ok okr hw
 rw [hlk] at lk
 have sl:=yjV (ma:=g.ma) (sp:=q.sp) R (mem_of_getElem? (i:=2) rfl) F.nd F.hb F.hl
 rw [fr] at sl
 unfold yx
 rw [yp]
 show ob (ym _ _ [.val (.loc g.H),.val (.int (q.i:Nat)),.no,.no] h) fnK=_
 simp_all? only [yct,yE (m:="hand_at") (A.get 0 rfl) (by rfl'),yeV A hi,yE (m:="state") (A.get 5 rfl) (by rfl'),st,f6,k5,yE (m:="is_looked_over") R.run (by rfl'),lk,g2,yE (m:="is_stale") R.run (by rfl'),sl,yE (m:="begin_anew") (A.get 5 rfl) (by rfl'),q1]
end
structure HD where
 ds:List PV
 nth:Nat
 sl:Bool
 bf:List Int
 rows:List PV
 s:RS
def HN (w:Int) (a:Nat×Lc) (x:HD) (m:List (Nat×Nd)):List (Nat×Nd):=(a.1,ydg x.ds w x.nth x.sl x.bf a.2.rn)::RM w x.rows a.2 x.s m
def CR (w:Int):List (Nat×Lc)->List HD->List (Nat×Nd)->List (Nat×Nd)
 | a::as,x::xs,m=>HN w a x (CR w as xs m)
 | _,_,m=>m
def LyOk:List (Nat×Lc)->List HD->Prop
 | a::as,x::xs=>a.2.ly.length=x.s.dd.length/\LyOk as xs
 | [],[]=>True
 | _,_=>False
noncomputable def H5 (g:HC) (bx sp:List Int) (en:List PV) (cw:List Nat):List (Nat×Nd):=[(g.H,ylr g.nu g.ma g.cr g.en),(g.nu,.lst (bx.map .int)),(g.ma,.lst (sp.map .int)),(g.cr,.lst (cw.map .loc)),(g.en,.lst en)]
structure HH (h:AH) (g:HC) (w:Int) (bx sp:List Int) (en:List PV) (as:List (Nat×Lc)) (xs:List HD) (own:List (Nat×Nd)):Prop where
 at_:At h (H5 g bx sp en (as.map (·.1))++CR w as xs own)
 ly:LyOk as xs
def qOf (bx sp:List Int) (en:List PV) (cw:List Nat) (i hd:Nat) (x:HD):HQ:=⟨bx,sp,en,cw,i,hd,x.ds,x.nth,x.sl,x.bf⟩
section
variable {h:AH}{w:Int}{g:HC}{bx sp:List Int}{en:List PV}{as as1 as2:List (Nat×Lc)}{xs xs1 xs2:List HD}{a:Nat×Lc}{x x':HD}{own m:List (Nat×Nd)}{c:Lc}
theorem ygG:HN w a x m=HN w a x []++m:=by
 unfold HN
 rw [yhR,yhR,append_nil]
 rfl
theorem yjW:∀ {as1:List (Nat×Lc)}{xs1:List HD},as1.length=xs1.length->(CR w (as1++a::as2) (xs1++x::xs2) m).Perm (HN w a x (CR w as1 xs1 (CR w as2 xs2 m)))
 | [],[],_=>.refl _
 | b::as1,y::xs1,e=>by
  show (HN w b y (CR w (as1++a::as2) (xs1++x::xs2) m)).Perm (HN w a x (HN w b y (CR w as1 xs1 (CR w as2 xs2 m))))
  have ih:=yjW (as1:=as1) (xs1:=xs1) (by simpa using e)
  rw [ygG (a:=b),ygG (a:=a) (m:=HN w b y _),ygG (a:=b) (m:=CR w as1 xs1 _)]
  refine (ih.append_left _).trans ?_
  rw [ygG (a:=a)]
  exact List.perm_append_comm_assoc _ _ _
theorem LyOk.split:∀ {as1:List (Nat×Lc)}{xs1:List HD},as1.length=xs1.length->(LyOk (as1++a::as2) (xs1++x::xs2) ↔ LyOk as1 xs1/\a.2.ly.length=x.s.dd.length/\LyOk as2 xs2)
 | [],[],_=>⟨fun k=>⟨trivial,k⟩,fun k=>k.2⟩
 | b::as1,y::xs1,e=>by
  have ih:=LyOk.split (as1:=as1) (xs1:=xs1) (by simpa using e)
  show _/\LyOk (as1++a::as2) (xs1++x::xs2) ↔ (_/\LyOk as1 xs1)/\_
  rw [ih,and_assoc]
theorem yAC {rows:List PV}{s:RS}{rn:Nat}{q:HQ}:(H5 g q.bx q.sp q.en q.cw++((q.hd,ydg q.ds w q.nth q.sl q.bf rn)::RM w rows c s m)).Perm (RM w rows c s (HL g rn w q m)):=by
 rw [yhR,yhR]
 refine .trans ?_ (show (H5 g q.bx q.sp q.en q.cw++(EX c w rows s++((q.hd,ydg q.ds w q.nth q.sl q.bf rn)::m))).Perm (EX c w rows s++HL g rn w q m) from List.perm_append_comm_assoc _ _ _)
 exact (List.perm_middle.symm).append_left _
theorem HH.foc (X:HH h g w bx sp en (as1++a::as2) (xs1++x::xs2) own) (l:as1.length=xs1.length):RR w x.rows (HL g a.2.rn w (qOf bx sp en ((as1++a::as2).map (·.1)) as1.length a.1 x) (CR w as1 xs1 (CR w as2 xs2 own))) h a.2 x.s:=by
 refine ⟨?_,((LyOk.split l).mp X.ly).2.1⟩
 exact X.at_.perm (((yjW l).append_left _).trans (yAC (q:=qOf bx sp en _ _ _ _))).symm
theorem HH.unf {bx' sp':List Int}{en':List PV}(L:LyOk (as1++a::as2) (xs1++x::xs2)) (l:as1.length=xs1.length) (R:RR w x'.rows (HL g c.rn w (qOf bx' sp' en' ((as1++a::as2).map (·.1)) as1.length a.1 x') (CR w as1 xs1 (CR w as2 xs2 own))) h c x'.s):HH h g w bx' sp' en' (as1++(a.1,c)::as2) (xs1++x'::xs2) own:=by
 obtain ⟨l1,l2,l3⟩:=(LyOk.split l).mp L
 refine ⟨?_,(LyOk.split l).mpr ⟨l1,R.len,l3⟩⟩
 have e:(as1++(a.1,c)::as2).map (·.1)=(as1++a::as2).map (·.1):=by simp
 rw [e]
 exact R.at_.perm (((yjW l).append_left _).trans (yAC (q:=qOf bx' sp' en' _ _ _ _)))
theorem ylu:((as1++a::as2).map (·.1))[as1.length]?=some a.1:=by simp
def asB (x:HD):Bool:=decide (x.nth≠x.ds.length) && x.sl
def yfv (sp:List Int) (x:HD):HD:=if (asB x && stB x.s.sn sp)=true then { x with sl:=false,s:=S0 x.bf } else x
theorem yiu:(("ended":Str) = "asleep")=False:=eq_false (by rfl')
theorem yiv:(("awake":Str) = "asleep")=False:=eq_false (by rfl')
theorem yAD (X:HH h g w bx sp en (as1++a::as2) (xs1++x::xs2) own) (l:as1.length=xs1.length) (hr:Due x.ds x.nth x.rows) (F:NF sp.length x.s):∃ h' c',wkB [.val (.loc g.H),.val (.loc a.1)] h=some (.nx [.val (.loc g.H),.val (.loc a.1)],h')/\HH h' g w bx sp en (as1++(a.1,c')::as2) (xs1++yfv sp x::xs2) own:=by
 have R:=X.foc l
 have A:=R.rest
 have st:=yfT A
 obtain ⟨g1,g2,g3,g4⟩:=ydm (A.get 0 rfl)
 have hh:h[a.1]?=some (ydg x.ds w x.nth x.sl x.bf a.2.rn):=A.get 5 rfl
 have f6:=(ydn hh).2.2.2.2.2
 have sl:=yjV (ma:=g.ma) (sp:=sp) R (mem_of_getElem? (i:=2) rfl) F.nd F.hb F.hl
 have r0:=R.run
 by_cases e:x.nth=x.ds.length
 .have st':stN (qOf bx sp en ((as1++a::as2).map (·.1)) as1.length a.1 x) = "ended":=if_pos e
  rw [st'] at st
  have e':yfv sp x=x:=by unfold yfv asB;simp [e]
  rw [e']
  refine ⟨h,a.2,?_,X⟩
  unfold wkB
  dsimp only [qOf] at st
  simp_all? only [yct,yE (m:="state") hh (by rfl'),st,yiu]
 .cases es:x.sl with
  | false =>
   have st':stN (qOf bx sp en ((as1++a::as2).map (·.1)) as1.length a.1 x) = "awake":=(if_neg e).trans (if_neg (by rw [show (qOf bx sp en ((as1++a::as2).map (·.1)) as1.length a.1 x).sl=x.sl from rfl,es];decide))
   rw [st'] at st
   have e':yfv sp x=x:=by unfold yfv asB;simp [es]
   rw [e']
   refine ⟨h,a.2,?_,X⟩
   unfold wkB
   dsimp only [qOf] at st
   simp_all? only [yct,yE (m:="state") hh (by rfl'),st,yiv]
  | true =>
   have st':stN (qOf bx sp en ((as1++a::as2).map (·.1)) as1.length a.1 x) = "asleep":=(if_neg e).trans (if_pos (by rw [show (qOf bx sp en ((as1++a::as2).map (·.1)) as1.length a.1 x).sl=x.sl from rfl,es]))
   rw [st'] at st
   dsimp only [qOf] at st
   cases eb:stB x.s.sn sp with
   | false =>
    have e':yfv sp x=x:=by unfold yfv;simp [eb]
    rw [e']
    rw [eb] at sl
    refine ⟨h,a.2,?_,X⟩
    unfold wkB
    simp_all? only [yct,yE (m:="state") hh (by rfl'),st,f6,g2,yE (m:="is_stale") r0 (by rfl'),sl]
   | true =>
    have e':yfv sp x={ x with sl:=false,s:=S0 x.bf }:=if_pos (by unfold asB;simp [e,es,eb])
    rw [e']
    rw [eb] at sl
    obtain ⟨h',c',q1,R'⟩:=yrI R (show Due (qOf bx sp en ((as1++a::as2).map (·.1)) as1.length a.1 x).ds (qOf bx sp en ((as1++a::as2).map (·.1)) as1.length a.1 x).nth x.rows from hr)
    refine ⟨h',c',?_,HH.unf (x':={ x with sl:=false,s:=S0 x.bf }) X.ly l R'⟩
    dsimp only [qOf] at q1
    unfold wkB
    simp_all? only [yct,yE (m:="state") hh (by rfl'),st,f6,g2,yE (m:="is_stale") r0 (by rfl'),sl,yE (m:="begin_anew") hh (by rfl'),q1]
def yxK (W:Nat) (x:HD):Prop:=Due x.ds x.nth x.rows/\NF W x.s
theorem LyOk.len:∀ {as:List (Nat×Lc)}{xs:List HD},LyOk as xs->as.length=xs.length
 | [],[],_=>rfl
 | _::_,_::_,k=>by rw [length_cons,length_cons,LyOk.len k.2]
theorem LyOk.app:∀ {as1 as2:List (Nat×Lc)}{xs1 xs2:List HD},as1.length=xs1.length->LyOk (as1++as2) (xs1++xs2)->LyOk as2 xs2
 | [],_,[],_,_,k=>k
 | _::_,_,_::_,_,e,k=>LyOk.app (by simpa using e) k.2
theorem yrK:∀ (as2:List (Nat×Lc)) (xs2:List HD) (as1:List (Nat×Lc)) (xs1:List HD) (h:AH) (v:PVar),HH h g w bx sp en (as1++as2) (xs1++xs2) own->as1.length=xs1.length->(∀ x∈xs2,yxK sp.length x) ->
  ∃ h' as' v',ylL g.cr false (yt 1) wkB as2.length as1.length [.val (.loc g.H),v] h=some (.nx [.val (.loc g.H),v'],h')/\HH h' g w bx sp en (as1++as') (xs1++xs2.map (yfv sp)) own/\as'.map (·.1)=as2.map (·.1)
 | [],xs2,as1,xs1,h,v,X,l,_=>by
  have e:h[g.cr]?=some (.lst (((as1++([]:List (Nat×Lc))).map (fun a=>a.1)).map .loc)):=X.at_.get 3 rfl
  have l2:=(LyOk.app l X.ly).len
  have:xs2=[]:=List.length_eq_zero_iff.mp l2.symm
  subst this
  refine ⟨h,[],v,?_,X,rfl⟩
  show ylL g.cr false (yt 1) wkB 0 as1.length _ h=_
  unfold ylL
  simp only [e]
  rw [if_pos (by simp)]
 | a::as2,[],as1,xs1,h,v,X,l,_=>by
  have l2:=(LyOk.app l X.ly).len
  cases l2
 | a::as2,x::xs2,as1,xs1,h,v,X,l,hx=>by
  have e:h[g.cr]?=some (.lst (((as1++a::as2).map (·.1)).map .loc)):=X.at_.get 3 rfl
  obtain ⟨h1,c1,q1,X1⟩:=yAD X l (hx x mem_cons_self).1 (hx x mem_cons_self).2
  obtain ⟨h',as',v',q2,X2,em⟩:=yrK as2 xs2 (as1++[(a.1,c1)]) (xs1++[yfv sp x]) h1 (.val (.loc a.1)) (by rw [append_assoc,append_assoc];exact X1) (by simp [l]) (fun y hy=>hx y (mem_cons_of_mem _ hy))
  refine ⟨h',(a.1,c1)::as',v',?_,by rw [append_assoc,append_assoc] at X2;exact X2,by simp [em]⟩
  rw [length_append] at q2
  have y1:yt 1 (.loc a.1) [.val (.loc g.H),v]=some [.val (.loc g.H),.val (.loc a.1)]:=rfl
  have ei:(((as1++a::as2).map (·.1)).map PV.loc)[as1.length]?=some (.loc a.1):=by rw [getElem?_map,ylu];rfl
  show ylL g.cr false (yt 1) wkB (as2.length+1) as1.length _ h=_
  unfold ylL
  simp only [e,Bool.false_eq_true,if_false,ei,y1,bind_some,q1,ybq]
  exact q2
theorem yxL (X:HH h g w bx sp en as xs own) (hx:∀ x∈xs,yxK sp.length x):∃ h' as',yby [.loc g.H] h=some (.non,h')/\HH h' g w bx sp en as' (xs.map (yfv sp)) own/\as'.map (·.1)=as.map (·.1):=by
 obtain ⟨h',as',v',q1,q2,q3⟩:=yrK as xs [] [] h .no X rfl hx
 refine ⟨h',as',?_,q2,q3⟩
 obtain ⟨g1,g2,g3,g4⟩:=ydm (X.at_.get 0 rfl)
 have e:h[g.cr]?=some (.lst ((as.map (·.1)).map .loc)):=X.at_.get 3 rfl
 unfold yby
 rw [yp]
 show ob (yjC false _ (yt 1) wkB [.val (.loc g.H),.no] h) fnK=_
 unfold yjC
 simp_all? only [g3]
 simp only [e]
 rw [length_map,length_map]
 exact (congrArg (fun o=>ob o fnK) q1).trans rfl
end
section
variable {h:AH}{w:Int}{g:HC}{bx sp:List Int}{en:List PV}{as as1 as2:List (Nat×Lc)}{xs xs1 xs2:List HD}{a:Nat×Lc}{x x':HD}{own m:List (Nat×Nd)}{c:Lc}{s s':RS}{r:Rw}
theorem yrL {m:List (Nat×Int×Int)}{k:Nat}{u v:Int}{p:Nat×Int×Int}(hp:p∈ydi m k u v):p=(k,u,v)\/p∈m:=by
 unfold ydi at hp
 split at hp
 .obtain ⟨q,hq,e⟩:=List.mem_map.mp hp
  split at e
  .exact .inl e.symm
  .exact .inr (e ▸ hq)
 .rcases List.mem_append.mp hp with z|z
  .exact .inr z
  .exact .inl (List.mem_singleton.mp z)
theorem yot (m:List (Nat×Int×Int)) (k:Nat) (u v:Int):(ydi m k u v).map (·.1)=if k∈m.map (·.1) then m.map (·.1) else m.map (·.1)++[k]:=by
 unfold ydi
 split
 .rw [map_map]
  refine List.map_congr_left fun p _=>?_
  show (if p.1=k then (k,u,v) else p).1=p.1
  split
  .rename_i e;exact e.symm
  .rfl
 .simp
theorem yrM:∀ (W:Nat) (l:List Nat),l.Nodup->(∀ k∈l,k<W)->l.length<=W
 | 0,l,_,hb=>by
  cases l with
  | nil=>simp
  | cons a _=>exact absurd (hb a mem_cons_self) (by omega)
 | W+1,l,nd,hb=>by
  by_cases e:W∈l
  .have:=yrM W (l.erase W) (nd.erase W) fun k hk=>by
    have h1:=hb k (List.mem_of_mem_erase hk)
    have h2:k≠W:=(List.Nodup.mem_erase_iff nd).mp hk |>.1
    omega
   rw [List.length_erase_of_mem e] at this
   omega
  .have:=yrM W l nd fun k hk=>by
    have h1:=hb k hk
    have:k≠W:=fun z=>e (z ▸ hk)
    omega
   omega
theorem NF.put {W k:Nat}{u v:Int}(F:NF W s) (hk:k<W) (hW:W<=16) {t:Nat}{hs:List Int}:NF W ⟨t,hs,s.sd,s.dd,ydi s.sn k u v⟩:=by
 have nd:((ydi s.sn k u v).map (·.1)).Nodup:=by
  rw [yot]
  split
  .exact F.nd
  .rename_i e
   rw [List.nodup_append]
   exact ⟨F.nd,by simp,fun x hx y hy z=>by
    rw [List.mem_singleton.mp hy] at z
    exact e (z ▸ hx)⟩
 have hb:∀ p∈ydi s.sn k u v,p.1<W:=fun p hp=>by
  rcases yrL hp with rfl|hp
  .exact hk
  .exact F.hb p hp
 refine ⟨nd,hb,?_⟩
 have:=yrM W _ nd fun x hx=>by
  obtain ⟨p,hp,rfl⟩:=List.mem_map.mp hx
  exact hb p hp
 rw [length_map] at this
 show (ydi s.sn k u v).length<=900
 omega
theorem stB_iff {m:List (Nat×Int×Int)}:stB m sp=false ↔ ∀ p∈m,sp.getD p.1 0=p.2.2:=by
 unfold stB
 simp [List.any_eq_false]
theorem yAE {m:List (Nat×Int×Int)}{k:Nat}{u:Int}(fr:stB m sp=false):stB (ydi m k u (sp.getD k 0)) sp=false:=by
 rw [stB_iff] at fr ⊢
 intro p hp
 rcases yrL hp with rfl|hp
 .rfl
 .exact fr p hp
theorem yiX {rws:List Rw}{t:Nat}(er:rws[t]?=some r):(rws.map yV)[t]?=some (yV r):=by rw [getElem?_map,er];rfl
def stX (x:HD):Str:=if x.nth=x.ds.length then "ended" else if x.sl=true then "asleep" else "awake"
theorem yAF {rws:List Rw}(X:HH h g bx.length bx sp en (as1++a::as2) (xs1++x::xs2) own) (l:as1.length=xs1.length) (hbs:sp.length=bx.length) (h1:1<=bx.length) (hr:x.rows=rws.map yV) (hn:x.nth<x.ds.length) (hs:x.sl=false) (F:NF bx.length x.s) (fr:stB x.s.sn sp=false) (er:rws[x.s.t]?=some .wait) (ok:okS x.s=true) (lk:yef bx.length x.s .wait=true) :
  ∃ h',yx [.loc g.H,.int (as1.length:Nat)] h=some (.tup [.str "asleep",.int x.s.t],h')/\HH h' g bx.length bx sp en (as1++a::as2) (xs1++{ x with sl:=true }::xs2) own:=by
 have R:=X.foc l
 obtain ⟨h',q1,R'⟩:=ypa (q:=qOf bx sp en _ as1.length a.1 x) R (by exact ylu) (by rw [hr];exact yiX er) (by omega) hn hs ok lk (show NF sp.length x.s by rw [hbs];exact F) fr
 exact ⟨h',q1,HH.unf (x':={ x with sl:=true }) X.ly l R'⟩
theorem yAG {rws:List Rw}(X:HH h g bx.length bx sp en (as1++a::as2) (xs1++x::xs2) own) (l:as1.length=xs1.length) (h1:1<=bx.length) (hr:x.rows=rws.map yV) (hn:x.nth<x.ds.length) (hs:x.sl=false) (er:rws[x.s.t]?=some r) (ok:okS x.s=true) (okr:okR r=true) (hlk:yef bx.length x.s r=false) (e:ydR bx.length r x.s=some s') :
  ∃ h' c',yx [.loc g.H,.int (as1.length:Nat)] h=some (.tup [.str "gone",.int x.s.t],h')/\HH h' g bx.length bx sp en (as1++(a.1,c')::as2) (xs1++{ x with s:=s' }::xs2) own:=by
 have R:=X.foc l
 obtain ⟨h',c',q1,R'⟩:=yrC (q:=qOf bx sp en _ as1.length a.1 x) R (by exact ylu) (by rw [hr];exact yiX er) (by omega) hn hs ok okr hlk e
 exact ⟨h',c',q1,HH.unf (x':={ x with s:=s' }) X.ly l R'⟩
theorem yCW {rws:List Rw}{p q:Str}{k:Nat}(X:HH h g bx.length bx sp en (as1++a::as2) (xs1++x::xs2) own) (l:as1.length=xs1.length) (hbs:sp.length=bx.length) (h1:1<=bx.length) (hr:x.rows=rws.map yV) (hn:x.nth<x.ds.length) (hs:x.sl=false) (F:NF bx.length x.s) (fr:stB x.s.sn sp=false) (er:rws[x.s.t]?=some (.take p q)) (ok:okS x.s=true) (okr:okR (.take p q)=true) (hlk:isN (ymP x.s bx.length q)=true) (ek:x.s.hs.getD (sx q) 0%(bx.length:Int)=(k:Nat)) (hk:k<bx.length) :
  ∃ h',yx [.loc g.H,.int (as1.length:Nat)] h=some (.tup [.str "seen",.int x.s.t,.int (k:Nat),.int (bx.getD k 0)],h')/\HH h' g bx.length bx sp en (as1++a::as2) (xs1++{ x with s:=⟨x.s.t+1,x.s.hs.set (sx p) (bx.getD k 0),x.s.sd,x.s.dd,ydi x.s.sn k (bx.getD k 0) (sp.getD k 0)⟩ }::xs2) own:=by
 have R:=X.foc l
 obtain ⟨h',q1,R'⟩:=yrD (q:=qOf bx sp en _ as1.length a.1 x) R (by exact ylu) (by rw [hr];exact yiX er) (by omega) hn hs ok okr hlk (show NF sp.length x.s by rw [hbs];exact F) fr ek hk hbs
 exact ⟨h',q1,HH.unf (x':={ x with s:=_ }) X.ly l R'⟩
theorem yCX {rws:List Rw}{rows':List PV}(X:HH h g bx.length bx sp en (as1++a::as2) (xs1++x::xs2) own) (l:as1.length=xs1.length) (hbs:sp.length=bx.length) (h1:1<=bx.length) (hr:x.rows=rws.map yV) (hn:x.nth<x.ds.length) (hs:x.sl=false) (F:NF bx.length x.s) (fr:stB x.s.sn sp=true) (er:rws[x.s.t]?=some r) (ok:okS x.s=true) (okr:okR r=true) (hlk:yef bx.length x.s r=true) (hd:Due x.ds x.nth rows') :
  ∃ h' c',yx [.loc g.H,.int (as1.length:Nat)] h=some (.tup [.str "anew",.int x.s.t],h')/\HH h' g bx.length bx sp en (as1++(a.1,c')::as2) (xs1++{ x with sl:=false,rows:=rows',s:=S0 x.bf }::xs2) own:=by
 have R:=X.foc l
 obtain ⟨h',c',q1,R'⟩:=yrJ (q:=qOf bx sp en _ as1.length a.1 x) R (by exact ylu) (by rw [hr];exact yiX er) (by omega) hn hs ok okr hlk (show NF sp.length x.s by rw [hbs];exact F) fr hd
 exact ⟨h',c',q1,HH.unf (x':={ x with sl:=false,rows:=rows',s:=S0 x.bf }) X.ly l R'⟩
noncomputable def yEi (i:Nat) (x:HD) (en:PV) (L laid:List PV) (bf:List Int):PV:=.tup [.int (i:Nat),.int (x.nth:Nat),en,.lst L,.lst laid,.lst (bf.map .int)]
theorem yCY {rws:List Rw}{rows' L:List PV}{p q:Str}(X:HH h g bx.length bx sp en (as1++a::as2) (xs1++x::xs2) own) (l:as1.length=xs1.length) (hbs:sp.length=bx.length) (h1:1<=bx.length) (hr:x.rows=rws.map yV) (hn:x.nth<x.ds.length) (hs:x.sl=false) (F:NF bx.length x.s) (fr:stB x.s.sn sp=false) (er:rws[x.s.t]?=some (.throw p q)) (ok:okS x.s=true) (okr:okR (.throw p q)=true) (lk:yef bx.length x.s (.throw p q)=true) (hL:sortI (sK x.s.sn) (sA x.s.sn)=some L) (hd:Due x.ds (x.nth+1) rows') (hl:en.length<1000) :
  ∃ h' c',yx [.loc g.H,.int (as1.length:Nat)] h=some (.tup [.str "fell",.int x.s.t],h')/\HH h' g bx.length bx sp (en++[yEi as1.length x (.tup [.str "fell",.str p,.int (x.s.hs.getD (sx q) 0)]) L [] x.bf]) (as1++(a.1,c')::as2) (xs1++{ x with nth:=x.nth+1,rows:=rows',s:=S0 x.bf }::xs2) own:=by
 have R:=X.foc l
 obtain ⟨h',c',q1,R'⟩:=yrG (q:=qOf bx sp en _ as1.length a.1 x) R (by exact ylu) (by rw [hr];exact yiX er) (by omega) hn hs ok okr lk (show NF sp.length x.s by rw [hbs];exact F) fr hL hd hl
 exact ⟨h',c',q1,HH.unf (x':={ x with nth:=x.nth+1,rows:=rows',s:=S0 x.bf }) X.ly l R'⟩
theorem yAH {rws:List Rw}{rows' L:List PV}{ls:List (Nat×Int)}{d:List Key×List PV}(X:HH h g bx.length bx sp en (as1++a::as2) (xs1++x::xs2) own) (l:as1.length=xs1.length) (hbs:sp.length=bx.length) (h1:1<=bx.length) (hr:x.rows=rws.map yV) (hn:x.nth<x.ds.length) (hs:x.sl=false) (F:NF bx.length x.s) (fr:stB x.s.sn sp=false) (er:rws[x.s.t]?=some .lay) (ok:okS x.s=true) (ed:x.s.dd=[d]) (hd:sortI d.1 d.2=some (ls.map ydS)) (hb:∀ p∈ls,p.1<bx.length) (hL:sortI (sK x.s.sn) (sA x.s.sn)=some L) (hdu:Due x.ds (x.nth+1) rows') (hl:en.length<1000) (ho:∀ y∈xs1++xs2,yxK bx.length y) :
  ∃ h' as',yx [.loc g.H,.int (as1.length:Nat)] h=some (.tup [.str "done",.int x.s.t],h')/\HH h' g bx.length (yAA bx ls) (yiW sp ls) (en++[yEi as1.length x (.tup [.str "done"]) L (ls.map ydS) x.s.hs]) as' ((xs1++{ x with nth:=x.nth+1,bf:=x.s.hs,rows:=rows',s:=S0 x.s.hs }::xs2).map (yfv (yiW sp ls))) own/\as'.map (·.1)=(as1++a::as2).map (·.1):=by
 have R:=X.foc l
 obtain ⟨h2,c',q1,R'⟩:=yrH (q:=qOf bx sp en _ as1.length a.1 x) R (by exact ylu) (by rw [hr];exact yiX er) (by omega) hn hs ok (show NF sp.length x.s by rw [hbs];exact F) fr ed hd hb hbs hL hdu hl
 have X':=HH.unf (x':={ x with nth:=x.nth+1,bf:=x.s.hs,rows:=rows',s:=S0 x.s.hs }) X.ly l R'
 have hW:(yiW sp ls).length=bx.length:=by rw [yhf];exact hbs
 obtain ⟨h',as',q2,X2,em⟩:=yxL X' (fun y hy=>by
  show yxK (yiW sp ls).length y
  rw [hW]
  rcases List.mem_append.mp hy with z|z
  .exact ho y (mem_append_left _ z)
  .rcases mem_cons.mp z with rfl|z
   .exact ⟨hdu,⟨List.nodup_nil,fun p hp=>(by cases hp),(by show 0<=900;omega)⟩⟩
   .exact ho y (mem_append_right _ z))
 exact ⟨h',as',q1 h' q2,X2,by rw [em];simp⟩
end
section
variable {h:AH}{w:Int}{g:HC}{bx sp:List Int}{en:List PV}{as as1 as2:List (Nat×Lc)}{xs xs1 xs2:List HD}{a:Nat×Lc}{x x':HD}{own m:List (Nat×Nd)}
theorem ycc {f:PV->PV->Option Bool}{x y:PV}{xs ys:List PV}(e1:f x y=some true) (e2:ygw f xs ys=some true):ygw f (x::xs) (y::ys)=some true:=by
 show (match f x y,ygw f xs ys with|some b,some c=>some (b && c)|_,_=>none)=_
 rw [e1,e2]
 rfl
theorem ygR {n:Nat}{i:Int}:eqP (n+1) h (.int i) (.int i)=some true:=by
 show some (eqV (.int i) (.int i))=_
 rw [yjA rfl]
theorem ymX {n:Nat}{i:Str}:eqP (n+1) h (.str i) (.str i)=some true:=by
 show some (eqV (.str i) (.str i))=_
 rw [yjA rfl]
theorem yjX {n:Nat}:∀ xs:List Int,ygw (eqP (n+1) h) (xs.map .int) (xs.map .int)=some true
 | []=>rfl
 | _::xs=>ycc ygR (yjX xs)
theorem yrN {n m:Nat}{xs:List Int}(e:h[m]?=some (.lst (xs.map .int))):pairE (eqP (n+1) h) h (.lst (xs.map .int)) (.loc m)=some true:=by
 unfold pairE yW
 simp only [e,yjX,if_true]
theorem yuw {m:Nat}{xs:List Int}(e:h[m]?=some (.lst (xs.map .int))):ypo (.lst (xs.map .int)) (.loc m) h=some (.bl true,h):=by
 unfold ypo
 rw [yrN e]
theorem ymY {n:Nat}{xs:List PV}(e:ygw (eqP (n+1) h) xs xs=some true):eqP (n+2) h (.tup xs) (.tup xs)=some true:=by
 show (match ygw (eqP (n+1) h) xs xs with|some b=>some (b && xs.length == xs.length)|none=>none)=_
 rw [e]
 simp
theorem ymZ {n:Nat}{xs:List PV}(e:ygw (eqP (n+1) h) xs xs=some true):eqP (n+2) h (.lst xs) (.lst xs)=some true:=by
 show (if xs.length=xs.length then ygw (eqP (n+1) h) xs xs else some false)=_
 rw [if_pos rfl,e]
theorem yrO {xs ys:List PV}(e:ygw (eqP 40 h) xs ys=some true) (hl:xs.length=ys.length):ypo (.tup xs) (.tup ys) h=some (.bl true,h):=by
 unfold ypo pairE
 simp only [e,hl]
 simp
def Shp (e:PV):Prop:=∃ a b c x y z,e=.tup [a,b,c,.lst x,.lst y,.lst z]
theorem yrP {n:Nat}{en:List PV}{E:XE}{inn:PV->PSt}(e:h[n]?=some (.lst en)) (hE:∀ x∈en,E (inn x) h=some (x,h)):∀ k i,i+k=en.length->ytN n E inn k i h=some (en.drop i,h)
 | 0,i,hi=>by
  unfold ytN
  simp only [e]
  rw [if_pos (by omega),List.drop_of_length_le (by omega)]
 | k+1,i,hi=>by
  have hlt:i<en.length:=by omega
  unfold ytN
  simp only [e,List.getElem?_eq_getElem hlt]
  rw [hE _ (getElem_mem hlt),ybq,yrP e hE k (i+1) (by omega),ybq,List.drop_eq_getElem_cons hlt]
theorem yAI (X:HH h g w bx sp en as xs own):ydL [.loc g.H] h=some (.lst (bx.map .int),h):=by
 obtain ⟨f1,f2,f3,f4⟩:=ydm (X.at_.get 0 rfl)
 unfold ydL
 rw [yp]
 show ob (yR _ [.val (.loc g.H)] h) fnK=_
 simp_all? only [f1,yfL (X.at_.get 1 rfl)]
theorem you (X:HH h g w bx sp en as xs own) (hs:∀ e∈en,Shp e) (hl:en.length<1000):ycw [.loc g.H] h=some (.lst en,h):=by
 obtain ⟨f1,f2,f3,f4⟩:=ydm (X.at_.get 0 rfl)
 have e:h[g.en]?=some (.lst en):=X.at_.get 4 rfl
 unfold ycw
 rw [yp]
 show ob (yR (xFz (yle _ _ _)) [.val (.loc g.H)] h) fnK=_
 rw [yqv,yBq]
 unfold yle
 simp_all? only [f4]
 simp only [e]
 rw [if_pos (by omega),yrP e (fun x hx=>?_) en.length 0 (by omega)]
 .rfl
 .obtain ⟨a,b,c,x,y,z,rfl⟩:=hs x hx
  rfl
variable (X:HH h g w bx sp en (as1++a::as2) (xs1++x::xs2) own) (l:as1.length=xs1.length)
include X l
theorem yxM:ybv [.loc g.H,.int (as1.length:Nat)] h=some (.loc a.1,h)/\h[a.1]?=some (ydg x.ds w x.nth x.sl x.bf a.2.rn)/\h[g.H]?=some (ylr g.nu g.ma g.cr g.en) :=
 ⟨yeV (q:=qOf bx sp en _ as1.length a.1 x) (X.foc l).rest (by exact ylu),(X.foc l).rest.get 5 rfl,(X.foc l).rest.get 0 rfl⟩
theorem yAJ:ycG [.loc g.H,.int (as1.length:Nat)] h=some (.str (stX x),h):=by
 obtain ⟨q1,q2,q3⟩:=yxM X l
 have st:yck [.loc a.1] h=some (.str (stX x),h):=yfT (X.foc l).rest
 unfold ycG
 rw [yp]
 show ob (yR _ [.val (.loc g.H),.val (.int (as1.length:Nat))] h) fnK=_
 simp_all? only [yct,yE (m:="hand_at") q3 (by rfl'),q1,yE (m:="state") q2 (by rfl'),st]
theorem yAK:ydf [.loc g.H,.int (as1.length:Nat)] h=some (.lst (x.s.hs.map .int),h):=by
 obtain ⟨q1,q2,q3⟩:=yxM X l
 have k6:=(ydn q2).2.2.2.2.2
 have R:=X.foc l
 have r1:=(ycK R.run).1
 unfold ydf
 rw [yp]
 show ob (yR _ [.val (.loc g.H),.val (.int (as1.length:Nat))] h) fnK=_
 simp_all? only [yct,yE (m:="hand_at") q3 (by rfl'),q1,k6,r1,yfL R.held]
theorem yEE {L:List PV}(hL:sortI (sK x.s.sn) (sA x.s.sn)=some L):yed [.loc g.H,.int (as1.length:Nat)] h=some (.lst L,h):=by
 obtain ⟨q1,q2,q3⟩:=yxM X l
 have k6:=(ydn q2).2.2.2.2.2
 have R:=X.foc l
 have r3:=(ycK R.run).2.2.1
 have sw:=yvx R.lg.ob R.lg.sn hL
 unfold yed
 rw [yp]
 show ob (yR _ [.val (.loc g.H),.val (.int (as1.length:Nat))] h) fnK=_
 simp_all? only [yct,yE (m:="hand_at") q3 (by rfl'),q1,k6,r3,yE (m:="saw") R.lg.ob (by rfl'),sw]
end
def Z8:List Int:=[0,0,0,0,0,0,0,0]
abbrev Fr (h h':AH):Prop:=∀ m,At h m->At h' m
section
variable {h:AH}{w:Int}
def Rdb (d:Str×List Rw):Prop:=∀ h:AH,∃ h',yY yec (yb (yY ylj (yb (ye 0) yh)) yh) [.val (.str d.1)] h=some (.lst (d.2.map yV),h')/\Fr h h'
def txV (d:Str×List Rw):PV:=.str d.1
def ypq (d:Str×List Rw):PV:=.lst (d.2.map yV)
theorem At.seen {m:List (Nat×Nd)}{d d':Nd}(A:At h m):At ((h++[d]).set h.length d') m:=⟨A.1,fun p hp=>by
 have:=A.lt hp
 rw [getElem?_set_ne (by omega),getElem?_append_left this];exact A.2 p hp⟩
theorem yna {α:Type}{E:XE}{inn:PV->PSt}{f g:α->PV}:∀ (l:List α),(∀ h a,a∈l->∃ h',E (inn (f a)) h=some (g a,h')/\Fr h h')->∀ h,∃ h',yij E inn (l.map f) h=some (l.map g,h')/\Fr h h'
 | [],_,h=>⟨h,rfl,fun _ A=>A⟩
 | a::l,hE,h=>by
  obtain ⟨h1,q1,F1⟩:=hE h a mem_cons_self
  obtain ⟨h2,q2,F2⟩:=yna l (fun h b hb=>hE h b (mem_cons_of_mem _ hb)) h1
  refine ⟨h2,?_,fun m A=>F2 m (F1 m A)⟩
  show ob (E (inn (f a)) h) _=_
  rw [q1,ybq,q2,ybq]
  rfl
theorem yux {ds:List (Str×List Rw)}(hd:∀ d∈ds,Rdb d) (hl:ds.length<=100):∃ h',ybC [.lst (ds.map txV)] h=some (.lst (ds.map ypq),h')/\Fr h h':=by
 obtain ⟨h',q1,q2⟩:=yna (inn:=yeX [] [.val (.lst (ds.map txV))]) (f:=txV) (g:=ypq) ds (fun h a ha=>hd a ha h) h
 refine ⟨h',?_,q2⟩
 unfold ybC
 rw [yp]
 show ob (yR (xFz (yeD (xIL (ye 0)) _ _)) [.val (.lst (ds.map txV))] h) fnK=_
 rw [yqv,yBq,yvg,yrl rfl,ybq,if_pos (by rw [length_map];omega),q1]
 rfl
def hsV (hs:List (List (Str×List Rw))):List PV:=hs.map fun ds=>.lst (ds.map txV)
theorem yuy {hs:List (List (Str×List Rw))}(hd:∀ p∈hs,p.length<=6/\∀ d∈p,Rdb d) (h1:1<=hs.length) (h8:hs.length<=8):∃ h',ycl [.lst (hsV hs)] h=some (.lst (hs.map fun p=>.lst (p.map ypq)),h')/\Fr h h':=by
 obtain ⟨h',q3,q4⟩:=yna (E:=yY ybC (yb (ye 0) (yh))) (inn:=yeX [] [.val (.lst (hsV hs))]) (f:=fun p:List (Str×List Rw)=>.lst (p.map txV)) (g:=fun p=>.lst (p.map ypq)) hs (fun h a ha=>by
  obtain ⟨h',q,F⟩:=yux (h:=h) (hd a ha).2 (by have:=(hd a ha).1;omega)
  refine ⟨h',?_,F⟩
  show yY ybC (yb (ye 0) (yh)) [.val (.lst (a.map txV))] h=_
  simp_all? only [q]) h
 have q1:yij (xOp (oGt) (xCB (ycg) (yb (ye 0) (yh))) (xC (.int 6))) (yeX [] [.val (.lst (hsV hs))]) (hsV hs) h=some (hs.map fun _=>.bl false,h):=yeF (f:=fun p:List (Str×List Rw)=>.lst (p.map txV)) (g:=fun _=>.bl false) fun a ha=>by
  have l2:((6:Int)<((a.map txV).length:Nat))=False:=eq_false (by have:=(hd _ ha).1;rw [length_map];omega)
  show xOp (oGt) (xCB (ycg) (yb (ye 0) (yh))) (xC (.int 6)) [.val (.lst (a.map txV))] h=_
  simp_all? only [l2]
 have an:∀ h,ytM [.lst (hs.map fun _=>PV.bl false)] h=some (.bl false,h):=fun h=>by
  unfold ytM yW
  simp only [ymS (fun _:List (Str×List Rw)=>false)]
  rw [show (hs.map fun _=>false).any id=false by simp]
 refine ⟨h',?_,q4⟩
 have ll:(hsV hs).length=hs.length:=by unfold hsV;rw [length_map]
 have l1:((1:Int)<=((hsV hs).length:Nat))=True:=eq_true (by rw [ll];omega)
 have l2:((((hsV hs).length:Nat):Int)<=8)=True:=eq_true (by rw [ll];omega)
 have l3:((hsV hs).length<=100000)=True:=eq_true (by rw [ll];omega)
 have i0:∀ h,xIL (ye 0) [.val (.lst (hsV hs))] h=some (hsV hs,h):=fun _=>yrl rfl
 unfold ycl
 rw [yp]
 show ob (ym _ _ [.val (.lst (hsV hs))] h) fnK=_
 have q3:yij (yY ybC (yb (ye 0) (yh))) (yeX [] [.val (.lst (hsV hs))]) (hsV hs) h=some (hs.map fun p=>.lst (p.map ypq),h'):=q3
 simp_all? only [l1,l2,l3,i0,q1,an,q3,↓reduceIte]
noncomputable def hv (k:Nat) (ds:List PV) (w:Int):Nd:=.ins 14 ((["deeds","width","nth","sleeps","before"]:List Str).take k) (([.lst ds,.int w,.int 0,.bl false,.lst (Z8.map .int)]:List PV).take k)
theorem yrQ {ds rows:List PV}(hr:Due ds 0 rows):∃ h' c',ybz [.loc h.length,.lst ds,.int w] (h++[Nd.ins 14 [] []])=some (.non,h')/\∀ m,At h m->RR w rows ((h.length,ydg ds w 0 false Z8 c'.rn)::m) h' c' (S0 Z8):=by
 have N:∀ {k:AH}{d d':Nd},k[h.length]?=some d->(k.set h.length d')[h.length]?=some d':=fun e=>getElem?_set_self (List.getElem?_eq_some_iff.mp e).1
 have n0:(h++[Nd.ins 14 [] []])[h.length]?=some (hv 0 ds w):=by simp [hv]
 generalize hk0:h++[Nd.ins 14 [] []]=k0 at *
 have s1:∀ ρ,fL [14] "deeds" ρ (.lst ds) (.loc h.length) k0=some (.nx ρ,k0.set h.length (hv 1 ds w)):=fun ρ=>yeK n0 (by decide) (by kernel_rfl!)
 have n1:=N (d':=hv 1 ds w) n0
 have s2:∀ ρ,fL [12,14] "width" ρ (.int w) (.loc h.length) (k0.set h.length (hv 1 ds w))=some (.nx ρ,(k0.set h.length (hv 1 ds w)).set h.length (hv 2 ds w)):=fun ρ=>yeK n1 (by decide) (by kernel_rfl!)
 have n2:=N (d':=hv 2 ds w) n1
 rw [List.set_set] at s2 n2
 have s3:∀ ρ,fL [14] "nth" ρ (.int 0) (.loc h.length) (k0.set h.length (hv 2 ds w))=some (.nx ρ,(k0.set h.length (hv 2 ds w)).set h.length (hv 3 ds w)):=fun ρ=>yeK n2 (by decide) (by kernel_rfl!)
 have n3:=N (d':=hv 3 ds w) n2
 rw [List.set_set] at s3 n3
 have s4:∀ ρ,fL [14] "sleeps" ρ (.bl false) (.loc h.length) (k0.set h.length (hv 3 ds w))=some (.nx ρ,(k0.set h.length (hv 3 ds w)).set h.length (hv 4 ds w)):=fun ρ=>yeK n3 (by decide) (by kernel_rfl!)
 have n4:=N (d':=hv 4 ds w) n3
 rw [List.set_set] at s4 n4
 have s5:∀ ρ,fL [14] "before" ρ (.lst (Z8.map .int)) (.loc h.length) (k0.set h.length (hv 4 ds w))=some (.nx ρ,(k0.set h.length (hv 4 ds w)).set h.length (hv 5 ds w)):=fun ρ=>yeK n4 (by decide) (by kernel_rfl!)
 have n5:=N (d':=hv 5 ds w) n4
 rw [List.set_set] at s5 n5
 obtain ⟨h',c',q1,q2⟩:=ygs (rows:=rows) (nth:=0) (bf:=Z8) (w:=w) (ds:=ds) (fl 0 n5 (by decide) (by rfl') rfl) (fl 1 n5 (by decide) (by rfl') rfl) (fl 2 n5 (by decide) (by rfl') rfl) (fl 4 n5 (by decide) (by rfl') rfl) hr
 have R:∀ m,At h m->RR w rows ((h.length,hv 5 ds w)::m) h' c' (S0 Z8):=fun m A=>q2 _ (by
  have A1:=At.new (Nd.ins 14 [] []) (a:=[]) A
  rw [hk0] at A1
  exact At.upd (a:=[]) (hv 5 ds w) A1)
 have e0:At h []:=⟨List.nodup_nil,fun p hp=>by simp at hp⟩
 have n6:h'[h.length]?=some (hv 5 ds w):=(R [] e0).rest.get 0 rfl
 have s6:∀ ρ,fL [14] "run" ρ (.loc c'.rn) (.loc h.length) h'=some (.nx ρ,h'.set h.length (ydg ds w 0 false Z8 c'.rn)):=fun ρ=>yeK n6 (by decide) (by kernel_rfl!)
 refine ⟨_,c',?_,fun m A=>RR.urest (a:=[]) _ (R m A)⟩
 have l0:∀ k,ybg [.lst ds] k=some (.lst ds,k):=fun _=>rfl
 unfold ybz
 rw [yp]
 show ob (ym _ _ [.val (.loc h.length),.val (.lst ds),.val (.int w)] k0) fnK=_
 simp_all? only [yrq,l0,s1,s2,s3,s4]
 rw [if_pos (by decide),show PV.lst (repL ((8:Nat):Int).toNat [PV.int 0])=.lst (Z8.map .int) from rfl]
 simp_all? only [yrq,s5,yct,yE (m:="new_run") n5 (by rfl'),q1,s6]
end
section
variable {h:AH}{w:Int}
theorem yex:∀ {as:List (Nat×Lc)}{xs:List HD}{m:List (Nat×Nd)},CR w as xs m=CR w as xs []++m
 | [],_,_=>by unfold CR;rfl
 | _::_,[],_=>by unfold CR;rfl
 | a::as,x::xs,m=>by
  show HN w a x (CR w as xs m)=HN w a x (CR w as xs [])++m
  rw [ygG,ygG (m:=CR w as xs []),yex,append_assoc]
end
section
variable {h:AH}
theorem yAL {i:Int}(hi:0<=i/\i<B64):ycV [.int i] h=some (.bl true,h):=by
 have e1:ydZ [.int i] h=some (.bl true,h):=by kernel_rfl!
 have e2:(0<=i)=True:=eq_true hi.1
 have e3:(i<18446744073709551616)=True:=eq_true hi.2
 unfold ycV
 rw [yp]
 show ob (yR _ [.val (.int i)] h) fnK=_
 simp_all? only [e1,e2,e3]
theorem yrR {ρ:PSt}:∀ bx:List Int,(∀ i∈bx,0<=i/\i<B64)->yij (yY ycV (yb (ye 0) (yh))) (yeX [] ρ) (bx.map .int) h=some (replicate bx.length (.bl true),h)
 | [],_=>rfl
 | i::bx,hb=>by
  show ob (ycV [.int i] h) _=_
  rw [yAL (hb i mem_cons_self),ybq]
  show ob (yij _ _ (bx.map .int) h) _=_
  rw [yrR bx fun j hj=>hb j (mem_cons_of_mem _ hj),ybq]
  rfl
theorem yrS:∀ n,yht (replicate n (PV.bl true))=some (replicate n true)
 | 0=>rfl
 | n+1=>by
  rw [List.replicate_succ,List.replicate_succ]
  unfold yht
  simp only [yrS n]
  try rfl
theorem yuz {bx:List Int}(h1:1<=bx.length) (h16:bx.length<=16) (hb:∀ i∈bx,0<=i/\i<B64):yds [.lst (bx.map .int)] h=some (.non,h):=by
 have e1:=yrR (h:=h) (ρ:=[.val (.lst (bx.map .int))]) bx hb
 have e2:yvc [.lst (replicate bx.length (PV.bl true))] h=some (.bl true,h):=by
  unfold yvc yW
  simp only [yrS]
  rw [List.all_eq_true.mpr fun x hx=>by rw [List.eq_of_mem_replicate hx];rfl]
 have i1:xIL (ye 0) [.val (.lst (bx.map .int))] h=some (bx.map .int,h):=rfl
 have l1:(((bx.map PV.int).length:Nat):Int)=bx.length:=by rw [length_map]
 have l2:((1:Int)<=(bx.length:Nat))=True:=eq_true (by omega)
 have l3:(((bx.length:Nat):Int)<=16)=True:=eq_true (by omega)
 have l4:((bx.map PV.int).length<=100000)=True:=eq_true (by rw [length_map];omega)
 unfold yds
 rw [yp]
 show ob (ym _ _ [.val (.lst (bx.map .int))] h) fnK=_
 simp_all? only [l1,l2,l3,l4,i1,e1,e2]
end
noncomputable def av (k nu ma cr en:Nat):Nd:=.ins 15 ((["numbers","marks","crew","entries"]:List Str).take k) (([.loc nu,.loc ma,.loc cr,.loc en]:List PV).take k)
def hd0 (ds:List (Str×List Rw)):HD:=⟨ds.map ypq,0,false,Z8,match ds with|[]=>[]|d::_=>d.2.map yV,S0 Z8⟩
theorem yEF:∀ ds:List (Str×List Rw),Due (hd0 ds).ds 0 (hd0 ds).rows
 | []=>.inr ⟨rfl,rfl⟩
 | d::r=>.inl ⟨by simp [hd0],rfl⟩
section
variable {h:AH}{w:Int}
theorem yEG (n:Nat):repL ((n:Nat):Int).toNat [PV.int 0]=(replicate n (0:Int)).map .int:=by
 show (replicate n [PV.int 0]).flatten=_
 rw [List.map_replicate]
 induction n with
 | zero=>rfl
 | succ n ih=>rw [List.replicate_succ,List.replicate_succ,List.flatten_cons,ih];rfl
theorem yrT {bx:List Int}{ρ:PSt}(hρ:∀ x,yeX [1] ρ x=[.val x,.val (.lst (bx.map .int))]):∀ (hs:List (List (Str×List Rw))) (h:AH),∃ h' as,yij (yhE 14 ybz (yb (ye 0) (yb (xCB (ycg) (yb (ye 1) (yh))) (yh)))) (yeX [1] ρ) (hs.map fun ds=>.lst (ds.map ypq)) h=some ((as.map (·.1)).map .loc,h')/\LyOk as (hs.map hd0)/\∀ m,At h m->At h' (CR bx.length as (hs.map hd0) m)
 | [],h=>⟨h,[],rfl,trivial,fun _ A=>A⟩
 | ds::hs,h=>by
  obtain ⟨h1,c1,q1,q2⟩:=yrQ (h:=h) (w:=bx.length) (yEF ds)
  obtain ⟨h',as,q3,q4,q5⟩:=yrT hρ hs h1
  have lw:(((bx.map PV.int).length:Nat):Int)=bx.length:=by rw [length_map]
  have e0:At h []:=⟨List.nodup_nil,fun p hp=>by simp at hp⟩
  refine ⟨h',(h.length,c1)::as,?_,⟨(q2 [] e0).len,q4⟩,fun m A=>?_⟩
  .show ob (yhE 14 ybz _ (yeX [1] ρ (.lst (ds.map ypq))) h) _=_
   rw [hρ,ymG]
   have q1:ybz [.loc h.length,.lst (ds.map ypq),.int bx.length] (h++[Nd.ins 14 [] []])=some (.non,h1):=q1
   simp_all? only [lw,q1,q3]
   rfl
  .have R:=q2 m A
   have A1:At h1 (HN bx.length (h.length,c1) (hd0 ds) m):=by
    have A2:=R.at_
    rw [yhR] at A2
    show At h1 ((h.length,ydg (ds.map ypq) bx.length 0 false Z8 c1.rn)::RM _ _ _ _ _)
    rw [yhR]
    exact A2.perm List.perm_middle.symm
   have A3:=q5 _ A1
   rw [yex,ygG] at A3
   show At h' (HN bx.length (h.length,c1) (hd0 ds) (CR bx.length as (hs.map hd0) m))
   rw [ygG,yex]
   exact A3.perm (List.perm_append_comm_assoc _ _ _)
theorem yrU {bx:List Int}{hs:List (List (Str×List Rw))}(h1:1<=bx.length) (h16:bx.length<=16) (hb:∀ i∈bx,0<=i/\i<B64) (hd:∀ p∈hs,p.length<=6/\∀ d∈p,Rdb d) (hh1:1<=hs.length) (hh8:hs.length<=8) :
  ∃ h' g as,ycm [.loc h.length,.lst (bx.map .int),.lst (hsV hs)] (h++[Nd.ins 15 [] []])=some (.non,h')/\g.H=h.length/\∀ m,At h m->HH h' g bx.length bx (replicate bx.length 0) [] as (hs.map hd0) m:=by
 have e0:At h []:=⟨List.nodup_nil,fun p hp=>by simp at hp⟩
 have A0:∀ m,At h m->At (h++[Nd.ins 15 [] []]) ((h.length,.ins 15 [] [])::m):=fun m A=>At.new _ (a:=[]) A
 have c0:=yuz (h:=h++[Nd.ins 15 [] []]) h1 h16 hb
 generalize h++[Nd.ins 15 [] []]=k0 at *
 have A1:∀ m,At h m->At (k0++[Nd.lst (bx.map .int)]) ((h.length,.ins 15 [] [])::(k0.length,.lst (bx.map .int))::m):=fun m A=>At.new _ (a:=[_]) (A0 m A)
 have s1:∀ ρ,fL [15] "numbers" ρ (.loc k0.length) (.loc h.length) (k0++[Nd.lst (bx.map .int)])=some (.nx ρ,(k0++[Nd.lst (bx.map .int)]).set h.length (av 1 k0.length 0 0 0)):=fun ρ=>yeK ((A1 [] e0).get 0 rfl) (by decide) (by kernel_rfl!)
 have A2:=fun m A=>At.upd (a:=[]) (av 1 k0.length 0 0 0) (A1 m A)
 generalize hnu:k0.length=nu at *
 generalize (k0++[Nd.lst (bx.map .int)]).set h.length (av 1 nu 0 0 0)=k1 at *
 have A3:∀ m,At h m->At (k1++[Nd.lst ((replicate bx.length (0:Int)).map .int)]) ((h.length,av 1 nu 0 0 0)::(nu,.lst (bx.map .int))::(k1.length,.lst ((replicate bx.length (0:Int)).map .int))::m):=fun m A=>At.new _ (a:=[_,_]) (A2 m A)
 have s2:∀ ρ,fL [15] "marks" ρ (.loc k1.length) (.loc h.length) (k1++[Nd.lst ((replicate bx.length (0:Int)).map .int)])=some (.nx ρ,(k1++[Nd.lst ((replicate bx.length (0:Int)).map .int)]).set h.length (av 2 nu k1.length 0 0)):=fun ρ=>yeK ((A3 [] e0).get 0 rfl) (by decide) (by kernel_rfl!)
 have A4:=fun m A=>At.upd (a:=[]) (av 2 nu k1.length 0 0) (A3 m A)
 generalize hma:k1.length=ma at *
 generalize (k1++[Nd.lst ((replicate bx.length (0:Int)).map .int)]).set h.length (av 2 nu ma 0 0)=k2 at *
 have F2:Fr h k2:=fun m A=>(A4 m A).sub (((List.Sublist.refl m).cons _).cons _ |>.cons _)
 obtain ⟨k3,q1,q2⟩:=yuy (h:=k2) hd hh1 hh8
 obtain ⟨k4,as,q3,q4,q5⟩:=yrT (bx:=bx) (ρ:=[.val (.loc h.length),.val (.lst (bx.map .int)),.val (.lst (hsV hs))]) (fun _=>rfl) hs k3
 have R4:=fun m A=>q5 _ (q2 _ (A4 m A))
 have R4':∀ m,At h m->At k4 ((h.length,av 2 nu ma 0 0)::(nu,.lst (bx.map .int))::(ma,.lst ((replicate bx.length (0:Int)).map .int))::CR bx.length as (hs.map hd0) m):=fun m A=>by
  have:=R4 m A
  rw [yex] at this
  rw [yex]
  exact this.perm (show ([_,_,_]++(CR bx.length as (hs.map hd0) []++m)).Perm (CR bx.length as (hs.map hd0) []++([_,_,_]++m)) from List.perm_append_comm_assoc _ _ _)
 have R5:=fun m A=>At.new (Nd.lst ((as.map (·.1)).map .loc)) (a:=[_,_,_]) (R4' m A)
 have s3:∀ ρ,fL [15] "crew" ρ (.loc k4.length) (.loc h.length) (k4++[Nd.lst ((as.map (·.1)).map .loc)])=some (.nx ρ,(k4++[Nd.lst ((as.map (·.1)).map .loc)]).set h.length (av 3 nu ma k4.length 0)):=fun ρ=>yeK ((R5 [] e0).get 0 rfl) (by decide) (by kernel_rfl!)
 have R6:=fun m A=>At.upd (a:=[]) (av 3 nu ma k4.length 0) (R5 m A)
 generalize hcr:k4.length=cr at *
 generalize (k4++[Nd.lst ((as.map (·.1)).map .loc)]).set h.length (av 3 nu ma cr 0)=k6 at *
 have R7:=fun m A=>At.new (Nd.lst []) (a:=[_,_,_,_]) (R6 m A)
 have s4:∀ ρ,fL [15] "entries" ρ (.loc k6.length) (.loc h.length) (k6++[Nd.lst []])=some (.nx ρ,(k6++[Nd.lst []]).set h.length (av 4 nu ma cr k6.length)):=fun ρ=>yeK ((R7 [] e0).get 0 rfl) (by decide) (by kernel_rfl!)
 have R8:=fun m A=>At.upd (a:=[]) (av 4 nu ma cr k6.length) (R7 m A)
 refine ⟨_,⟨h.length,nu,ma,cr,k6.length⟩,as,?_,rfl,fun m A=>⟨R8 m A,q4⟩⟩
 have l0:∀ k,ybg [.lst (bx.map .int)] k=some (.lst (bx.map .int),k):=fun _=>rfl
 have lw:(((bx.map PV.int).length:Nat):Int)=bx.length:=by rw [length_map]
 unfold ycm
 rw [yp]
 show ob (ym _ _ [.val (.loc h.length),.val (.lst (bx.map .int)),.val (.lst (hsV hs))] k0) fnK=_
 simp_all? only [yrq,c0,l0,hnu,s1,lw]
 rw [if_pos (by omega),yEG]
 have i1:xIL (yY ycl (yb (ye 2) (yh))) [.val (.loc h.length),.val (.lst (bx.map .int)),.val (.lst (hsV hs))] k2=some (hs.map fun p=>.lst (p.map ypq),k3):=by
  unfold xIL
  simp_all? only [q1]
 have l8:((hs.map fun p=>PV.lst (p.map ypq)).length<=100000)=True:=eq_true (by rw [length_map];omega)
 simp_all? only [yrq,hma,s2,i1,l8,q3,hcr,s3,s4]
end
section
variable {h:AH}
abbrev Pc:=Q×(Int->List Rw)
def lrB:XS:=ymE 2 (yY (ydA 44) (yb (ye 3) (yb (xOp ydp (ye 1) (yoS 2)) yh)))
structure yyh (p:Pc):Prop where
 rd:PQ 44 0 p.1
 lg:∀ h:AH,yoP "long" (yli 44) (ye 0) [.val p.1.1] h=some (.int ((p.2 0).length:Nat),h)
 rw:∀ (f:Int) (h:AH),ydA 44 [p.1.1,.int f] h=some (.lst ((p.2 f).map yV),h)
 fs:frs p.1.2/\p.1.2.length<=20
 ln:∀ f,(p.2 f).length<=10
def cat:List Pc->Int->List Rw
 | [],_=>[]
 | p::l,f=>p.2 f++cat l (f+((p.2 f).length:Nat))
theorem yAM {i:Nat}{e:XE}{ρ:PSt}{xs:List PV}(hx:ρ[i]?=some (.own (.lst xs))) {ys:List PV}{h1:AH}(he:e ρ h=some (.lst ys,h1)) (hl:xs.length+ys.length<=100000):ymE i e ρ h=some (.nx (ρ.set i (.own (.lst (xs++ys)))),h1):=by
 unfold ymE
 rw [hx]
 show ob (e ρ h) _=_
 rw [he,ybq]
 show (if _ then _ else _)=_
 rw [if_pos hl]
theorem yrV {X:PV}:∀ (l:List Pc) (R:List Rw) (v:PVar),(∀ p∈l,yyh p)->R.length+10*l.length<=1000 ->
  ∃ v',ygk (yt 3) lrB (l.map fun p=>p.1.1) [.val X,.val (.int 0),.own (.lst (R.map yV)),v] h=some (.nx [.val X,.val (.int 0),.own (.lst ((R++cat l (0+(R.length:Nat))).map yV)),v'],h)
 | [],R,v,_,_=>⟨v,by show some _=_;unfold cat;rw [append_nil]⟩
 | p::l,R,v,hp,hl=>by
  have P:=hp p mem_cons_self
  have q1:=P.rw (0+(R.length:Nat)) h
  have q2:=P.ln (0+(R.length:Nat))
  rw [length_cons] at hl
  obtain ⟨v',e⟩:=yrV (X:=X) l (R++p.2 (0+(R.length:Nat))) (.val (p.1.1)) (fun p hp'=>hp p (mem_cons_of_mem _ hp')) (by rw [length_append];omega)
  refine ⟨v',?_⟩
  have bd:lrB [.val X,.val (.int 0),.own (.lst (R.map yV)),.val (p.1.1)] h=some (.nx [.val X,.val (.int 0),.own (.lst ((R++p.2 (0+(R.length:Nat))).map yV)),.val (p.1.1)],h):=by
   unfold lrB
   refine (yAM (xs:=R.map yV) (ys:=(p.2 (0+(R.length:Nat))).map yV) (h1:=h) rfl ?_ (by rw [length_map,length_map];omega)).trans (by rw [map_append];rfl)
   have:yoS 2 ([.val X,.val (.int 0),.own (.lst (R.map yV)),.val (p.1.1)]:PSt) h=some (.int (R.map yV).length,h):=rfl
   rw [length_map] at this
   simp_all? only [this,q1]
  show ygk _ _ (p.1.1::l.map fun p=>p.1.1) _ h=_
  rw [ygQ rfl bd,e,show cat (p::l) (0+(R.length:Nat))=p.2 (0+(R.length:Nat))++cat l (0+(R.length:Nat)+((p.2 (0+(R.length:Nat))).length:Nat)) from rfl]
  rw [append_assoc,length_append,Int.natCast_add,Int.add_assoc]
theorem ypd {l:List Pc}{ps:List PV}(em:ps=l.map fun p=>p.1.1) (hp:∀ p∈l,yyh p) (hl:l.length<=79):yec [.lst ps] h=some (.lst ((cat l 0++[Rw.lay]).map yV),h):=by
 obtain ⟨v',e⟩:=yrV (h:=h) (X:=.lst ps) l [] .no hp (by show 0+_<=_;omega)
 rw [<- em] at e
 have e1:ycW 45 [.lst ps,.int 0] h=some (.lst ((cat l 0).map yV),h):=by
  have i0:xIL (ye 0) [.val (.lst ps),.val (.int 0),.own (.lst []),.no] h=some (ps,h):=yrl rfl
  have e':ygk (yt 3) lrB ps [.val (.lst ps),.val (.int 0),.own (.lst []),.no] h=some (.nx [.val (.lst ps),.val (.int 0),.own (.lst ((cat l 0).map yV)),v'],h):=e
  unfold ycW
  rw [yp]
  show ob (ym _ (ym (yqg (xIL (ye 0)) (yt 3) lrB) _) [.val (.lst ps),.val (.int 0),.no,.no] h) fnK=_
  clear em e
  simp_all? only [i0,e']
 have cl:∀ (l:List Pc) (f:Int),(∀ p∈l,yyh p)->(cat l f).length<=10*l.length:=by
  intro l
  induction l with
  | nil=>intro f _;exact Nat.le_refl _
  | cons p l ih =>
   intro f hp
   have:=(hp p mem_cons_self).ln f
   have:=ih (f+((p.2 f).length:Nat)) fun p h=>hp p (mem_cons_of_mem _ h)
   unfold cat
   rw [length_append,length_cons]
   omega
 have:=cl l 0 hp
 unfold yec
 rw [yp]
 show ob (yR _ [.val (.lst ps)] h) fnK=_
 clear em e
 simp_all? only [e1]
 rw [if_pos (by simp only [length_map,length_cons,length_nil];omega),map_append]
 rfl
theorem yAN:∀ l:List Q,(∀ q∈l,frs q.2/\q.2.length<=20/\q.2≠[])->frs (wr l)/\(wr l).length<=21*l.length/\∀ q:Q,q.2≠[]->Str.join " ; " ((q::l).map fun q=>Str.join " " q.2)=Str.join " " (q.2++wr l)
 | [],_=>⟨(fun _ h=>by cases h),Nat.le_refl _,fun q _=>by show _=Str.join " " (q.2++[]);rw [append_nil];rfl⟩
 | u::l,H=>by
  obtain ⟨h1,h2,h3⟩:=H u mem_cons_self
  obtain ⟨i1,i2,i3⟩:=yAN l fun q h=>H q (mem_cons_of_mem _ h)
  refine ⟨List.forall_mem_cons.2 ⟨ymL _ (by rfl'),yrk h1 i1⟩,?_,fun q hq=>?_⟩
  .show (u.2++wr l).length+1<=21*(l.length+1)
   rw [length_append]
   omega
  .show Str.join " " q.2++" ; "++Str.join " ; " ((u::l).map fun q=>Str.join " " q.2)=Str.join " " (q.2++(";":Str)::(u.2++wr l))
   rw [i3 u h3,yfR hq (fun z=>by cases z),yrj (fun z=>h3 (List.append_eq_nil_iff.mp z).1),yAi]
   simp only [ylk]
theorem ynb {W:List Str}(f:frs W) (ne:W≠[]) (hl:W.length<=3000):yeU [.str (Str.join " " W)] h=some (.lst (W.map .str),h):=by
 have hj:=yjI " " (by rfl') W f
 unfold yeU
 rw [yp]
 show ob (ym _ _ [.val (.str (Str.join " " W))] h) fnK=_
 simp_all? only [yxr f ne,ywW (show (Str.join " " W).length<=100000 by omega),yhD _ ne fun w hw=>(f w hw).1,↓reduceIte]
def AllOk (l:List Pc):Prop:=∀ p∈l,yyh p
theorem AllOk.c {p:Pc}{l:List Pc}(a:yyh p) (b:AllOk l):AllOk (p::l):=List.forall_mem_cons.2 ⟨a,b⟩
theorem AllOk.n:AllOk []:=fun _ h=>by cases h
def lgs (l:List Pc):Int:=(l.map fun p=>((p.2 0).length:Int)).sum
theorem yvy {s:Str}{p:Pc}{l:List Pc}(H:AllOk (p::l)) (es:s=Str.join " ; " ((p::l).map fun p=>Str.join " " p.1.2)) (hl:l.length<=78) (hg:lgs (p::l)<=79):Rdb (s,cat (p::l) 0++[Rw.lay])/\s.length<=69000:=by
 have A:∀ q∈(p::l).map (·.1),PQ 44 0 q/\frs q.2/\q.2.length<=20/\q.2≠[]:=fun q hq=>by
  obtain ⟨p,hp,rfl⟩:=List.mem_map.mp hq
  obtain ⟨P,w,tl,e,n⟩:=(H p hp).rd
  exact ⟨(H p hp).rd,(H p hp).fs.1,(H p hp).fs.2,by rw [e];exact fun z=>by cases z⟩
 obtain ⟨a1,a2,a3,a4⟩:=A p.1 mem_cons_self
 obtain ⟨b1,b2,b3⟩:=yAN (l.map (·.1)) fun q hq=>(A q (mem_cons_of_mem _ hq)).2
 have e0:s=Str.join " " (wl ((p::l).map (·.1))):=by rw [es];refine .trans ?_ (b3 p.1 a4);rw [map_cons,map_cons,map_map];rfl
 have f1:frs (wl ((p::l).map (·.1))):=yrk a2 b1
 have n1:wl ((p::l).map (·.1))≠[]:=fun z=>a4 (List.append_eq_nil_iff.mp z).1
 have l1:(wl ((p::l).map (·.1))).length<=3000:=by
  show (p.1.2++wr (l.map (·.1))).length<=3000
  rw [length_append]
  rw [length_map] at b2
  omega
 refine ⟨fun h=>?_,by have:=yjI " " (by rfl') _ f1;rw [e0];omega⟩
 have hc:(p::l).length<=79:=by rw [length_cons];omega
 have e2:∀ h,yec [.lst ((p::l).map (·.1.1))] h=some (.lst ((cat (p::l) 0++[Rw.lay]).map yV),h):=fun h=>ypd rfl H hc
 obtain ⟨d,d',e1⟩:∃ d d',ylj [.str s] h=some (.lst ((p::l).map (·.1.1)),(h++[d]).set h.length d'):=by
  refine ⟨rdr (wl ((p::l).map (·.1))) 0,rdr (wl ((p::l).map (·.1))) (0+(wl ((p::l).map (·.1))).length),?_⟩
  rw [e0]
  clear e0 es e2
  generalize hQ:(p::l).map (·.1)=Qs at *
  have hL:∀ h,ybX 45 [.lst ((p::l).map (·.1.1))] h=some (.int (lgs (p::l)),h):=fun h=>by
   unfold ybX
   rw [yp]
   show ob (yR _ [.val (.lst ((p::l).map (·.1.1)))] h) fnK=_
   symm
   rw [yrl rfl,ybq]
   rw [if_pos (by rw [length_map];omega)]
   rw [yeF (f:=fun p:Pc=>p.1.1) (g:=fun p=>.int ((p.2 0).length:Nat)) fun p hp=>(H p hp).lg h]
   symm
   show ob (yzl [.lst ((p::l).map fun p=>PV.int ((p.2 0).length:Nat))] h) _=_
   rw [show ((p::l).map fun p=>PV.int ((p.2 0).length:Nat))=((p::l).map fun p=>((p.2 0).length:Int)).map PV.int by rw [map_map];rfl]
   unfold yzl yW
   simp only [yiI]
   rfl
  have hv:Qs.map (·.1)=(p::l).map (·.1.1):=by rw [<- hQ,map_map];rfl
  have hQl:Qs.length<=90:=by rw [<- hQ,length_map];omega
  unfold ylj
  rw [yp]
  show ob (ym _ _ [.val (.str (Str.join " " (wl Qs))),.no,.no] h) fnK=_
  have ho:h.length<(h++[rdr (wl Qs) 0]).length:=by simp
  have e0:h++[rdr (wl Qs) 0]=hR (h++[rdr (wl Qs) 0]) h.length (wl Qs) 0:=by unfold hR;simp
  simp_all? only [ynb f1 n1 l1,show ycX [PV.lst (List.map PV.str (wl Qs))] h=some (rdr (wl Qs) 0,h) from rfl]
  generalize hG:h++[rdr (wl Qs) 0]=G at *
  conv=>lhs;rw [e0]
  have G':h.length<G.length/\(wl Qs).length<=100000:=⟨ho,by omega⟩
  simp_all? only [yct,list_eq (rest:=[]) G' (.inl rfl) (fun q hq=>(A q hq).1) hQl (show (wl Qs).drop 0=wl Qs++[] by simp),hv,yer G' (show (wl Qs).drop (0+(wl Qs).length)=[] by simp),hdV,hL]
  rw [if_neg (by intro z;cases z),if_neg (by omega)]
  rfl
 refine ⟨(h++[d]).set h.length d',?_,fun m A=>At.seen A⟩
 dsimp only
 clear es e0
 simp_all? only [e1,e2]
end
noncomputable def vR:Rw->PV
 | .let_ r n=>.ins 1 ["slot","number"] [.str r,.int n]
 | .reckon w a b c=>.ins 2 ["word","slot","one","other"] [.str w,.str a,.str b,.str c]
 | .take r s=>.ins 3 ["slot","place"] [.str r,.str s]
 | .put r s=>.ins 4 ["place","slot"] [.str r,.str s]
 | .throw r s=>.ins 8 ["name","slot"] [.str r,.str s]
 | _=>.ins 9 [] []
noncomputable def wR:Rw->List Str
 | .let_ r n=>["let",r,(tI n)]
 | .reckon w a b c=>[w,a,b,c]
 | .take r s=>["take",r,s]
 | .put r s=>["put",r,s]
 | .throw r s=>["throw",r,s]
 | _=>["wait"]
abbrev qR (r:Rw):Q:=(vR r,wR r)
abbrev pl (r:Rw):Pc:=(qR r,fun _=>[r])
def sd (l:List Q):List Str:=("(":Str)::(wl l++[(")":Str)])
noncomputable def eQ (a b:List Q):Q:=(.ins 6 ["parts","others"] [.lst (a.map (·.1)),.lst (b.map (·.1))],("either":Str)::(sd a++("or":Str)::sd b))
noncomputable def tQ (a:List Q):Q:=(.ins 7 ["parts","name","slot","others"] [.lst (a.map (·.1)),.str "low",.str "c",.lst []],("try":Str)::(sd a++("on":Str)::("low":Str)::("c":Str)::sd []))
noncomputable def mdR:Nat->Rw
 | 0=>.let_ "e" 5
 | 1=>.reckon "plus" "f" "e" "b"
 | 2=>.reckon "less" "g" "f" "a"
 | 3=>.reckon "minus" "h" "b" "f"
 | 4=>.reckon "same" "e" "g" "h"
 | 5=>.put "a" "f"
 | _=>.reckon "times" "e" "b" "b"
abbrev mP (i:Nat):Pc:=pl (mdR i)
def eP (b:Int):Nat->List Pc
 | 0=>[pl (.let_ "d" b),pl (.take "c" "d")]
 | 1=>[pl .wait]
 | 2=>[pl (.throw "low" "b")]
 | 3=>[]
 | 4=>[pl (.let_ "d" b),pl (.put "d" "a"),pl (.take "c" "d")]
 | 5=>[(eQ [qR .wait] [qR (.let_ "f" 9)],fun f=>[.either (f+5-1),.wait,.settle,.jump (f+5),.let_ "f" 9])]
 | 6=>[(tQ [qR (.throw "low" "b")],fun f=>[.guard "low" "c" (f+4-0),.throw "low" "b",.settle,.jump (f+4)])]
 | 7=>[pl (.let_ "d" b),pl (.put "d" "a"),(eQ [qR (.take "c" "d")] [qR .wait],fun f=>[.either (f+5-1),.take "c" "d",.settle,.jump (f+5),.wait])]
 | 8=>[(tQ [qR .wait],fun f=>[.guard "low" "c" (f+4-0),.wait,.settle,.jump (f+4)])]
 | 9=>[(eQ [qR (.throw "low" "b")] [],fun f=>[.either (f+4-0),.throw "low" "b",.settle,.jump (f+4)])]
 | 10=>[(eQ [tQ [qR .wait]] [qR (.let_ "f" 9)],fun f=>[.either (f+8-1),.guard "low" "c" (f+1+0+4-0),.wait,.settle,.jump (f+1+0+4),.settle,.jump (f+8),.let_ "f" 9])]
 | _=>[(tQ [eQ [qR (.throw "low" "b")] []],fun f=>[.guard "low" "c" (f+7-0),.either (f+1+0+4-0),.throw "low" "b",.settle,.jump (f+1+0+4),.settle,.jump (f+7)])]
def sl (r:Str):Prop:=yee r/\fr r
def gdR:Rw->Prop
 | .let_ r n=>sl r/\0<=n/\n<B64
 | .reckon w a b c=>w∈W5/\sl a/\sl b/\sl c
 | .take r s|.put r s=>sl r/\sl s
 | .throw r s=>(r = "low")/\sl s
 | .wait=>True
 | _=>False
theorem slA:sl "a":=⟨fun _=>by kernel_rfl!,ymL _ (by rfl')⟩
theorem yyi:sl "b":=⟨fun _=>by kernel_rfl!,ymL _ (by rfl')⟩
theorem slC:sl "c":=⟨fun _=>by kernel_rfl!,ymL _ (by rfl')⟩
theorem slD:sl "d":=⟨fun _=>by kernel_rfl!,ymL _ (by rfl')⟩
theorem slE:sl "e":=⟨fun _=>by kernel_rfl!,ymL _ (by rfl')⟩
theorem slF:sl "f":=⟨fun _=>by kernel_rfl!,ymL _ (by rfl')⟩
theorem slG:sl "g":=⟨fun _=>by kernel_rfl!,ymL _ (by rfl')⟩
theorem slH:sl "h":=⟨fun _=>by kernel_rfl!,ymL _ (by rfl')⟩
theorem nmL:yol "low":=fun _=>by kernel_rfl!
section
variable {n:Nat}{ar:Int}{r:Rw}{a b:List Q}{q:Q}
theorem yrW (g:gdR r) (ha:ar<=8):PQ (n+1) ar (qR r):=by
 cases r with
 | let_ r n=>exact ⟨yiU (by rfl') ha (yCT g.1.1 g.2),_,_,rfl,eq_false (by rfl')⟩
 | take r s=>exact ⟨yiU (by rfl') ha (yvv g.1.1 g.2.1).1,_,_,rfl,eq_false (by rfl')⟩
 | put r s=>exact ⟨yiU (by rfl') ha (yvv g.1.1 g.2.1).2,_,_,rfl,eq_false (by rfl')⟩
 | throw r s=>exact ⟨yiU (by rfl') ha (yxw (g.1 ▸ nmL) g.2.1),_,_,rfl,eq_false (by rfl')⟩
 | wait=>exact ⟨yiU (by rfl') ha yAm,_,_,rfl,eq_false (by rfl')⟩
 | reckon w a b c=>refine ⟨yiU ?_ ha (yui g.1 g.2.1.1 g.2.2.1.1 g.2.2.2.1),_,_,rfl,eq_false ?_⟩<;>rcases yuf g.1 with rfl|rfl|rfl|rfl|rfl<;>rfl'
 | _=>exact g.elim
theorem q_1 (h:PQ n ar q):∀ p∈[q],PQ n ar p:=fun p hp=>by rw [List.mem_singleton.mp hp];exact h
theorem q_0:∀ p∈([]:List Q),PQ n ar p:=fun _ h=>by cases h
theorem yAO (ha:ar<=8) (A:∀ q∈a,PQ n (ar+1) q) (B:∀ q∈b,PQ n (ar+1) q) (la:a.length<=90) (lb:b.length<=90):PQ (n+4) ar (eQ a b):=⟨(yrs ha).1 (yuj (yom A la) (yom B lb)),_,_,rfl,eq_false (by rfl')⟩
theorem yBt (ha:ar<=8) (A:∀ q∈a,PQ n (ar+1) q) (la:a.length<=90):PQ (n+4) ar (tQ a):=⟨(yrs ha).2 (yCU nmL slC.1 (yom A la) (yom q_0 (by decide))),_,_,rfl,eq_false (by rfl')⟩
theorem yAP {l:List Str}(h:((l.all fun w=>decide (32∉w.cps.toList/\w.length≠0/\w.length<=20)) && decide (l.length<=20))=true):frs l/\l.length<=20:=by
 rw [Bool.and_eq_true_iff] at h
 exact ⟨fun w hw=>ymL w (List.all_eq_true.mp h.1 w hw),of_decide_eq_true h.2⟩
theorem f3 {a b c:Str}(x:fr a) (y:fr b) (z:fr c):frs [a,b,c]/\[a,b,c].length<=20:=⟨List.forall_mem_cons.2 ⟨x,List.forall_mem_cons.2 ⟨y,List.forall_mem_cons.2 ⟨z,fun _ h=>by cases h⟩⟩⟩,by show 3<=20;decide⟩
theorem yfw (g:gdR r):yyh (pl r):=by
 refine ⟨yrW (n:=43) g (by decide),?_,?_,?_,fun _=>Nat.le_add_left 1 9⟩
 .cases r<;>first|exact g.elim|exact fun _=>by kernel_rfl!
 .cases r with
  | reckon w a b c=>rcases yuf g.1 with rfl|rfl|rfl|rfl|rfl<;>exact fun _ _=>by kernel_rfl!
  | _=>first|exact g.elim|exact fun _ _=>by kernel_rfl!
 .cases r with
  | let_ r n=>exact f3 (ymL _ (by rfl')) g.1.2 (yvt g.2.1 g.2.2)
  | reckon w a b c=>exact ⟨List.forall_mem_cons.2 ⟨by rcases yuf g.1 with rfl|rfl|rfl|rfl|rfl<;>exact ymL _ (by rfl'),(f3 g.2.1.2 g.2.2.1.2 g.2.2.2.2).1⟩,by show 4<=20;decide⟩
  | wait=>exact yAP (by rfl')
  | throw r s=>exact f3 (ymL _ (by rfl')) (g.1 ▸ ymL _ (by rfl')) g.2.2
  | take r s|put r s=>exact f3 (ymL _ (by rfl')) g.1.2 g.2.2
  | _=>exact g.elim
theorem ync {f:Int->List Rw}(rd:PQ 44 0 q) (lg:∀ h:AH,yoP "long" (yli 44) (ye 0) [.val q.1] h=some (.int ((f 0).length:Nat),h)) (rw:∀ (k:Int) (h:AH),ydA 44 [q.1,.int k] h=some (.lst ((f k).map yV),h)) (fs:((q.2.all fun w=>decide (32∉w.cps.toList/\w.length≠0/\w.length<=20)) && decide (q.2.length<=20))=true) (ln:∀ k,(f k).length<=10):AllOk [(q,f)]:=.c ⟨rd,lg,rw,yAP fs,ln⟩ .n
end
section
variable {h:AH}{x b:Int}
theorem b9:gdR (.let_ "f" 9):=⟨slF,by decide⟩
theorem gTh:gdR (.throw "low" "b"):=⟨rfl,yyi⟩
theorem yEH:∀ i,gdR (mdR i)
 | 0=>⟨slE,by decide⟩
 | 1=>⟨by simp [W5],slF,slE,yyi⟩
 | 2=>⟨by simp [W5],slG,slF,slA⟩
 | 3=>⟨by simp [W5],slH,yyi,slF⟩
 | 4=>⟨by simp [W5],slE,slG,slH⟩
 | 5=>⟨slA,slF⟩
 | _+6=>⟨by simp [W5],slE,yyi,yyi⟩
theorem yCZ (hx:0<=b/\b<B64):∀ w,AllOk (eP b w)
 | 0=>.c (yfw ⟨slD,hx⟩) (.c (yfw ⟨slC,slD⟩) .n)
 | 1=>.c (yfw trivial) .n
 | 2=>.c (yfw gTh) .n
 | 3=>.n
 | 4=>.c (yfw ⟨slD,hx⟩) (.c (yfw ⟨slD,slA⟩) (.c (yfw ⟨slC,slD⟩) .n))
 | 5=>ync (yAO (n:=40) (by decide) (q_1 (yrW (n:=39) trivial (by decide))) (q_1 (yrW (n:=39) b9 (by decide))) (by decide) (by decide)) (fun _=>by kernel_rfl!) (fun _ _=>by kernel_rfl!) (by rfl') fun _=>Nat.le_add_left 5 5
 | 6=>ync (yBt (n:=40) (by decide) (q_1 (yrW (n:=39) gTh (by decide))) (by decide)) (fun _=>by kernel_rfl!) (fun _ _=>by kernel_rfl!) (by rfl') fun _=>Nat.le_add_left 4 6
 | 7=>.c (yfw ⟨slD,hx⟩) (.c (yfw ⟨slD,slA⟩) (ync (yAO (n:=40) (by decide) (q_1 (yrW (n:=39) ⟨slC,slD⟩ (by decide))) (q_1 (yrW (n:=39) trivial (by decide))) (by decide) (by decide)) (fun _=>by kernel_rfl!) (fun _ _=>by kernel_rfl!) (by rfl') fun _=>Nat.le_add_left 5 5))
 | 8=>ync (yBt (n:=40) (by decide) (q_1 (yrW (n:=39) trivial (by decide))) (by decide)) (fun _=>by kernel_rfl!) (fun _ _=>by kernel_rfl!) (by rfl') fun _=>Nat.le_add_left 4 6
 | 9=>ync (yAO (n:=40) (by decide) (q_1 (yrW (n:=39) gTh (by decide))) q_0 (by decide) (by decide)) (fun _=>by kernel_rfl!) (fun _ _=>by kernel_rfl!) (by rfl') fun _=>Nat.le_add_left 4 6
 | 10=>ync (yAO (n:=40) (by decide) (q_1 (yBt (n:=36) (by decide) (q_1 (yrW (n:=35) trivial (by decide))) (by decide))) (q_1 (yrW (n:=39) b9 (by decide))) (by decide) (by decide)) (fun _=>by kernel_rfl!) (fun _ _=>by kernel_rfl!) (by rfl') fun _=>Nat.le_add_left 8 2
 | _+11=>ync (yBt (n:=40) (by decide) (q_1 (yAO (n:=36) (by decide) (q_1 (yrW (n:=35) gTh (by decide))) q_0 (by decide) (by decide))) (by decide)) (fun _=>by kernel_rfl!) (fun _ _=>by kernel_rfl!) (by rfl') fun _=>Nat.le_add_left 7 3
theorem ynd {a b:Str}(e:a.cps.toList=b.cps.toList):a=b:=by
 cases a;cases b
 exact congrArg _ (Array.toList_inj.mp e)
theorem yxN (a b:Str):(a++b).cps.toList=a.cps.toList++b.cps.toList:=Array.toList_append
theorem yrX (s a b:Str) (r:List Str):Str.join s (a::b::r)=a++s++Str.join s (b::r):=rfl
theorem join_1 (s a:Str):Str.join s [a]=a:=rfl
noncomputable def mS:Nat->Str
 | 0=>"let e 5" | 1=>"plus f e b" | 2=>"less g f a" | 3=>"minus h b f" | 4=>"same e g h" | 5=>"put a f" | _=>"times e b b"
noncomputable def eS (X:Str):Nat->Str
 | 0=>"let d "++X++" ; take c d"
 | 1=>"wait"
 | 2=>"throw low b"
 | 3=>""
 | 4=>"let d "++X++" ; put d a ; take c d"
 | 5=>"either ( wait ) or ( let f 9 )"
 | 6=>"try ( throw low b ) on low c ( )"
 | 7=>"let d "++X++" ; put d a ; either ( take c d ) or ( wait )"
 | 8=>"try ( wait ) on low c ( )"
 | 9=>"either ( throw low b ) or ( )"
 | 10=>"either ( try ( wait ) on low c ( ) ) or ( let f 9 )"
 | _=>"try ( either ( throw low b ) or ( ) ) on low c ( )"
theorem yuA {P:Nat->Prop}(h0:P 0) (h1:P 1) (h2:P 2) (h3:P 3) (h4:P 4) (h5:P 5) (h6:P 6) (h7:P 7) (h8:P 8) (h9:P 9) (h10:P 10) (h11:P 11):∀ w,w<12->P w
 | 0,_=>h0|1,_=>h1|2,_=>h2|3,_=>h3|4,_=>h4|5,_=>h5|6,_=>h6|7,_=>h7|8,_=>h8|9,_=>h9|10,_=>h10|11,_=>h11
 | n+12,h=>absurd h (by omega)
theorem yDa:∀ w,w<12->lgs (eP b w)<=8/\(eP b w).length<=3:=by apply yuA<;>exact ⟨of_decide_eq_true (by kernel_rfl!),of_decide_eq_true (by kernel_rfl!)⟩
theorem yDb {w:Nat}(hw:w<12):eS (tI b) w=Str.join " ; " ((eP b w).map fun p=>Str.join " " p.1.2):=by
 revert hw
 refine yuA (P:=fun w=>eS (tI b) w=Str.join " ; " ((eP b w).map fun p=>Str.join " " p.1.2)) ?_ ?_ ?_ ?_ ?_ ?_ ?_ ?_ ?_ ?_ ?_ ?_ w<;>refine ynd ?_<;>simp only [eS,eP,wR,eQ,tQ,sd,map_cons,map_nil,wl,wr,List.cons_append,List.nil_append,append_nil,yrX,join_1,yxN,append_assoc]<;>kernel_rfl!
theorem yDc:∀ i,mS i=Str.join " " (wR (mdR i))
 | 0|1|2|3|4|5=>by kernel_rfl!
 | _+6=>by kernel_rfl!
def dP (x b:Int) (mid:List Nat) (w:Nat):List Pc:=pl (.let_ "a" x)::pl (.take "b" "a")::(mid.map mP++eP b w)
def dA (X:Str) (mid:List Nat):List Str:=["let a "++X,"take b a"]++mid.map mS
def dS (X Y:Str) (mid:List Nat) (w:Nat):Str:=Str.join " ; " (dA X mid++if w=3 then [] else [eS Y w])
theorem yDd {mid:List Nat}{w:Nat}(hw:w<12):dS (tI x) (tI b) mid w=Str.join " ; " ((dP x b mid w).map fun p=>Str.join " " p.1.2):=by
 have e1:((dP x b mid w).map fun p=>Str.join " " p.1.2)=dA (tI x) mid++((eP b w).map fun p=>Str.join " " p.1.2):=by
  show Str.join " " ["let","a",(tI x)]::Str.join " " ["take","b","a"]::_=_
  rw [map_append,map_map,show mid.map ((fun p:Pc=>Str.join " " p.1.2) ∘ mP)=mid.map mS from List.map_congr_left fun i _=>(yDc i).symm,show Str.join " " ["let","a",(tI x)] = "let a "++(tI x) from ynd (by simp only [yrX,join_1,yxN,append_assoc];kernel_rfl!),show Str.join " " ["take","b","a"] = "take b a" by kernel_rfl!]
  rfl
 unfold dS
 rw [e1]
 by_cases e:w=3
 .subst e;rfl
 .rw [if_neg e,yfR (fun z=>by cases z) (fun z=>by cases z),yfR (b:=(eP b w).map _) (fun z=>by cases z) (fun z=>?_),join_1,yDb hw]
  revert e z
  exact yuA (P:=fun w=>¬w=3->(eP b w).map (fun p=>Str.join " " p.1.2)=[]->False) (by simp [eP]) (by simp [eP]) (by simp [eP]) (by simp) (by simp [eP]) (by simp [eP]) (by simp [eP]) (by simp [eP]) (by simp [eP]) (by simp [eP]) (by simp [eP]) (by simp [eP]) w hw
theorem yAQ:∀ mid:List Nat,lgs (mid.map mP)=mid.length
 | []=>rfl
 | i::m=>by
  show (((1:Nat):Int)::_).sum=_
  rw [List.sum_cons,length_cons]
  have:=yAQ m
  unfold lgs at this
  omega
theorem yAR {mid:List Nat}(hx:0<=x/\x<B64) (hb:0<=b/\b<B64) (hm:mid.length<=9) {w:Nat}(hw:w<12):Rdb (dS (tI x) (tI b) mid w,cat (dP x b mid w) 0++[Rw.lay])/\(dS (tI x) (tI b) mid w).length<=69000:=by
 obtain ⟨e1,e2⟩:=yDa (b:=b) w hw
 have e3:=yAQ mid
 unfold lgs at e1 e3
 refine yvy (.c (yfw ⟨slA,hx⟩) (.c (yfw ⟨yyi,slA⟩) fun p hp=>?_)) (yDd hw) ?_ ?_
 .rcases List.mem_append.mp hp with hp|hp
  .obtain ⟨i,_,rfl⟩:=List.mem_map.mp hp
   exact yfw (yEH i)
  .exact yCZ hb w p hp
 .rw [length_cons,length_append,length_map]
  omega
 .unfold lgs
  rw [map_cons,map_cons,map_append,List.sum_cons,List.sum_cons,List.sum_append,e3]
  show ((1:Nat):Int)+((1:Nat)+(_+_))<=79
  omega
def oS (X Y:Str):Str:="let a "++X++" ; let c "++Y++" ; put a c"
def oR (x n:Int):List Rw:=[.let_ "a" x,.let_ "c" n,.put "a" "c",.lay]
theorem yDe (hx:0<=x/\x<B64) (hb:0<=b/\b<B64):Rdb (oS (tI x) (tI b),oR x b)/\(oS (tI x) (tI b)).length<=69000:=yvy (l:=[pl (.let_ "c" b),pl (.put "a" "c")]) (.c (yfw (r:=.let_ "a" x) ⟨slA,hx⟩) (.c (yfw ⟨slC,hb⟩) (.c (yfw ⟨slA,slC⟩) .n))) (ynd (by simp only [oS,wR,map_cons,map_nil,yrX,join_1,yxN,append_assoc];kernel_rfl!)) (by show 2<=78;decide) (by show ((1:Nat):Int)+((1:Nat)+((1:Nat)+0))<=79;decide)
end
section
variable {w:Int}{s s':RS}{r:Rw}
theorem yov {f:Rw->List Int->List Int}(e:yiV s r f=some s'):s'.sn=s.sn:=by
 unfold yiV at e
 split at e
 .cases e
 .split at e
  .cases e;rfl
  .cases e
theorem yxO (e:ydR w r s=some s'):s'.sn=s.sn:=by
 unfold ydR at e
 split at e
 .cases r with
  | wait=>exact yov e
  | throw a b=>exact yov e
  | take a b =>
   dsimp only at e
   split at e
   .cases e;rfl
   .cases e
  | settle =>
   dsimp only at e
   split at e
   .cases e
   .cases e;rfl
  | reckon v a p q =>
   dsimp only at e
   split at e
   .cases e;rfl
   .cases e
  | lay=>cases e
  | _=>cases e;rfl
 .cases e
end
inductive Kd where|gone|seen (k:Nat)|done|asleep|fell
def yne (m:List (Nat×Int×Int)):Prop:=∃ L,sortI (sK m) (sA m)=some L
def dOk (W:Nat) (d:List Key×List PV):Prop:=∃ ls:List (Nat×Int),sortI d.1 d.2=some (ls.map ydS)/\∀ p∈ls,p.1<W
def Ch (W:Nat) (rws:List Rw):List (Nat×Kd)->RS->Prop
 | [],_=>False
 | (t,k)::p,s=>s.t=t/\okS s=true/\∃ r,rws[t]?=some r/\okR r=true/\match k with
  | .gone=>yef W s r=false/\∃ s',ydR W r s=some s'/\Ch W rws p s'
  | .seen k=>∃ a q,r=.take a q/\yef W s r=true/\s.hs.getD (sx q) 0%(W:Nat)=(k:Nat)/\k<W/\∀ v u,0<=v/\v<B64->Ch W rws p ⟨s.t+1,s.hs.set (sx a) v,s.sd,s.dd,ydi s.sn k v u⟩
  | .asleep=>p=[]/\r=.wait/\yef W s r=true
  | .fell=>p=[]/\yef W s r=true/\yne s.sn/\∃ a q,r=.throw a q
  | .done=>p=[]/\r=.lay/\yne s.sn/\∃ d,s.dd=[d]/\dOk W d
section
variable {W:Nat}{rws:List Rw}{p:List (Nat×Kd)}{s s':RS}{r:Rw}{t:Nat}{a q:Str}{k:Nat}
def nxt (W:Nat) (r:Rw) (s:RS):RS:=(ydR W r s).getD s
theorem Ch.gone (er:rws[t]?=some r) (hc:Ch W rws p (nxt W r s)) (ok:(s.t,okS s && okR r && !(yef W s r) && (ydR W r s).isSome)=(t,true):=by cases dv<;>kernel_rfl!):Ch W rws ((t,.gone)::p) s:=by
 simp only [Prod.mk.injEq,Bool.and_eq_true_iff,Bool.not_eq_true'] at ok
 obtain ⟨et,⟨⟨k1,k2⟩,k3⟩,k4⟩:=ok
 obtain ⟨s',e⟩:=Option.isSome_iff_exists.mp k4
 unfold nxt at hc
 rw [e] at hc
 exact ⟨et,k1,r,er,k2,k3,s',e,hc⟩
theorem Ch.step (er:rws[t]?=some r) (et:s.t=t) (ok:okS s=true) (okr:okR r=true) (lk:yef W s r=false) (e:ydR W r s=some s') (hc:Ch W rws p s'):Ch W rws ((t,.gone)::p) s:=⟨et,ok,r,er,okr,lk,s',e,hc⟩
theorem Ch.own {v:Int}(er:rws[t]?=some (.take a q)) (et:s.t=t) (ok:okS s=true) (okr:okR (.take a q)=true) (o:ymP s W q=.int v) (hc:Ch W rws p ⟨s.t+1,s.hs.set (sx a) v,s.sd,s.dd,s.sn⟩):Ch W rws ((t,.gone)::p) s:=by
 refine Ch.step er et ok okr ?_ ?_ hc
 .show isN (ymP s W q)=false
  rw [o];rfl
 .unfold ydR
  rw [if_pos (by rw [ok,okr];rfl)]
  dsimp only
  rw [o]
theorem Ch.seen (er:rws[t]?=some (.take a q)) (et:s.t=t) (ok:(okS s && okR (.take a q))=true) (o:ymP s W q=.non) (ek:s.hs.getD (sx q) 0%(W:Nat)=(k:Nat)) (hk:k<W) (hc:∀ v u,0<=v/\v<B64->Ch W rws p ⟨s.t+1,s.hs.set (sx a) v,s.sd,s.dd,ydi s.sn k v u⟩):Ch W rws ((t,.seen k)::p) s:=by
 rw [Bool.and_eq_true_iff] at ok
 exact ⟨et,ok.1,_,er,ok.2,_,_,rfl,by show isN (ymP s W q)=true;rw [o];rfl,ek,hk,hc⟩
theorem Ch.asleep (er:rws[t]?=some .wait) (ok:(s.t,okS s && yef W s .wait)=(t,true):=by cases dv<;>kernel_rfl!):Ch W rws [(t,.asleep)] s:=by
 simp only [Prod.mk.injEq,Bool.and_eq_true_iff] at ok
 exact ⟨ok.1,ok.2.1,_,er,rfl,rfl,rfl,ok.2.2⟩
theorem Ch.fell {sn:List (Nat×Int×Int)}(er:rws[t]?=some (.throw a q)) (hs:yne sn) (ok:(s.t,s.sn,okS s && okR (.throw a q) && yef W s (.throw a q))=(t,sn,true):=by cases dv<;>kernel_rfl!):Ch W rws [(t,.fell)] s:=by
 simp only [Prod.mk.injEq,Bool.and_eq_true_iff] at ok
 exact ⟨ok.1,ok.2.2.1.1,_,er,ok.2.2.1.2,rfl,ok.2.2.2,ok.2.1 ▸ hs,_,_,rfl⟩
theorem Ch.done {d:List Key×List PV}{sn:List (Nat×Int×Int)}(er:rws[t]?=some .lay) (hs:yne sn) (hd:dOk W d) (ok:okS s=true:=by cases dv<;>kernel_rfl!) (es:(s.t,s.sn,s.dd)=(t,sn,[d]):=by cases dv<;>kernel_rfl!):Ch W rws [(t,.done)] s:=by
 simp only [Prod.mk.injEq] at es
 exact ⟨es.1,ok,_,er,rfl,rfl,rfl,es.2.1 ▸ hs,d,es.2.2,hd⟩
theorem yrY:∀ m:List (Nat×Int×Int),yqG (sK m)=some (m.map fun p=>(p.1:Int))
 | []=>rfl
 | p::m=>by
  show (yqG (sK m)).map ((p.1:Int)::·)=_
  rw [yrY m]
  rfl
theorem ylv {m:List (Nat×Int×Int)}(h:m.length<3):yne m:=by
 unfold yne sortI
 rw [yrY]
 dsimp only
 rw [if_pos (by rw [length_map];omega)]
 exact ⟨_,rfl⟩
theorem yxP {m:List (Nat×Int×Int)}{k:Nat}{u v:Int}:(ydi m k u v).length<=m.length+1:=by
 unfold ydi
 split
 .rw [length_map];omega
 .simp
theorem yDf:dOk W ([],[]):=⟨[],rfl,fun _ h=>by cases h⟩
theorem yxQ (hW:1<=W) (x:Int):∃ n:Nat,x%(W:Nat)=(n:Nat)/\n<W:=⟨(x%(W:Nat)).toNat,by have:=Int.emod_nonneg x (show ((W:Nat):Int)≠0 by omega);omega,by have:=Int.emod_lt_of_pos x (show (0:Int)<(W:Nat) by omega);omega⟩
theorem yxR {k:Nat}(hk:k<W) {v:Int}:dOk W ([.inl (k:Int)],[.int v]):=⟨[(k,v)],rfl,fun p h=>by rw [List.mem_singleton.mp h];exact hk⟩
theorem yDg {k j:Nat}(hk:k<W) (hj:j<W) {v u:Int}:dOk W ([.inl (k:Int),.inl (j:Int)],[.int v,.int u]):=by
 by_cases e:(j:Int)<(k:Int)
 .refine ⟨[(j,u),(k,v)],?_,fun p h=>by simp at h;rcases h with rfl|rfl<;>assumption⟩
  show some (List.map _ (if _ then _ else _))=_
  rw [if_neg (show ¬(k:Int)<=(j:Int) by omega)]
  rfl
 .refine ⟨[(k,v),(j,u)],?_,fun p h=>by simp at h;rcases h with rfl|rfl<;>assumption⟩
  show some (List.map _ (if _ then _ else _))=_
  rw [if_pos (show (k:Int)<=(j:Int) by omega)]
  rfl
end
noncomputable def eR (b:Int) (m:Nat):Nat->List Rw
 | 0=>[.let_ "d" b,.take "c" "d",.lay]
 | 1=>[.wait,.lay]
 | 2=>[.throw "low" "b",.lay]
 | 3=>[.lay]
 | 4=>[.let_ "d" b,.put "d" "a",.take "c" "d",.lay]
 | 5=>[.either (m+4:Nat),.wait,.settle,.jump (m+5:Nat),.let_ "f" 9,.lay]
 | 6=>[.guard "low" "c" (m+4:Nat),.throw "low" "b",.settle,.jump (m+4:Nat),.lay]
 | 7=>[.let_ "d" b,.put "d" "a",.either (m+6:Nat),.take "c" "d",.settle,.jump (m+7:Nat),.wait,.lay]
 | 8=>[.guard "low" "c" (m+4:Nat),.wait,.settle,.jump (m+4:Nat),.lay]
 | 9=>[.either (m+4:Nat),.throw "low" "b",.settle,.jump (m+4:Nat),.lay]
 | 10=>[.either (m+7:Nat),.guard "low" "c" (m+5:Nat),.wait,.settle,.jump (m+5:Nat),.settle,.jump (m+8:Nat),.let_ "f" 9,.lay]
 | _=>[.guard "low" "c" (m+7:Nat),.either (m+5:Nat),.throw "low" "b",.settle,.jump (m+5:Nat),.settle,.jump (m+7:Nat),.lay]
theorem yDh (b:Int) (m:Nat):∀ w,w<12->cat (eP b w) (m:Nat)++[Rw.lay]=eR b m w:=by
 apply yuA<;>simp [cat,eP,eR]<;>omega
noncomputable def eW (z:Nat) (m:Nat) (wr:Bool):Nat->List (Nat×Kd)
 | 0=>[(m,.gone),(m+1,if wr then .gone else .seen z),(m+2,.done)]
 | 1=>[(m,.asleep)]
 | 2=>[(m,.fell)]
 | 3=>[(m,.done)]
 | 4=>[(m,.gone),(m+1,.gone),(m+2,.gone),(m+3,.done)]
 | 5=>[(m,.gone),(m+1,.gone),(m+4,.gone),(m+5,.done)]
 | 6=>[(m,.gone),(m+1,.gone),(m+4,.done)]
 | 7=>[(m,.gone),(m+1,.gone),(m+2,.gone),(m+3,.gone),(m+4,.gone),(m+5,.gone),(m+7,.done)]
 | 8=>[(m,.gone),(m+1,.asleep)]
 | 9=>[(m,.gone),(m+1,.fell)]
 | 10=>[(m,.gone),(m+1,.gone),(m+2,.gone),(m+7,.gone),(m+8,.done)]
 | _=>[(m,.gone),(m+1,.gone),(m+2,.gone),(m+7,.done)]
def dOf (z:Nat):Option Int->List Key×List PV
 | none=>([],[])
 | some v=>([.inl (z:Int)],[.int v])
def S1 (t:Nat) (hs:List Int) (d:List Key×List PV) (sn:List (Nat×Int×Int)):RS:=⟨t,hs,[],[d],sn⟩
section
variable {W m:Nat}{x b c d e f g h y:Int}{z i:Nat}{wr:Bool}{sn:List (Nat×Int×Int)}{rws:List Rw}{dv:Option Int}
theorem yrZ (hi:i<W):dOk W (dOf i dv):=by
 cases dv
 .exact yDf
 .exact yxR hi
theorem yAS (hsn:sn.length<2) (hi:i<W):∀ w,w<12->(∀ k,rws[m+k]?=(eR y m w)[k]?)->(w=0\/w=4\/w=7)\/Ch W rws (eW z m wr w) (S1 m [x,b,c,d,e,f,g,h] (dOf i dv) sn):=by
 have so:yne sn:=ylv (by omega)
 have dk:dOk W (dOf i dv):=yrZ hi
 apply yuA<;>intro hr
 .exact .inl (by decide)
 .exact .inr <| Ch.asleep (hr 0)
 .exact .inr <| Ch.fell (hr 0) so
 .exact .inr <| Ch.done (hr 0) so dk
 .exact .inl (by decide)
 .exact .inr <| Ch.gone (hr 0) <| Ch.gone (hr 1) <| Ch.gone (hr 4) <| Ch.done (hr 5) so dk
 .exact .inr <| Ch.gone (hr 0) <| Ch.gone (hr 1) <| Ch.done (hr 4) so dk
 .exact .inl (by decide)
 .exact .inr <| Ch.gone (hr 0) <| Ch.asleep (hr 1)
 .exact .inr <| Ch.gone (hr 0) <| Ch.fell (hr 1) so
 .exact .inr <| Ch.gone (hr 0) <| Ch.gone (hr 1) <| Ch.gone (hr 2) <| Ch.gone (hr 7) <| Ch.done (hr 8) so dk
 .exact .inr <| Ch.gone (hr 0) <| Ch.gone (hr 1) <| Ch.gone (hr 2) <| Ch.done (hr 7) so dk
theorem yuB (hz:z<W):((z:Nat):Int)%(W:Nat)=(z:Nat):=Int.emod_eq_of_lt (by omega) (by omega)
theorem yvz (hi:i<W) (hz:z<W):∃ d',ygE [dOf i dv] (z:Nat) x=[d']/\d'.1.length<400/\yhw d'.1 d'.2 (.inl (z:Nat))=some (.int x)/\dOk W d':=by
 have self:∀ {v:Int},yhw [.inl (z:Int)] [.int v] (.inl (z:Int))=some (.int v):=fun {v}=>by
  show (if (Sum.inl (z:Int):Key)=.inl (z:Int) then some (PV.int v) else none)=_
  rw [if_pos rfl]
 cases dv with
 | none=>exact ⟨([.inl (z:Int)],[.int x]),rfl,by show 1<400;omega,self,yxR hz⟩
 | some v =>
  by_cases e:(Sum.inl (i:Int):Key)=.inl (z:Int)
  .have:i=z:=by have:=Sum.inl.inj e;omega
   subst this
   refine ⟨([.inl (i:Int)],[.int x]),?_,by show 1<400;omega,self,yxR hz⟩
   show [if (if (Sum.inl (i:Int):Key)=.inl (i:Int) then true else false)=true then (([.inl (i:Int)],if (Sum.inl (i:Int):Key)=.inl (i:Int) then _ else _):List Key×List PV) else _]=_
   rw [if_pos (by rw [if_pos rfl]),if_pos rfl]
   rfl
  .refine ⟨([.inl (i:Int),.inl (z:Int)],[.int v,.int x]),?_,by show 2<400;omega,?_,yDg hi hz⟩
   .show [if (if (Sum.inl (i:Int):Key)=.inl (z:Int) then true else false)=true then _ else (([.inl (i:Int)]++[.inl (z:Int)],[PV.int v]++[PV.int x]):List Key×List PV)]=_
    rw [if_neg (by rw [if_neg e];decide)]
    rfl
   .show (if (Sum.inl (i:Int):Key)=.inl (z:Int) then _ else yhw [.inl (z:Int)] [.int x] (.inl (z:Int)))=_
    rw [if_neg e]
    exact self
theorem e_0 (hsn:sn.length<2) (hi:i<W) (hz:z<W) (hr:∀ k,rws[m+k]?=(eR (z:Nat) m 0)[k]?):Ch W rws (eW z m (dv.isSome && decide (z=i)) 0) (S1 m [x,b,c,d,e,f,g,h] (dOf i dv) sn):=by
 refine Ch.gone (hr 0) ?_
 rw [show nxt W (.let_ "d" (z:Nat)) (S1 m [x,b,c,d,e,f,g,h] (dOf i dv) sn)=S1 (m+1) [x,b,c,(z:Nat),e,f,g,h] (dOf i dv) sn by cases dv<;>kernel_rfl!]
 have hO:ymP (S1 (m+1) [x,b,c,(z:Nat),e,f,g,h] (dOf i dv) sn) W "d" = match yhw (dOf i dv).1 (dOf i dv).2 (.inl (z:Nat)) with|some x=>x|none=>.non:=by
  show (match yhw (dOf i dv).1 (dOf i dv).2 (.inl ((z:Nat)%(W:Nat))) with|some x=>x|none=>PV.non)=_
  rw [yuB hz]
 have go:ymP (S1 (m+1) [x,b,c,(z:Nat),e,f,g,h] (dOf i dv) sn) W "d" = .non->Ch W rws [(m+1,.seen z),(m+2,.done)] (S1 (m+1) [x,b,c,(z:Nat),e,f,g,h] (dOf i dv) sn):=fun o =>
  Ch.seen (hr 1) rfl (by cases dv<;>kernel_rfl!) o (yuB hz) hz fun v u _=>Ch.done (hr 2) (ylv (m:=ydi sn z v u) (by have:=yxP (m:=sn) (k:=z) (u:=v) (v:=u);omega)) (yrZ (dv:=dv) hi)
 cases dv with
 | none=>exact go hO
 | some v =>
  have hO':ymP (S1 (m+1) [x,b,c,(z:Nat),e,f,g,h] (dOf i (some v)) sn) W "d" = match (if (Sum.inl (i:Int):Key)=.inl (z:Nat) then some (PV.int v) else none) with|some x=>x|none=>.non:=hO
  by_cases e':z=i
  .subst e'
   rw [if_pos rfl] at hO'
   rw [show ((some v).isSome && decide (z=z))=true by simp]
   exact Ch.own (hr 1) rfl (by kernel_rfl!) (by kernel_rfl!) hO' (Ch.done (hr 2) (ylv (by show sn.length<3;omega)) (yrZ (dv:=some v) hi) (by kernel_rfl!) rfl)
  .rw [if_neg (by simp;omega)] at hO'
   rw [show ((some v).isSome && decide (z=i))=false by simp [e']]
   exact go hO'
theorem yxS {t:Nat}{d':List Key×List PV}(hl:d'.1.length<400):okS (S1 t [x,b,c,d,e,f,g,h] d' sn)=true:=by simp [okS,S1,hl]
theorem e_4 (hsn:sn.length<2) (hi:i<W) (hz:z<W) (hr:∀ k,rws[m+k]?=(eR (z:Nat) m 4)[k]?):Ch W rws (eW z m wr 4) (S1 m [x,b,c,d,e,f,g,h] (dOf i dv) sn):=by
 refine Ch.gone (hr 0) ?_
 rw [show nxt W (.let_ "d" (z:Nat)) (S1 m [x,b,c,d,e,f,g,h] (dOf i dv) sn)=S1 (m+1) [x,b,c,(z:Nat),e,f,g,h] (dOf i dv) sn by cases dv<;>kernel_rfl!]
 refine Ch.gone (hr 1) ?_
 obtain ⟨d',p1,p2,p3,p4⟩:=yvz (x:=x) (dv:=dv) hi hz
 rw [show nxt W (.put "d" "a") (S1 (m+1) [x,b,c,(z:Nat),e,f,g,h] (dOf i dv) sn)=⟨m+2,[x,b,c,(z:Nat),e,f,g,h],[],ygE [dOf i dv] ((z:Nat)%(W:Nat)) x,sn⟩ by cases dv<;>kernel_rfl!,yuB hz,p1]
 refine Ch.own (v:=x) (hr 2) rfl (yxS p2) (by kernel_rfl!) ?_ (Ch.done (hr 3) (ylv (by show sn.length<3;omega)) p4 (yxS p2) rfl)
 show (match yhw d'.1 d'.2 (.inl ((z:Nat)%(W:Nat))) with|some x=>x|none=>PV.non)=_
 rw [yuB hz,p3]
theorem yDi {t:Nat}{k:Nat}{d':List Key×List PV}(hl:d'.1.length<400):okS ⟨t,[x,b,c,d,e,f,g,h],[(.either (k:Nat),[x,b,y,d,e,f,g,h])],[d',([],[])],sn⟩=true:=by simp [okS,hl,ymO,okR]
theorem yow {s:RS}{k:Nat}(ok:okS s=true):ydR W (.either (k:Nat)) s=some ⟨s.t+1,s.hs,s.sd++[(.either (k:Nat),s.hs)],s.dd++[([],[])],s.sn⟩/\ydR W (.jump (k:Nat)) s=some ⟨k,s.hs,s.sd,s.dd,s.sn⟩:=by
 constructor
 .unfold ydR
  rw [if_pos (by rw [ok];rfl)]
 .unfold ydR
  rw [if_pos (by rw [ok];rfl)]
  rfl
theorem e_7 (hsn:sn.length<2) (hi:i<W) (hz:z<W) (hr:∀ k,rws[m+k]?=(eR (z:Nat) m 7)[k]?):Ch W rws (eW z m wr 7) (S1 m [x,b,c,d,e,f,g,h] (dOf i dv) sn):=by
 refine Ch.gone (hr 0) ?_
 rw [show nxt W (.let_ "d" (z:Nat)) (S1 m [x,b,c,d,e,f,g,h] (dOf i dv) sn)=S1 (m+1) [x,b,c,(z:Nat),e,f,g,h] (dOf i dv) sn by cases dv<;>kernel_rfl!]
 refine Ch.gone (hr 1) ?_
 obtain ⟨d',p1,p2,p3,p4⟩:=yvz (x:=x) (dv:=dv) hi hz
 rw [show nxt W (.put "d" "a") (S1 (m+1) [x,b,c,(z:Nat),e,f,g,h] (dOf i dv) sn)=⟨m+2,[x,b,c,(z:Nat),e,f,g,h],[],ygE [dOf i dv] ((z:Nat)%(W:Nat)) x,sn⟩ by cases dv<;>kernel_rfl!,yuB hz,p1]
 refine Ch.step (hr 2) rfl (yxS p2) (by kernel_rfl!) (by kernel_rfl!) (yow (yxS p2)).1 ?_
 refine Ch.own (v:=x) (hr 3) rfl (yDi p2) (by kernel_rfl!) ?_ (Ch.step (s':=⟨m+5,[x,b,x,(z:Nat),e,f,g,h],[],[d'],sn⟩) (hr 4) rfl (yDi p2) (by kernel_rfl!) (by kernel_rfl!) ?_ (Ch.step (hr 5) rfl (yxS p2) (by kernel_rfl!) (by kernel_rfl!) (yow (yxS p2)).2 (Ch.done (hr 7) (ylv (by show sn.length<3;omega)) p4 (yxS p2) rfl)))
 .show (match yhw d'.1 d'.2 (.inl ((z:Nat)%(W:Nat))) with|some x=>x|none=>PV.non)=_
  rw [yuB hz,p3]
 .unfold ydR
  exact (if_pos (Bool.and_eq_true_iff.mpr ⟨rfl,yDi p2⟩)).trans rfl
theorem yDj (hsn:sn.length<2) (hi:i<W) (hz:z<W) {w:Nat}(hw:w<12) (hr:∀ k,rws[m+k]?=(eR (z:Nat) m w)[k]?):Ch W rws (eW z m (dv.isSome && decide (z=i)) w) (S1 m [x,b,c,d,e,f,g,h] (dOf i dv) sn):=by
 rcases yAS (z:=z) (wr:=dv.isSome && decide (z=i)) hsn hi w hw hr with (rfl|rfl|rfl)|q
 .exact e_0 hsn hi hz hr
 .exact e_4 hsn hi hz hr
 .exact e_7 hsn hi hz hr
 .exact q
end
theorem ysa {E:List Pc}:∀ (mid:List Nat) (f:Nat),cat (mid.map mP++E) (f:Nat)=mid.map mdR++cat E ((f+mid.length:Nat))
 | [],f=>rfl
 | i::mid,f=>by
  show (mP i).2 f++cat (mid.map mP++E) ((f:Int)+(((mP i).2 f).length:Nat))=_
  rw [show (mP i).2 f=[mdR i] from rfl,show (f:Int)+(([mdR i]:List Rw).length:Nat)=((f+1:Nat):Int) from rfl,ysa mid (f+1),show f+1+mid.length=f+(i::mid).length by rw [length_cons];omega]
  rfl
def mW:Nat->Nat->List (Nat×Kd)
 | _,0=>[]
 | t,n+1=>(t,.gone)::mW (t+1) n
def inB (v:Int):Prop:=0<=v/\v<B64
theorem yuC {w:Str}{x y:Int}:inB (rk w x y):=by
 unfold rk inB
 have:=yre (x+y) (show (0:Int)<B64 by decide)
 have:=yre (x-y) (show (0:Int)<B64 by decide)
 have:=yre (x*y) (show (0:Int)<B64 by decide)
 repeat' split
 all_goals first|assumption|exact ⟨by decide,by decide⟩
section
variable {W:Nat}{sn:List (Nat×Int×Int)}{rws:List Rw}{i:Nat}{p:List (Nat×Kd)}
theorem yhT {s:RS}{v a p q:Str}(ok:okS s=true) (okr:okR (.reckon v a p q)=true) (hx:inB (s.hs.getD (sx p) 0)):ydR W (.reckon v a p q) s=some ⟨s.t+1,s.hs.set (sx a) (rk v (s.hs.getD (sx p) 0) (s.hs.getD (sx q) 0)),s.sd,s.dd,s.sn⟩:=by
 unfold ydR
 rw [if_pos (by rw [ok,okr];rfl)]
 exact if_pos hx
theorem ygH (hi:i<W) {m:Nat}{D:Bool}(hend:∀ b e f g h dv,inB b->dv.isSome=D->Ch W rws p (S1 m [(i:Nat),b,0,0,e,f,g,h] (dOf i dv) sn)):∀ (mid:List Nat) (t:Nat) (b e f g h:Int) (dv:Option Int) (rest:List Rw),t+mid.length=m->inB b->inB e->inB f->inB g->(dv.isSome || mid.any (· == 5))=D->(∀ k,rws[t+k]?=(mid.map mdR++rest)[k]?) ->
  Ch W rws (mW t mid.length++p) (S1 t [(i:Nat),b,0,0,e,f,g,h] (dOf i dv) sn)
 | [],t,b,e,f,g,h,dv,rest,et,hb,_,_,_,hD,hr=>by
  have:t=m:=et
  subst this
  exact hend b e f g h dv hb (by simpa using hD)
 | j::mid,t,b,e,f,g,h,dv,rest,et,hb,he,hf,hg,hD,hr=>by
  have hr':∀ k,rws[t+1+k]?=(mid.map mdR++rest)[k]?:=fun k=>by rw [add_assoc,Nat.add_comm 1 k];exact hr (k+1)
  have et':t+1+mid.length=m:=by rw [<- et,length_cons];omega
  have okk:okS (S1 t [(i:Nat),b,0,0,e,f,g,h] (dOf i dv) sn)=true:=by cases dv<;>kernel_rfl!
  have r0:=hr 0
  have hD':j≠5->(dv.isSome || mid.any (· == 5))=D:=fun hj=>by
   rw [<- hD,any_cons,show (j == 5)=false by simp [hj],Bool.false_or]
  rw [length_cons]
  show Ch W rws ((t,.gone)::(mW (t+1) mid.length++p)) _
  match j,r0,hD',hD with
  | 0,r0,hD',_=>exact Ch.step r0 rfl okk (by kernel_rfl!) rfl (show ydR W (mdR 0) _=some (S1 (t+1) [(i:Nat),b,0,0,5,f,g,h] (dOf i dv) sn) by cases dv<;>kernel_rfl!) (ygH hi hend mid (t+1) b 5 f g h dv rest et' hb ⟨by decide,by decide⟩ hf hg (hD' (by decide)) hr')
  | 1,r0,hD',_=>exact Ch.step r0 rfl okk (by kernel_rfl!) rfl (yhT okk (by kernel_rfl!) he) (ygH hi hend mid (t+1) b e _ g h dv rest et' hb he yuC hg (hD' (by decide)) hr')
  | 2,r0,hD',_=>exact Ch.step r0 rfl okk (by kernel_rfl!) rfl (yhT okk (by kernel_rfl!) hf) (ygH hi hend mid (t+1) b e f _ h dv rest et' hb he hf yuC (hD' (by decide)) hr')
  | 3,r0,hD',_=>exact Ch.step r0 rfl okk (by kernel_rfl!) rfl (yhT okk (by kernel_rfl!) hb) (ygH hi hend mid (t+1) b e f g _ dv rest et' hb he hf hg (hD' (by decide)) hr')
  | 4,r0,hD',_=>exact Ch.step r0 rfl okk (by kernel_rfl!) rfl (yhT okk (by kernel_rfl!) hg) (ygH hi hend mid (t+1) b _ f g h dv rest et' hb yuC hf hg (hD' (by decide)) hr')
  | 5,r0,_,hD =>
   refine Ch.step r0 rfl okk (by kernel_rfl!) rfl (s':=S1 (t+1) [(i:Nat),b,0,0,e,f,g,h] (dOf i (some f)) sn) ?_ (ygH hi hend mid (t+1) b e f g h (some f) rest et' hb he hf hg (by rw [<- hD];simp) hr')
   have:ydR W (mdR 5) (S1 t [(i:Nat),b,0,0,e,f,g,h] (dOf i dv) sn)=some ⟨t+1,[(i:Nat),b,0,0,e,f,g,h],[],ygE [dOf i dv] ((i:Nat)%(W:Nat)) f,sn⟩:=by cases dv<;>kernel_rfl!
   rw [this,yuB hi]
   cases dv with
   | none=>rfl
   | some v =>
    show some (RS.mk _ _ _ [if (if (Sum.inl (i:Int):Key)=.inl (i:Int) then true else false)=true then (([.inl (i:Int)],if (Sum.inl (i:Int):Key)=.inl (i:Int) then _ else _):List Key×List PV) else _] _)=_
    rw [if_pos (by rw [if_pos rfl]),if_pos rfl]
    rfl
  | n+6,r0,hD',_=>exact Ch.step r0 rfl okk (show okR (mdR (n+6))=true by kernel_rfl!) rfl (yhT (W:=W) (v:="times") okk (by kernel_rfl!) hb) (ygH hi hend mid (t+1) b _ f g h dv rest et' hb yuC hf hg (hD' (by omega)) hr')
def dW (i z:Nat) (mid:List Nat) (w:Nat):List (Nat×Kd):=(0,.gone)::(1,.seen i)::(mW 2 mid.length++eW z (2+mid.length) (mid.any (· == 5) && decide (z=i)) w)
def dR (i z:Nat) (mid:List Nat) (w:Nat):List Rw:=cat (dP (i:Nat) (z:Nat) mid w) 0++[Rw.lay]
theorem yxT {z:Nat}{mid:List Nat}{w:Nat}(hw:w<12):dR i z mid w=.let_ "a" (i:Nat)::.take "b" "a"::(mid.map mdR++eR (z:Nat) (2+mid.length) w):=by
 unfold dR dP
 show (Rw.let_ "a" (i:Nat))::.take "b" "a"::cat (mid.map mP++eP (z:Nat) w) ((2:Nat):Int)++[Rw.lay]=_
 rw [ysa,<- yDh _ _ w hw]
 simp only [List.cons_append,append_assoc]
theorem yxU {z:Nat}{mid:List Nat}{w:Nat}(hi:i<W) (hz:z<W) (hw:w<12):Ch W (dR i z mid w) (dW i z mid w) (S0 [0,0,0,0,0,0,0,0]):=by
 have hr:∀ k,(dR i z mid w)[2+k]?=(mid.map mdR++eR (z:Nat) (2+mid.length) w)[k]?:=fun k=>by rw [yxT hw,Nat.add_comm 2 k];rfl
 have r0:(dR i z mid w)[0]?=some (.let_ "a" (i:Nat)):=by rw [yxT hw];rfl
 have r1:(dR i z mid w)[1]?=some (.take "b" "a"):=by rw [yxT hw];rfl
 refine Ch.gone r0 ?_ (by kernel_rfl!)
 rw [show nxt W (.let_ "a" (i:Nat)) (S0 [0,0,0,0,0,0,0,0])=S1 1 [(i:Nat),0,0,0,0,0,0,0] (dOf i none) [] by kernel_rfl!]
 refine Ch.seen r1 rfl (by kernel_rfl!) (by kernel_rfl!) (yuB hi) hi fun v u hv=>?_
 have z0:inB 0:=⟨by decide,by decide⟩
 refine ygH (m:=2+mid.length) (D:=mid.any (· == 5)) (sn:=[(i,v,u)]) hi (fun b e f g h dv _ hD=>?_) mid 2 v 0 0 0 0 none _ rfl hv z0 z0 z0 (by simp) hr
 rw [<- hD]
 refine yDj (by show 1<2;omega) hi hz hw fun k=>?_
 rw [add_assoc,hr,getElem?_append_right (by rw [length_map];omega),length_map,Nat.add_sub_cancel_left]
end
section
variable {h:AH}{w:Int}{g:HC}{bx sp:List Int}{en:List PV}{as as1 as2:List (Nat×Lc)}{xs xs1 xs2:List HD}{a:Nat×Lc}{x x':HD}{own m:List (Nat×Nd)}
theorem HH.upd {o1 o2:List (Nat×Nd)}{n:Nat}{d:Nd}(d':Nd) (X:HH h g w bx sp en as xs (o1++(n,d)::o2)):HH (h.set n d') g w bx sp en as xs (o1++(n,d')::o2):=by
 refine ⟨?_,X.ly⟩
 have A:=X.at_
 rw [yex (m:=_++_::_),<- append_assoc,<- append_assoc] at A
 rw [yex (m:=_++_::_),<- append_assoc,<- append_assoc]
 exact At.upd d' A
theorem HH.new (d:Nd) (X:HH h g w bx sp en as xs own):HH (h++[d]) g w bx sp en as xs ((h.length,d)::own):=by
 refine ⟨?_,X.ly⟩
 have A:=X.at_
 rw [yex,<- append_assoc] at A
 rw [yex,<- append_assoc]
 exact At.new d A
theorem HH.get (X:HH h g w bx sp en as xs own) (i:Nat) {n:Nat}{d:Nd}(e:own[i]?=some (n,d)):h[n]?=some d:=by
 have A:=X.at_
 rw [yex,<- append_assoc] at A
 exact A.2 (n,d) (mem_append_right _ (mem_of_getElem? e))
theorem ynf {xs ys:List PV}(e:ygw (eqP 40 h) xs ys=some true) (hl:xs.length=ys.length):ynU (.tup xs) (.tup ys) h=some (.bl false,h):=by
 unfold ynU pairE
 simp only [e,hl]
 simp
end
def X0 (rws:List Rw) (s:RS):HD:=⟨[.lst (rws.map yV)],0,false,Z8,rws.map yV,s⟩
def oH (z:Nat) (v:Int):List Int:=[(z:Nat),0,v,0,0,0,0,0]
def oE (z:Nat) (v:Int):PV:=.tup [.int 1,.int 0,.tup [.str "done"],.lst [],.lst [ydS (z,v)],.lst ((oH z v).map .int)]
def X1e (z:Nat) (v:Int):HD:=⟨[.lst ((oR (z:Nat) v).map yV)],1,false,oH z v,[],S0 (oH z v)⟩
section
variable {h:AH}{W:Nat}{g:HC}{bx sp:List Int}{en:List PV}{x0 x1:HD}{own:List (Nat×Nd)}{z:Nat}{v:Int}{a0 a1:Nat×Lc}
theorem yng {rws:List Rw}{s s':RS}{r:Rw}{t:Nat}{v1 v2 v3:PVar}(hW:bx.length=W) (h1:1<=W) (X:HH h g W bx sp en [a0,a1] [x0,X0 rws s] own) (er:rws[s.t]?=some r) (et:s.t=t) (ok:(okS s && okR r)=true) (lk:yef W s r=false) (e:ydR W r s=some s') :
  ∃ h' c',ogB [.val (.loc g.H),v1,v2,v3,.val (.int (t:Nat))] h=some (.nx [.val (.loc g.H),v1,v2,v3,.val (.int (t:Nat))],h')/\HH h' g W bx sp en [a0,(a1.1,c')] [x0,X0 rws s'] own:=by
 subst hW et
 obtain ⟨k1,k2⟩:=Bool.and_eq_true_iff.mp ok
 obtain ⟨h',c',q,X'⟩:=yAG (as1:=[a0]) (xs1:=[x0]) (as2:=[]) (xs2:=[]) X rfl h1 rfl (by show 0<1;omega) rfl er k1 k2 lk e
 have q':yx [.loc g.H,.int 1] h=some (.tup [.str "gone",.int s.t],h'):=q
 have n1:=ynf (h:=h') (xs:=[.str "gone",.int (s.t:Nat)]) (ycc ymX (ycc ygR rfl)) rfl
 refine ⟨h',c',?_,X'⟩
 unfold ogB
 simp_all? only [yct,yE (m:="turn") (X.at_.get 0 rfl) (by rfl'),q',n1]
theorem ype (hW:bx.length=W) (hs:sp.length=W) (h1:1<=W) (hz:z<W) (he:en.length<1000) (h0:yxK W x0) (hsl:x0.sl=false) {nb i:Nat}{o1 o2:List (Nat×Nd)}(X:HH h g W bx sp en [a0,a1] [x0,X0 (oR (z:Nat) v) (S0 Z8)] (o1++(nb,.lst (bx.map .int))::o2)) :
  ∃ h' b0 b1,ycs [.loc g.H,.int (z:Nat),.loc nb,.int v] h=some (.bl true,h')/\HH h' g W (bx.set z v) (yiW sp [(z,v)]) (en++[oE z v]) [b0,b1] [x0,X1e z v] (o1++(nb,.lst ((bx.set z v).map .int))::o2):=by
 obtain ⟨k1,c1,e1,X1⟩:=yng (t:=0) (v1:=.val (.int (z:Nat))) (v2:=.val (.loc nb)) (v3:=.val (.int v)) (s':=⟨1,[(z:Nat),0,0,0,0,0,0,0],[],[([],[])],[]⟩) hW h1 X rfl rfl (by kernel_rfl!) (by kernel_rfl!) (by kernel_rfl!)
 obtain ⟨k2,c2,e2,X2⟩:=yng (t:=1) (v1:=.val (.int (z:Nat))) (v2:=.val (.loc nb)) (v3:=.val (.int v)) (s':=⟨2,oH z v,[],[([],[])],[]⟩) hW h1 X1 rfl rfl (by kernel_rfl!) (by kernel_rfl!) (by kernel_rfl!)
 obtain ⟨k3,c3,e3,X3⟩:=yng (t:=2) (v1:=.val (.int (z:Nat))) (v2:=.val (.loc nb)) (v3:=.val (.int v)) (s':=⟨3,oH z v,[],[([.inl ((z:Nat)%(W:Nat))],[.int v])],[]⟩) hW h1 X2 rfl rfl (by kernel_rfl!) (by kernel_rfl!) (by kernel_rfl!)
 rw [yuB hz] at X3
 subst hW
 obtain ⟨k4,as',e4,X4,ea⟩:=yAH (as1:=[a0]) (xs1:=[x0]) (as2:=[]) (xs2:=[]) (rows':=[]) (L:=[]) (ls:=[(z,v)]) X3 rfl hs h1 rfl (by show 0<1;omega) rfl ⟨List.nodup_nil,fun p hp=>(by cases hp),by show 0<=900;omega⟩ rfl rfl (by kernel_rfl!) rfl rfl (fun p hp=>by rw [List.mem_singleton.mp hp];exact hz) rfl (.inr ⟨rfl,rfl⟩) he (fun y hy=>by rw [List.mem_singleton.mp hy];exact h0)
 have e4':yx [.loc g.H,.int 1] k3=some (.tup [.str "done",.int 3],k4):=e4
 obtain ⟨b0,b1,rfl⟩:∃ b0 b1,as'=[b0,b1]:=by
  match as',ea with
  | [b0,b1],_=>exact ⟨_,_,rfl⟩
 have X4':HH k4 g bx.length (bx.set z v) (yiW sp [(z,v)]) (en++[oE z v]) [b0,b1] [x0,X1e z v] (o1++(nb,.lst (bx.map .int))::o2):=by
  have w0:yfv (yiW sp [(z,v)]) x0=x0:=by unfold yfv asB;rw [hsl];simp
  have:HH k4 g bx.length (bx.set z v) (yiW sp [(z,v)]) (en++[oE z v]) [b0,b1] [yfv (yiW sp [(z,v)]) x0,X1e z v] (o1++(nb,.lst (bx.map .int))::o2):=X4
  rw [w0] at this
  exact this
 have gb:=X4'.get o1.length (by rw [getElem?_append_right (Nat.le_refl _),sub_self];rfl)
 have X5:=X4'.upd (o1:=o1) (o2:=o2) (.lst ((bx.set z v).map .int))
 have bo:=yAI X5
 refine ⟨_,b0,b1,?_,X5⟩
 have st:=ymW (h:=k4) (xs:=bx) (k:=z) (v:=v) (eo:=ye 2) (ei:=ye 1) (ev:=ye 3) (ρ:=[.val (.loc g.H),.val (.int (z:Nat)),.val (.loc nb),.val (.int v),.val (.int 2)]) rfl rfl rfl gb hz
 have n1:=ynf (h:=k4) (xs:=[.str "done",.int 3]) (ycc ymX (ycc ygR rfl)) rfl
 have n2:=yuw (xs:=bx.set z v) (X5.get o1.length (by rw [getElem?_append_right (Nat.le_refl _),sub_self];rfl))
 have lp:ygk (yt 4) ogB (ygh 0 3) [.val (.loc g.H),.val (.int (z:Nat)),.val (.loc nb),.val (.int v),.no] h=some (.nx [.val (.loc g.H),.val (.int (z:Nat)),.val (.loc nb),.val (.int v),.val (.int 2)],k3):=by
  show ygk (yt 4) ogB [.int 0,.int 1,.int 2] _ h=_
  rw [ygQ rfl e1,ygQ rfl e2,ygQ rfl e3]
  rfl
 have i1:∀ ρ,yms (yb (xC (.int 3)) (yh)) ρ h=some (ygh 0 3,h):=fun ρ=>rfl
 unfold ycs
 rw [yp]
 show ob (ym (yqg _ (yt 4) ogB) _ [.val (.loc g.H),.val (.int (z:Nat)),.val (.loc nb),.val (.int v),.no] h) fnK=_
 simp_all? only [i1,lp,yct,yE (m:="turn") (X3.at_.get 0 rfl) (by rfl'),e4',n1,st,yE (m:="boxes") (X5.at_.get 0 rfl) (by rfl'),bo,n2]
end
def kdS:Kd->Str|.gone=>"gone" | .seen _=>"seen" | .done=>"done" | .asleep=>"asleep" | .fell=>"fell"
def kdV (q:Nat×Kd):PV:=.tup (.int (q.1:Nat)::.str (kdS q.2)::match q.2 with|.seen k=>[.int (k:Nat)]|_=>[])
def yEj:Kd->Bool|.seen _=>true|_=>false
section
variable {h:AH}{nb:Nat}{q:Nat×Kd}
theorem yjY {xs:List PV}{i:Nat}{x:PV}(e:xs[i]?=some x):ycu (.lst xs) (.int (i:Nat)) h=some (x,h):=by
 unfold ycu
 simp only [ydw e]
theorem ysb (hq:yEj q.2=false):ycY [.tup [.str (kdS q.2),.int (q.1:Nat)],kdV q,.loc nb] h=some (.bl true,h):=by
 obtain ⟨t,k⟩:=q
 have e1:=yrO (h:=h) (xs:=[.str (kdS k),.int (t:Nat)]) (ycc ymX (ycc ygR rfl)) rfl
 have e2:ykh yeG [.tup [.str (kdS k),.int (t:Nat)],.ty "tuple"] h=some (.bl true,h):=by cases k<;>kernel_rfl!
 unfold ycY
 rw [yp]
 show ob (ym _ _ [.val (.tup [.str (kdS k),.int (t:Nat)]),.val (kdV (t,k)),.val (.loc nb)] h) fnK=_
 have i0:ybb (kdV (t,k)) (.int 0) h=some (.int (t:Nat),h):=by cases k<;>rfl
 have i1:ybb (kdV (t,k)) (.int 1) h=some (.str (kdS k),h):=by cases k<;>rfl
 have i2:oEq (.str (kdS k)) (.str "seen") h=some (.bl false,h):=by cases k<;>first|kernel_rfl!|cases hq
 simp_all? only [i0,i1,i2,e1,e2]
theorem ysc {bx:List Int}{t k:Nat}(e:h[nb]?=some (.lst (bx.map .int))) (hk:k<bx.length):ycY [.tup [.str "seen",.int (t:Nat),.int (k:Nat),.int (bx.getD k 0)],kdV (t,.seen k),.loc nb] h=some (.bl true,h):=by
 have e1:=yrO (h:=h) (xs:=[.str "seen",.int (t:Nat),.int (k:Nat),.int (bx.getD k 0)]) (ycc ymX (ycc ygR (ycc ygR (ycc ygR rfl)))) rfl
 unfold ycY
 rw [yp]
 show ob (ym _ _ [.val (.tup [.str "seen",.int (t:Nat),.int (k:Nat),.int (bx.getD k 0)]),.val (kdV (t,.seen k)),.val (.loc nb)] h) fnK=_
 have i0:ybb (kdV (t,.seen k)) (.int 0) h=some (.int (t:Nat),h):=rfl
 have i1:ybb (kdV (t,.seen k)) (.int 1) h=some (.str "seen",h):=rfl
 have i2:ybb (kdV (t,.seen k)) (.int 2) h=some (.int (k:Nat),h):=rfl
 have i3:=yes e hk
 simp_all? only [i0,i1,i2,i3,e1]
end
def gR (H:Nat) (P:List PV) (nb:Nat) (sl:Int) (z:Nat) (v:Int) (st:Bool) (ns:Nat) (v7 v8:PVar):PSt:=[.val (.loc H),.val (.lst P),.val (.loc nb),.val (.int sl),.val (.tup [.int (z:Nat),.int v]),.val (.bl st),.val (.loc ns),v7,v8]
def yjZ (l:List Nat):Nd:=.lst (l.map fun j:Nat=>.int (j:Nat))
section
variable {h:AH}
theorem yAT {neg:Bool}{k:Nat}{l:List Nat}:yqE neg (.int (k:Nat)) (.lst (l.map fun j:Nat=>.int (j:Nat))) h=some (.bl (if neg then !decide (k∈l) else decide (k∈l)),h):=by
 have e1:∀ l:List Nat,svs (l.map fun j:Nat=>PV.int (j:Nat))=some (l.map fun j:Nat=>V.int (j:Nat)):=by
  intro l
  induction l with
  | nil=>rfl
  | cons a l ih =>
   show (match sv (PV.int (a:Nat)),svs (l.map fun j:Nat=>PV.int (j:Nat)) with|some v,some vs=>some (v::vs)|_,_=>none)=_
   rw [ih]
   rfl
 have e2:inV (.int (k:Nat)) (l.map fun j:Nat=>V.int (j:Nat))=decide (k∈l):=by
  unfold inV
  rw [List.any_map,Bool.eq_iff_iff,List.any_eq_true,decide_eq_true_iff]
  constructor
  .rintro ⟨j,hj,e⟩
   have:((j:Nat):Int)=(k:Nat):=by simpa [eqV] using e
   have:j=k:=by omega
   exact this ▸ hj
  .intro hk
   exact ⟨k,hk,by simp [eqV]⟩
 unfold yqE
 show (match some (V.int (k:Nat)),some (l.map fun j:Nat=>PV.int (j:Nat)) with|some v,some ys=>(match svs ys with|some us=>some (PV.bl (if neg then !inV v us else inV v us),h)|none=>none)|_,_=>none)=_
 simp only [e1,e2]
end
section
variable {h h':AH}{nb ns H k z:Nat}{sl v:Int}{st:Bool}{P:List PV}{q:Nat×Kd}{v8:PVar}{nu ma cr en:Nat}
theorem yDk {q:Nat×Kd}:ybb (kdV q) (.int 0) h=some (.int (q.1:Nat),h)/\ybb (kdV q) (.int 1) h=some (.str (kdS q.2),h):=by
 obtain ⟨t,k⟩:=q
 cases k<;>exact ⟨rfl,rfl⟩
theorem yox (H0:h[H]?=some (ylr nu ma cr en)) (ek:P[k]?=some (kdV q)) (hq:yEj q.2=false) (hst:st=false\/q.2=.gone) (tn:yx [.loc H,.int 0] h=some (.tup [.str (kdS q.2),.int (q.1:Nat)],h')) :
  gBt (gR H P nb sl z v st ns (.val (.int (k:Nat))) v8) h=some (.nx (gR H P nb sl z v st ns (.val (.int (k:Nat))) (.val (.tup [.str (kdS q.2),.int (q.1:Nat)]))),h'):=by
 have ix:=yjY (h:=h') ek
 have i1:=(yDk (h:=h') (q:=q)).2
 have td:=ysb (h:=h') (nb:=nb) hq
 have s3:oEq (.str (kdS q.2)) (.str "seen") h'=some (.bl false,h'):=by
  obtain ⟨t,k⟩:=q
  cases k<;>first|kernel_rfl!|cases hq
 have b3:gB3 (gR H P nb sl z v st ns (.val (.int (k:Nat))) (.val (.tup [.str (kdS q.2),.int (q.1:Nat)]))) h'=some (.nx (gR H P nb sl z v st ns (.val (.int (k:Nat))) (.val (.tup [.str (kdS q.2),.int (q.1:Nat)]))),h'):=by
  unfold gB3 gR
  rcases hst with rfl|e
  .symm
  .have n3:oNe (.str (kdS q.2)) (.str "gone") h'=some (.bl false,h'):=by rw [e];kernel_rfl!
   clear e
   cases st
   .symm
   .simp_all? only [ix,i1,n3,-ykT]
 have b45:ym gB4 gB5 (gR H P nb sl z v st ns (.val (.int (k:Nat))) (.val (.tup [.str (kdS q.2),.int (q.1:Nat)]))) h'=some (.nx (gR H P nb sl z v st ns (.val (.int (k:Nat))) (.val (.tup [.str (kdS q.2),.int (q.1:Nat)]))),h'):=by
  unfold gB4 gB5 gR
  clear b3 hst tn H0 ek
  simp_all? only [ix,i1,td,s3,-ykT]
 have b2:(ybn (yk 15 "turn" yx (ye 0) (yb (xC (.int 0)) (yh))) (yt 8)) (gR H P nb sl z v st ns (.val (.int (k:Nat))) v8) h=some (.nx (gR H P nb sl z v st ns (.val (.int (k:Nat))) (.val (.tup [.str (kdS q.2),.int (q.1:Nat)]))),h'):=by
  unfold gR
  clear b3 b45 ix i1 td s3 hst hq ek
  simp_all? only [yct,yE (m:="turn") H0 (by rfl'),tn]
 unfold gBt
 rw [ydq,b2,ybq,yel,ydq,b3,ybq,yel,b45]
theorem yAU {bx:List Int}{l:List Nat}{t j:Nat}(H0:h[H]?=some (ylr nu ma cr en)) (ek:P[k]?=some (kdV (t,.seen j))) (eb:h'[nb]?=some (.lst (bx.map .int))) (el:h'[ns]?=some (yjZ l)) (hl:l.length<=100) (hj:j<bx.length) (tn:yx [.loc H,.int 0] h=some (.tup [.str "seen",.int (t:Nat),.int (j:Nat),.int (bx.getD j 0)],h')) :
  gBt (gR H P nb sl z v false ns (.val (.int (k:Nat))) v8) h=some (.nx (gR H P nb sl z v false ns (.val (.int (k:Nat))) (.val (.tup [.str "seen",.int (t:Nat),.int (j:Nat),.int (bx.getD j 0)]))),h'.set ns (yjZ (l++[j]))):=by
 have ix:=yjY (h:=h') ek
 have i1:ybb (kdV (t,.seen j)) (.int 1) h'=some (.str "seen",h'):=rfl
 have i2:ybb (kdV (t,.seen j)) (.int 2) h'=some (.int (j:Nat),h'):=rfl
 have td:=ysc (t:=t) eb hj
 have ap:ygM (.loc ns) [.int (j:Nat)] h'=some (.non,h'.set ns (yjZ (l++[j]))):=by
  rw [yjz el (by rw [length_map];omega)]
  unfold yjZ
  rw [map_append]
  rfl
 have b345:ym gB3 (ym gB4 gB5) (gR H P nb sl z v false ns (.val (.int (k:Nat))) (.val (.tup [.str "seen",.int (t:Nat),.int (j:Nat),.int (bx.getD j 0)]))) h'=some (.nx (gR H P nb sl z v false ns (.val (.int (k:Nat))) (.val (.tup [.str "seen",.int (t:Nat),.int (j:Nat),.int (bx.getD j 0)]))),h'.set ns (yjZ (l++[j]))):=by
  have il:yfs (.loc ns) h'=true:=ydc el
  unfold gB3 gB4 gB5 gR
  clear tn H0 ek eb el
  simp_all? only [ix,i1,i2,td,ap,il,-ykT]
 have b2:(ybn (yk 15 "turn" yx (ye 0) (yb (xC (.int 0)) (yh))) (yt 8)) (gR H P nb sl z v false ns (.val (.int (k:Nat))) v8) h=some (.nx (gR H P nb sl z v false ns (.val (.int (k:Nat))) (.val (.tup [.str "seen",.int (t:Nat),.int (j:Nat),.int (bx.getD j 0)]))),h'):=by
  unfold gR
  clear b345 ix i1 i2 td ap eb el ek
  simp_all? only [yct,yE (m:="turn") H0 (by rfl'),tn]
 unfold gBt
 rw [ydq,b2,ybq,yel,b345]
theorem yAV (H0:h[H]?=some (ylr nu ma cr en)) (H1:h'[H]?=some (ylr nu ma cr en)) (ek:P[k]?=some (kdV q)) (hq:q.2≠.gone) (tn:yx [.loc H,.int 0] h=some (.tup [.str "anew",.int (q.1:Nat)],h')) (sw:yed [.loc H,.int 0] h'=some (.lst [],h')) (so:ydf [.loc H,.int 0] h'=some (.lst (Z8.map .int),h')) :
  gBt (gR H P nb sl z v true ns (.val (.int (k:Nat))) v8) h=some (.rt (.str "anew"),h'):=by
 have ix:=yjY (h:=h') ek
 obtain ⟨i0,i1⟩:=yDk (h:=h') (q:=q)
 have n3:oNe (.str (kdS q.2)) (.str "gone") h'=some (.bl true,h'):=by
  obtain ⟨t,k⟩:=q
  cases k<;>first|kernel_rfl!|exact absurd rfl hq
 have n1:=ynf (h:=h') (xs:=[.str "anew",.int (q.1:Nat)]) (ycc ymX (ycc ygR rfl)) rfl
 have n2:ynU (.lst []) (.lst []) h'=some (.bl false,h'):=by kernel_rfl!
 have n4:ynU (.lst (Z8.map .int)) (.lst (Z8.map .int)) h'=some (.bl false,h'):=by kernel_rfl!
 have rp:ywB (.lst [.int 0]) (.int 8) h'=some (.lst (Z8.map .int),h'):=by kernel_rfl!
 have b3:gB3 (gR H P nb sl z v true ns (.val (.int (k:Nat))) (.val (.tup [.str "anew",.int (q.1:Nat)]))) h'=some (.rt (.str "anew"),h'):=by
  unfold gB3 gR
  clear tn H0 ek hq
  simp_all? only [-ykT,-yzF,ix,i0,i1,n3,n1,n2,n4,rp,yct,yE (m:="saw") H1 (by rfl'),yE (m:="slots") H1 (by rfl'),sw,so]
 have b2:(ybn (yk 15 "turn" yx (ye 0) (yb (xC (.int 0)) (yh))) (yt 8)) (gR H P nb sl z v true ns (.val (.int (k:Nat))) v8) h=some (.nx (gR H P nb sl z v true ns (.val (.int (k:Nat))) (.val (.tup [.str "anew",.int (q.1:Nat)]))),h'):=by
  unfold gR
  clear b3 ix i0 i1 n3 n1 n2 n4 rp sw so H1 ek
  simp_all? only [yct,yE (m:="turn") H0 (by rfl'),tn]
 unfold gBt
 rw [ydq,b2,ybq,yel,ydq,b3]
 rfl
end
structure GI (h:AH) (g:HC) (W:Nat) (bx sp:List Int) (en:List PV) (a0 a1:Nat×Lc) (rws:List Rw) (s:RS) (x1:HD) (seen:List Nat) (ns nb:Nat) (own:List (Nat×Nd)):Prop where
 X:HH h g W bx sp en [a0,a1] [X0 rws s,x1] ((ns,yjZ seen)::(nb,.lst (bx.map .int))::own)
 lb:bx.length=W
 ls:sp.length=W
 h1:1<=W
 h16:W<=16
 he:en.length<=10
 rb:∀ i∈bx,inB i
 nf:NF W s
 ky:∀ k,k∈s.sn.map (·.1) ↔ k∈seen
 wk:yxK W x1
noncomputable def Fin (h:AH) (g:HC) (en0:List PV) (k:Kd):Prop:=∃ (W:Nat) (bx sp:List Int) (en:List PV) (a0 a1:Nat×Lc) (x0 x1:HD) (own:List (Nat×Nd)),HH h g W bx sp en [a0,a1] [x0,x1] own/\match k with
 | .asleep=>en=en0/\stX x0 = "asleep"
 | _=>stX x0 = "ended"/\∃ b u L l bf,(u=[]\/∃ x y:PV,u=[x,y])/\en=en0++[.tup [.int 0,b,.tup (.str (kdS k)::u),.lst L,.lst l,.lst bf]]
section
variable {h:AH}{g:HC}{W:Nat}{bx sp:List Int}{en:List PV}{a0 a1:Nat×Lc}{rws:List Rw}{s:RS}{x1:HD}{seen:List Nat}{ns nb k z:Nat}{own:List (Nat×Nd)}{q:Nat×Kd}{p:List (Nat×Kd)}{P:List PV}{sl v:Int}{v8:PVar}{st:Bool}
theorem getD_in (hb:∀ i∈bx,inB i) {j:Nat}(hj:j<bx.length):inB (bx.getD j 0):=by
 rw [getD_eq_getElem?_getD,List.getElem?_eq_getElem hj]
 exact hb _ (getElem_mem hj)
theorem ylw (G:GI h g W bx sp en a0 a1 rws s x1 seen ns nb own) {t:Nat}(C:Ch W rws ((t,.gone)::p) s) (ek:P[k]?=some (kdV (t,.gone))) :
  ∃ h' v8' c' s',gBt (gR g.H P nb sl z v st ns (.val (.int (k:Nat))) v8) h=some (.nx (gR g.H P nb sl z v st ns (.val (.int (k:Nat))) v8'),h')/\GI h' g W bx sp en (a0.1,c') a1 rws s' x1 seen ns nb own/\s'.sn=s.sn/\Ch W rws p s':=by
 obtain ⟨X,rfl,ls,h1,h16,he,rb,nf,ky,wk⟩:=G
 obtain ⟨rfl,ok,r,er,okr,lk,s',e,C'⟩:=C
 obtain ⟨h',c',tn,X'⟩:=yAG (as1:=[]) (xs1:=[]) (as2:=[a1]) (xs2:=[x1]) X rfl h1 rfl (by show 0<1;omega) rfl er ok okr lk e
 have sn:=yxO e
 exact ⟨h',_,c',s',yox (q:=(s.t,.gone)) (X.at_.get 0 rfl) ek rfl (.inr rfl) tn,⟨X',rfl,ls,h1,h16,he,rb,⟨by rw [sn];exact nf.nd,by rw [sn];exact nf.hb,by rw [sn];exact nf.hl⟩,by rw [sn];exact ky,wk⟩,sn,C'⟩
theorem step_fresh (G:GI h g W bx sp en a0 a1 rws s x1 seen ns nb own) (hx1:x1.sl=false) (hl:seen.length<=90) (fr:stB s.sn sp=false) (C:Ch W rws (q::p) s) (ek:P[k]?=some (kdV q)) :
  ∃ h' v8',gBt (gR g.H P nb sl z v false ns (.val (.int (k:Nat))) v8) h=some (.nx (gR g.H P nb sl z v false ns (.val (.int (k:Nat))) v8'),h')/\((∃ a0' s' seen',GI h' g W bx sp en a0' a1 rws s' x1 seen' ns nb own/\stB s'.sn sp=false/\Ch W rws p s'/\seen'.length<=seen.length+1)\/(p=[]/\Fin h' g en q.2)):=by
 obtain ⟨t,kd⟩:=q
 have ek':=ek
 cases kd with
 | gone =>
  obtain ⟨h',v8',c',s',e,G',sn,C'⟩:=ylw (sl:=sl) (z:=z) (v:=v) (v8:=v8) (st:=false) G C ek
  exact ⟨h',v8',e,.inl ⟨_,s',seen,G',by rw [sn];exact fr,C',by omega⟩⟩
 | seen j =>
  obtain ⟨X,rfl,ls,h1,h16,he,rb,nf,ky,wk⟩:=G
  obtain ⟨rfl,ok,r,er,okr,a,b,rfl,lk,ej,hj,C'⟩:=C
  obtain ⟨h',tn,X'⟩:=yCW (as1:=[]) (xs1:=[]) (as2:=[a1]) (xs2:=[x1]) X rfl ls h1 rfl (by show 0<1;omega) rfl nf fr er ok okr lk ej hj
  have b:=yAU (sl:=sl) (z:=z) (v:=v) (v8:=v8) (X.at_.get 0 rfl) ek (X'.get 1 rfl) (X'.get 0 rfl) (by omega) hj tn
  have X2:=X'.upd (o1:=[]) (yjZ (seen++[j]))
  refine ⟨_,_,b,.inl ⟨a0,_,seen++[j],⟨X2,rfl,ls,h1,h16,he,rb,nf.put hj h16,fun i=>?_,wk⟩,yAE fr,C' _ _ (getD_in rb hj),by simp⟩⟩
  show i∈(ydi s.sn j _ _).map (·.1) ↔ _
  rw [yot]
  split
  .rename_i hm
   rw [ky i,List.mem_append,List.mem_singleton]
   exact ⟨.inl,fun o=>o.elim id fun e=>e ▸ (ky j).mp hm⟩
  .rw [List.mem_append,List.mem_append,ky i]
 | asleep =>
  obtain ⟨X,rfl,ls,h1,h16,he,rb,nf,ky,wk⟩:=G
  obtain ⟨rfl,ok,r,er,okr,rfl,rfl,lk⟩:=C
  obtain ⟨h',tn,X'⟩:=yAF (as1:=[]) (xs1:=[]) (as2:=[a1]) (xs2:=[x1]) X rfl ls h1 rfl (by show 0<1;omega) rfl nf fr er ok lk
  exact ⟨h',_,yox (q:=(s.t,.asleep)) (X.at_.get 0 rfl) ek rfl (.inl rfl) tn,.inr ⟨rfl,_,_,_,_,_,_,_,_,_,X',rfl,rfl⟩⟩
 | fell =>
  obtain ⟨X,rfl,ls,h1,h16,he,rb,nf,ky,wk⟩:=G
  obtain ⟨rfl,ok,r,er,okr,rfl,lk,⟨L,hL⟩,a,b,rfl⟩:=C
  obtain ⟨h',c',tn,X'⟩:=yCY (as1:=[]) (xs1:=[]) (as2:=[a1]) (xs2:=[x1]) (rows':=[]) X rfl ls h1 rfl (by show 0<1;omega) rfl nf fr er ok okr lk hL (.inr ⟨rfl,rfl⟩) (by omega)
  exact ⟨h',_,yox (q:=(s.t,.fell)) (X.at_.get 0 rfl) ek rfl (.inl rfl) tn,.inr ⟨rfl,_,_,_,_,_,_,_,_,_,X',rfl,_,_,_,_,_,.inr ⟨_,_,rfl⟩,rfl⟩⟩
 | done =>
  obtain ⟨X,rfl,ls,h1,h16,he,rb,nf,ky,wk⟩:=G
  obtain ⟨rfl,ok,r,er,okr,rfl,rfl,⟨L,hL⟩,d,ed,l,hd,hb⟩:=C
  obtain ⟨h',as',tn,X',ea⟩:=yAH (as1:=[]) (xs1:=[]) (as2:=[a1]) (xs2:=[x1]) (rows':=[]) X rfl ls h1 rfl (by show 0<1;omega) rfl nf fr er ok ed hd hb hL (.inr ⟨rfl,rfl⟩) (by omega) (fun y hy=>by rw [List.mem_singleton.mp hy];exact wk)
  obtain ⟨b0,b1,rfl⟩:∃ b0 b1,as'=[b0,b1]:=by
   match as',ea with
   | [b0,b1],_=>exact ⟨_,_,rfl⟩
  exact ⟨h',_,yox (q:=(s.t,.done)) (X.at_.get 0 rfl) ek rfl (.inl rfl) tn,.inr ⟨rfl,_,_,_,_,_,_,_,_,_,X',rfl,_,_,_,_,_,.inl rfl,rfl⟩⟩
theorem yiY (G:GI h g W bx sp en a0 a1 rws s x1 seen ns nb own) (fr:stB s.sn sp=true) (C:Ch W rws (q::p) s) (ek:P[k]?=some (kdV q)) :
  (∃ h' v8' c' s',gBt (gR g.H P nb sl z v true ns (.val (.int (k:Nat))) v8) h=some (.nx (gR g.H P nb sl z v true ns (.val (.int (k:Nat))) v8'),h')/\GI h' g W bx sp en (a0.1,c') a1 rws s' x1 seen ns nb own/\stB s'.sn sp=true/\Ch W rws p s') \/
  ∃ h' c',gBt (gR g.H P nb sl z v true ns (.val (.int (k:Nat))) v8) h=some (.rt (.str "anew"),h')/\HH h' g W bx sp en [(a0.1,c'),a1] [X0 rws (S0 Z8),x1] ((ns,yjZ seen)::(nb,.lst (bx.map .int))::own):=by
 obtain ⟨t,kd⟩:=q
 by_cases hk:kd=.gone
 .subst hk
  obtain ⟨h',v8',c',s',e,G',sn,C'⟩:=ylw (sl:=sl) (z:=z) (v:=v) (v8:=v8) (st:=true) G C ek
  exact .inl ⟨h',v8',c',s',e,G',by rw [sn];exact fr,C'⟩
 .refine .inr ?_
  obtain ⟨X,rfl,ls,h1,h16,he,rb,nf,ky,wk⟩:=G
  obtain ⟨et,ok,r,er,okr,rest⟩:=C
  have lk:yef bx.length s r=true:=by
   cases kd with
   | gone=>exact absurd rfl hk
   | seen j=>obtain ⟨a,b,e,lk,_⟩:=rest;exact lk
   | asleep=>exact rest.2.2
   | fell=>exact rest.2.1
   | done=>rw [rest.2.1];rfl
  clear rest
  subst et
  obtain ⟨h',c',tn,X'⟩:=yCX (as1:=[]) (xs1:=[]) (as2:=[a1]) (xs2:=[x1]) (rows':=rws.map yV) X rfl ls h1 rfl (by show 0<1;omega) rfl nf fr er ok okr lk (.inl ⟨by show 0<1;omega,rfl⟩)
  have so:=yAK (as1:=[]) (xs1:=[]) (as2:=[a1]) (xs2:=[x1]) X' rfl
  have sw:=yEE (as1:=[]) (xs1:=[]) (as2:=[a1]) (xs2:=[x1]) (L:=[]) X' rfl rfl
  exact ⟨h',c',yAV (X.at_.get 0 rfl) (X'.at_.get 0 rfl) ek hk tn sw so,X'⟩
end
def rg:Nat->Nat->List PV
 | _,0=>[]
 | k,n+1=>.int (k:Nat)::rg (k+1) n
theorem yDl (n:Nat):ygh 0 n=rg 0 n:=by
 have:∀ n k:Nat,(List.range' k n).map (fun j:Nat=>PV.int (0+(j:Int)))=rg k n:=by
  intro n
  induction n with
  | zero=>intro k;rfl
  | succ n ih =>
   intro k
   show PV.int (0+(k:Int))::(List.range' (k+1) n).map _=_
   rw [ih,zero_add]
   rfl
 unfold ygh
 rw [List.range_eq_range']
 exact this n 0
def yhU:List (Nat×Kd)->Kd
 | []=>.gone
 | [q]=>q.2
 | _::q::r=>yhU (q::r)
section
variable {g:HC}{W:Nat}{bx sp:List Int}{en:List PV}{a1:Nat×Lc}{rws:List Rw}{x1:HD}{ns nb z:Nat}{own:List (Nat×Nd)}{P:List PV}{sl v:Int}
theorem yAW {h:AH}{G:XG}{S:XS}{x y:PV}{xs:List PV}{ρ ρ1:PSt}{h1:AH}(e1:G x ρ=some ρ1) (e2:S ρ1 h=some (.rt y,h1)):ygk G S (x::xs) ρ h=some (.rt y,h1):=by
 show (G x ρ).bind _=_
 rw [e1,bind_some,e2]
 rfl
theorem yxV {s:RS}{p:List (Nat×Kd)}(C:Ch W rws p s):∃ q r,p=q::r:=by
 cases p with
 | nil=>exact C.elim
 | cons q r=>exact ⟨q,r,rfl⟩
theorem yuD {h:AH}{k:Nat}{st:Bool}{v8:PVar}(hk:((k:Nat):Int)≠sl):gB1 (gR g.H P nb sl z v st ns (.val (.int (k:Nat))) v8) h=some (.nx (gR g.H P nb sl z v st ns (.val (.int (k:Nat))) v8),h):=by
 have e:oEq (.int (k:Nat)) (.int sl) h=some (.bl false,h):=by
  rw [yio]
  simp [hk]
 unfold gB1 gR
 simp_all? only [e]
theorem ylx {h h1:AH}{k:Nat}{st st':Bool}{v8:PVar}{o:Option (Out×AH)}(e1:gB1 (gR g.H P nb sl z v st ns (.val (.int (k:Nat))) v8) h=some (.nx (gR g.H P nb sl z v st' ns (.val (.int (k:Nat))) v8),h1)) (e2:gBt (gR g.H P nb sl z v st' ns (.val (.int (k:Nat))) v8) h1=o):gB (gR g.H P nb sl z v st ns (.val (.int (k:Nat))) v8) h=o:=by
 show ym gB1 gBt _ h=o
 rw [ydq,e1,ybq,yel,e2]
theorem yDm {k:Nat}{q:Nat×Kd}{p:List (Nat×Kd)}(hP:∀ i,P[k+i]?=((q::p).map kdV)[i]?):P[k]?=some (kdV q)/\∀ i,P[k+1+i]?=(p.map kdV)[i]?:=⟨hP 0,fun i=>by rw [add_assoc,Nat.add_comm 1 i];exact hP (i+1)⟩
theorem yxW (hx1:x1.sl=false):∀ (p:List (Nat×Kd)) (k:Nat) (h:AH) (a0:Nat×Lc) (s:RS) (seen:List Nat) (v7 v8:PVar),GI h g W bx sp en a0 a1 rws s x1 seen ns nb own->stB s.sn sp=false->Ch W rws p s->(∀ i,P[k+i]?=(p.map kdV)[i]?)->(∀ j:Nat,k<=j->((j:Nat):Int)≠sl)->seen.length+p.length<=90 ->
  ∃ h' v7' v8',ygk (yt 7) gB (rg k p.length) (gR g.H P nb sl z v false ns v7 v8) h=some (.nx (gR g.H P nb sl z v false ns v7' v8'),h')/\Fin h' g en (yhU p)
 | [],k,h,a0,s,seen,v7,v8,G,fr,C,hP,hs,hl=>C.elim
 | q::p,k,h,a0,s,seen,v7,v8,G,fr,C,hP,hs,hl=>by
  obtain ⟨ek,hP'⟩:=yDm hP
  rw [length_cons] at hl
  obtain ⟨h1,w8,e,o⟩:=step_fresh (k:=k) (sl:=sl) (z:=z) (v:=v) (v8:=v8) G hx1 (by omega) fr C ek
  have e':=ylx (yuD (hs k (Nat.le_refl _))) e
  rcases o with ⟨a0',s',seen',G',fr',C',l'⟩|⟨rfl,F⟩
  .obtain ⟨h',v7',v8',e2,F⟩:=yxW hx1 p (k+1) h1 a0' s' seen' (.val (.int (k:Nat))) w8 G' fr' C' hP' (fun j hj=>hs j (by omega)) (by omega)
   refine ⟨h',v7',v8',?_,?_⟩
   .show ygk _ _ (.int (k:Nat)::rg (k+1) p.length) _ h=_
    rw [ygQ rfl e',e2]
   .obtain ⟨q',r',rfl⟩:=yxV C'
    exact F
  .refine ⟨h1,.val (.int (k:Nat)),w8,?_,F⟩
   show ygk _ _ [.int (k:Nat)] _ h=_
   rw [ygQ rfl e']
   rfl
theorem yAX:∀ (p:List (Nat×Kd)) (k:Nat) (h:AH) (a0:Nat×Lc) (s:RS) (seen:List Nat) (v7 v8:PVar),GI h g W bx sp en a0 a1 rws s x1 seen ns nb own->stB s.sn sp=true->Ch W rws p s->(∀ i,P[k+i]?=(p.map kdV)[i]?)->(∀ j:Nat,k<=j->((j:Nat):Int)≠sl) ->
  ∃ h' b0,ygk (yt 7) gB (rg k p.length) (gR g.H P nb sl z v true ns v7 v8) h=some (.rt (.str "anew"),h')/\HH h' g W bx sp en [b0,a1] [X0 rws (S0 Z8),x1] ((ns,yjZ seen)::(nb,.lst (bx.map .int))::own)
 | [],k,h,a0,s,seen,v7,v8,G,fr,C,hP,hs=>C.elim
 | q::p,k,h,a0,s,seen,v7,v8,G,fr,C,hP,hs=>by
  obtain ⟨ek,hP'⟩:=yDm hP
  rcases yiY (k:=k) (sl:=sl) (z:=z) (v:=v) (v8:=v8) G fr C ek with ⟨h1,w8,c',s',e,G',fr',C'⟩|⟨h1,c',e,X'⟩
  .obtain ⟨h',b0,e2,F⟩:=yAX p (k+1) h1 _ s' seen (.val (.int (k:Nat))) w8 G' fr' C' hP' (fun j hj=>hs j (by omega))
   refine ⟨h',b0,?_,F⟩
   show ygk _ _ (.int (k:Nat)::rg (k+1) p.length) _ h=_
   rw [ygQ rfl (ylx (yuD (hs k (Nat.le_refl _))) e),e2]
  .exact ⟨h1,_,yAW rfl (ylx (yuD (hs k (Nat.le_refl _))) e),X'⟩
theorem yxX {m:List (Nat×Int×Int)}{seen:List Nat}(hz:z<sp.length) (ky:∀ k,k∈m.map (·.1) ↔ k∈seen) (fr:stB m sp=false):stB m (yiW sp [(z,v)])=decide (z∈seen):=by
 have f:=stB_iff.mp fr
 show stB m (sp.set z (sp.getD z 0+1))=_
 have gz:(sp.set z (sp.getD z 0+1)).getD z 0=sp.getD z 0+1:=by simp [getD_eq_getElem?_getD,hz]
 by_cases e:z∈seen
 .rw [decide_eq_true e]
  cases hb:stB m (sp.set z (sp.getD z 0+1)) with
  | true=>rfl
  | false =>
   obtain ⟨p,hp,rfl⟩:=List.mem_map.mp ((ky z).mpr e)
   have a:=stB_iff.mp hb p hp
   have b:=f p hp
   rw [gz] at a
   omega
 .rw [decide_eq_false e]
  refine stB_iff.mpr fun p hp=>?_
  have:p.1≠z:=fun e'=>e ((ky z).mp (List.mem_map.mpr ⟨p,hp,e'⟩))
  rw [<- f p hp]
  simp [getD_eq_getElem?_getD,getElem?_set_ne (Ne.symm this)]
end
section
variable {g:HC}{W:Nat}{bx sp:List Int}{en:List PV}{a1:Nat×Lc}{rws:List Rw}{ns nb z:Nat}{own:List (Nat×Nd)}{P:List PV}{v:Int}
def yEI (h':AH) (g:HC) (W:Nat) (bx sp:List Int) (en:List PV) (rws:List Rw) (nb z:Nat) (v:Int) (own:List (Nat×Nd)) (k:Kd) (o:Out):Prop :=
 (∃ ρ,o=.nx ρ/\Fin h' g (en++[oE z v]) k)\/(o=.rt (.str "anew")/\∃ b0 b1 nd,HH h' g W (bx.set z v) (yiW sp [(z,v)]) (en++[oE z v]) [b0,b1] [X0 rws (S0 Z8),X1e z v] (nd::(nb,.lst ((bx.set z v).map .int))::own))
theorem yAY {h:AH}{k:Nat}{a0:Nat×Lc}{s:RS}{seen:List Nat}{v8:PVar}(hz:z<W) (hv:inB v) (he:en.length<=5) (fr:stB s.sn sp=false) (G:GI h g W bx sp en a0 a1 rws s (X0 (oR (z:Nat) v) (S0 Z8)) seen ns nb own) :
  ∃ h' b0 b1,gB1 (gR g.H P nb (k:Nat) z v false ns (.val (.int (k:Nat))) v8) h=some (.nx (gR g.H P nb (k:Nat) z v (decide (z∈seen)) ns (.val (.int (k:Nat))) v8),h')/\GI h' g W (bx.set z v) (yiW sp [(z,v)]) (en++[oE z v]) b0 b1 rws s (X1e z v) seen ns nb own/\stB s.sn (yiW sp [(z,v)])=decide (z∈seen):=by
 have hst:=yxX (z:=z) (v:=v) (by rw [G.ls];exact hz) G.ky fr
 obtain ⟨h',b0,b1,e,X⟩:=ype (o1:=[(ns,yjZ seen)]) (i:=0) G.lb G.ls G.h1 hz (by omega) ⟨.inl ⟨by show 0<1;omega,rfl⟩,G.nf⟩ rfl G.X
 refine ⟨h',b0,b1,?_,⟨X,by rw [length_set];exact G.lb,by rw [yhf];exact G.ls,G.h1,G.h16,by rw [length_append];show en.length+1<=10;omega,fun i hi=>(List.mem_or_eq_of_mem_set hi).elim (G.rb i) (fun e=>e ▸ hv),G.nf,G.ky,⟨.inr ⟨rfl,rfl⟩,⟨List.nodup_nil,fun p hp=>(by cases hp),by show 0<=900;omega⟩⟩⟩,hst⟩
 have e0:oEq (.int (k:Nat)) (.int (k:Nat)) h=some (.bl true,h):=by rw [yio];simp
 have c0:∀ h,ybb (.tup [.int (z:Nat),.int v]) (.int 0) h=some (.int (z:Nat),h):=fun _=>rfl
 have c1:∀ h,ybb (.tup [.int (z:Nat),.int v]) (.int 1) h=some (.int v,h):=fun _=>rfl
 have inn:yqE false (.int (z:Nat)) (.loc ns) h'=some (.bl (decide (z∈seen)),h'):=by
  have:=yAT (h:=h') (neg:=false) (k:=z) (l:=seen)
  have g0:h'[ns]?=some (yjZ seen):=X.get 0 rfl
  unfold yqE at this ⊢
  rw [show itemsOf (.loc ns) h'=itemsOf (.lst (seen.map fun j:Nat=>.int (j:Nat))) h' by show PX.listOf (.loc ns) h'=PX.listOf (.lst _) h';unfold PX.listOf;unfold yjZ at g0;simp only [g0]]
  exact this
 unfold gB1 gR
 clear hst fr
 simp_all? only [e0,c0,c1,e,inn]
theorem yAZ (hz:z<W) (hv:inB v) (he:en.length<=5) {sl:Nat}:∀ (p:List (Nat×Kd)) (k:Nat) (h:AH) (a0:Nat×Lc) (s:RS) (seen:List Nat) (v7 v8:PVar),GI h g W bx sp en a0 a1 rws s (X0 (oR (z:Nat) v) (S0 Z8)) seen ns nb own->stB s.sn sp=false->Ch W rws p s->(∀ i,P[k+i]?=(p.map kdV)[i]?)->k<=sl->sl<k+p.length->seen.length+p.length<=90 ->
  ∃ h' o,ygk (yt 7) gB (rg k p.length) (gR g.H P nb (sl:Nat) z v false ns v7 v8) h=some (o,h')/\yEI h' g W bx sp en rws nb z v own (yhU p) o
 | [],k,h,a0,s,seen,v7,v8,G,fr,C,hP,hk,hs,hl=>C.elim
 | q::p,k,h,a0,s,seen,v7,v8,G,fr,C,hP,hk,hs,hl=>by
  obtain ⟨ek,hP'⟩:=yDm hP
  rw [length_cons] at hl hs
  by_cases e:k=sl
  .subst e
   obtain ⟨h1,b0,b1,e1,G1,st⟩:=yAY (P:=P) (k:=k) (v8:=v8) hz hv he fr G
   have hj:∀ j:Nat,k+1<=j->((j:Nat):Int)≠(k:Nat):=fun j h=>by omega
   by_cases es:z∈seen
   .rw [decide_eq_true es] at st e1
    rcases yiY (k:=k) (sl:=(k:Nat)) (z:=z) (v:=v) (v8:=v8) G1 st C ek with ⟨h2,w8,c',s',e2,G2,fr2,C2⟩|⟨h2,c',e2,X2⟩
    .obtain ⟨h',b0',e3,X3⟩:=yAX (sl:=(k:Nat)) (z:=z) (v:=v) p (k+1) h2 _ s' seen (.val (.int (k:Nat))) w8 G2 fr2 C2 hP' hj
     refine ⟨h',_,?_,.inr ⟨rfl,_,_,_,X3⟩⟩
     show ygk _ _ (.int (k:Nat)::rg (k+1) p.length) _ h=_
     rw [ygQ rfl (ylx e1 e2),e3]
    .exact ⟨h2,_,yAW rfl (ylx e1 e2),.inr ⟨rfl,_,_,_,X2⟩⟩
   .rw [decide_eq_false es] at st e1
    obtain ⟨h2,w8,e2,o⟩:=step_fresh (k:=k) (sl:=(k:Nat)) (z:=z) (v:=v) (v8:=v8) G1 rfl (by omega) st C ek
    rcases o with ⟨a0',s',seen',G',fr',C',l'⟩|⟨rfl,F⟩
    .obtain ⟨h',v7',v8',e3,F⟩:=yxW (sl:=(k:Nat)) (z:=z) (v:=v) rfl p (k+1) h2 a0' s' seen' (.val (.int (k:Nat))) w8 G' fr' C' hP' hj (by omega)
     refine ⟨h',.nx (gR g.H P nb (k:Nat) z v false ns v7' v8'),?_,.inl ⟨_,rfl,?_⟩⟩
     .show ygk _ _ (.int (k:Nat)::rg (k+1) p.length) _ h=_
      rw [ygQ rfl (ylx e1 e2),e3]
     .obtain ⟨q',r',rfl⟩:=yxV C'
      exact F
    .refine ⟨h2,.nx (gR g.H P nb (k:Nat) z v false ns (.val (.int (k:Nat))) w8),?_,.inl ⟨_,rfl,F⟩⟩
     show ygk _ _ [.int (k:Nat)] _ h=_
     rw [ygQ rfl (ylx e1 e2)]
     rfl
  .obtain ⟨h1,w8,e1,o⟩:=step_fresh (k:=k) (sl:=(sl:Nat)) (z:=z) (v:=v) (v8:=v8) G rfl (by omega) fr C ek
   rcases o with ⟨a0',s',seen',G',fr',C',l'⟩|⟨rfl,F⟩
   .obtain ⟨h',o,e2,F⟩:=yAZ (sl:=sl) hz hv he p (k+1) h1 a0' s' seen' (.val (.int (k:Nat))) w8 G' fr' C' hP' (by omega) (by omega) (by omega)
    refine ⟨h',o,?_,?_⟩
    .show ygk _ _ (.int (k:Nat)::rg (k+1) p.length) _ h=_
     rw [ygQ rfl (ylx (yuD (k:=k) (sl:=((sl:Nat):Int)) (by omega)) e1),e2]
    .obtain ⟨q',r',rfl⟩:=yxV C'
     exact F
   .exact absurd hs (by show ¬sl<k+(0+1);omega)
end
section
variable {h:AH}{g:HC}{W:Nat}{bx sp:List Int}{en:List PV}{a0 a1:Nat×Lc}{rws:List Rw}{nb z:Nat}{own:List (Nat×Nd)}{v:Int}{p:List (Nat×Kd)}
theorem HH.drop {w:Int}{as:List (Nat×Lc)}{xs:List HD}{nd:Nat×Nd}(X:HH h g w bx sp en as xs (nd::own)):HH h g w bx sp en as xs own:=by
 refine ⟨?_,X.ly⟩
 have A:=X.at_
 rw [yex] at A
 rw [yex]
 exact A.sub ((List.Sublist.refl _).append ((List.Sublist.refl _).append (List.sublist_cons_self _ _)))
theorem GI.new (X:HH h g W bx sp en [a0,a1] [X0 rws (S0 Z8),x1] ((nb,.lst (bx.map .int))::own)) (lb:bx.length=W) (ls:sp.length=W) (h1:1<=W) (h16:W<=16) (he:en.length<=10) (rb:∀ i∈bx,inB i) (wk:yxK W x1):GI (h++[yjZ []]) g W bx sp en a0 a1 rws (S0 Z8) x1 [] h.length nb own :=
 ⟨X.new _,lb,ls,h1,h16,he,rb,⟨List.nodup_nil,fun p hp=>(by cases hp),by show 0<=900;omega⟩,fun k=>Iff.rfl,wk⟩
theorem ynh {sl:Int}{h':AH}{o:Out}{r:Str}(hp:p.length<=80) (lp:ygk (yt 7) gB (rg 0 p.length) (gR g.H (p.map kdV) nb sl z v false h.length .no .no) (h++[yjZ []])=some (o,h')) (ho:(∃ ρ,o=.nx ρ/\r = "through")\/(o=.rt (.str "anew")/\r = "anew")):ycD [.loc g.H,.lst (p.map kdV),.loc nb,.int sl,.tup [.int (z:Nat),.int v]] h=some (.str r,h'):=by
 have i1:yms (yb (xCB (ycg) (yb (ye 1) (yh))) (yh)) (gR g.H (p.map kdV) nb sl z v false h.length .no .no) (h++[yjZ []])=some (rg 0 p.length,h++[yjZ []]):=by
  have e1:yb (xCB (ycg) (yb (ye 1) (yh))) (yh) (gR g.H (p.map kdV) nb sl z v false h.length .no .no) (h++[yjZ []])=some ([.int ((p.map kdV).length:Nat)],h++[yjZ []]):=rfl
  rw [yvj e1 (by omega) (by rw [length_map];omega),Int.toNat_natCast,length_map,yDl]
 unfold ycD
 rw [yp]
 show ob (ym _ (ym _ (ym (yqg _ (yt 7) gB) _)) [.val (.loc g.H),.val (.lst (p.map kdV)),.val (.loc nb),.val (.int sl),.val (.tup [.int (z:Nat),.int v]),.no,.no,.no,.no] h) fnK=_
 have s1:ybn (xC (.bl false)) (yt 5) [.val (.loc g.H),.val (.lst (p.map kdV)),.val (.loc nb),.val (.int sl),.val (.tup [.int (z:Nat),.int v]),.no,.no,.no,.no] h=some (.nx [.val (.loc g.H),.val (.lst (p.map kdV)),.val (.loc nb),.val (.int sl),.val (.tup [.int (z:Nat),.int v]),.val (.bl false),.no,.no,.no],h):=rfl
 have s2:ybn (yfG (ycR (yh))) (yt 6) [.val (.loc g.H),.val (.lst (p.map kdV)),.val (.loc nb),.val (.int sl),.val (.tup [.int (z:Nat),.int v]),.val (.bl false),.no,.no,.no] h=some (.nx (gR g.H (p.map kdV) nb sl z v false h.length .no .no),h++[yjZ []]):=by kernel_rfl!
 rw [ydq,s1,ybq,yel,ydq,s2,ybq,yel]
 rw [ydq,yzz,i1,ybq,lp,ybq]
 rcases ho with ⟨ρ,rfl,rfl⟩|⟨rfl,rfl⟩
 .rfl
 .rfl
theorem ypf {sl:Nat}(X:HH h g W bx sp en [a0,a1] [X0 rws (S0 Z8),X0 (oR (z:Nat) v) (S0 Z8)] ((nb,.lst (bx.map .int))::own)) (lb:bx.length=W) (ls:sp.length=W) (h1:1<=W) (h16:W<=16) (he:en.length<=5) (rb:∀ i∈bx,inB i) (hz:z<W) (hv:inB v) (C:Ch W rws p (S0 Z8)) (hp:p.length<=80) (hs:sl<p.length) :
  ∃ h' r,ycD [.loc g.H,.lst (p.map kdV),.loc nb,.int (sl:Nat),.tup [.int (z:Nat),.int v]] h=some (.str r,h')/\((r = "through"/\Fin h' g (en++[oE z v]) (yhU p))\/(r = "anew"/\∃ b0 b1,HH h' g W (bx.set z v) (yiW sp [(z,v)]) (en++[oE z v]) [b0,b1] [X0 rws (S0 Z8),X1e z v] ((nb,.lst ((bx.set z v).map .int))::own))):=by
 have G:=GI.new X lb ls h1 h16 (by omega) rb ⟨.inl ⟨by show 0<1;omega,rfl⟩,⟨List.nodup_nil,fun p hp=>(by cases hp),by show 0<=900;omega⟩⟩
 obtain ⟨h',o,lp,O⟩:=yAZ (P:=p.map kdV) hz hv he (sl:=sl) p 0 _ _ _ _ .no .no G rfl C (fun i=>by rw [Nat.zero_add]) (zero_le _) (by omega) (by show 0+_<=_;omega)
 rcases O with ⟨ρ,rfl,F⟩|⟨rfl,b0,b1,nd,X'⟩
 .exact ⟨h',"through",ynh hp lp (.inl ⟨ρ,rfl,rfl⟩),.inl ⟨rfl,F⟩⟩
 .exact ⟨h',"anew",ynh hp lp (.inr ⟨rfl,rfl⟩),.inr ⟨rfl,b0,b1,X'.drop⟩⟩
theorem ypg (X:HH h g W bx sp en [a0,a1] [X0 rws (S0 Z8),X1e z v] ((nb,.lst (bx.map .int))::own)) (lb:bx.length=W) (ls:sp.length=W) (h1:1<=W) (h16:W<=16) (he:en.length<=10) (rb:∀ i∈bx,inB i) (C:Ch W rws p (S0 Z8)) (hp:p.length<=80) :
  ∃ h',ycD [.loc g.H,.lst (p.map kdV),.loc nb,.int (-1),.tup [.int (z:Nat),.int v]] h=some (.str "through",h')/\Fin h' g en (yhU p):=by
 have G:=GI.new X lb ls h1 h16 he rb ⟨.inr ⟨rfl,rfl⟩,⟨List.nodup_nil,fun p hp=>(by cases hp),by show 0<=900;omega⟩⟩
 obtain ⟨h',v7,v8,lp,F⟩:=yxW (sl:=-1) (z:=z) (v:=v) (P:=p.map kdV) rfl p 0 _ _ _ _ .no .no G rfl C (fun i=>by rw [Nat.zero_add]) (fun j _=>by omega) (by show 0+_<=_;omega)
 exact ⟨h',ynh hp lp (.inl ⟨_,rfl,rfl⟩),F⟩
end
section
variable {h:AH}{g:HC}{z:Nat}{v:Int}{p:List (Nat×Kd)}
theorem yvA:∀ {p:List (Nat×Kd)},p≠[]->∃ p' q,p=p'++[q]/\yhU p=q.2
 | [q],_=>⟨[],q,rfl,rfl⟩
 | q::r::s,_=>by
  obtain ⟨p',q',e,l⟩:=yvA (p:=r::s) (fun h=>by cases h)
  exact ⟨q::p',q',by rw [e];rfl,l⟩
theorem yDn {n:Nat}:eqP (n+4) h (oE z v) (oE z v)=some true :=
 ymY (ycc ygR (ycc ygR (ycc (ymY (ycc ymX rfl)) (ycc (ymZ rfl) (ycc (ymZ (ycc (ymY (ycc ygR (ycc ygR rfl))) rfl)) (ycc (ymZ (yjX (oH z v))) rfl))))))
theorem yDo {xs:List PV}{y:PV}:ycu (.lst (xs++[y])) (.int (-1)) h=some (y,h):=by
 rw [ykT]
 unfold atI
 rw [show ixN (xs++[y]).length (-1)=some xs.length by unfold ixN;rw [length_append,List.length_singleton];simp;omega]
 simp
theorem yiZ (hp:p≠[]) (hg:yhU p≠.gone) (hg2:∀ j,yhU p≠.seen j) (F:Fin h g [oE z v] (yhU p)):ydb [.loc g.H,.lst (p.map kdV),.tup [.int (z:Nat),.int v]] h=some (.bl true,h):=by
 obtain ⟨p',q,ep,el⟩:=yvA hp
 rw [el] at F hg hg2
 obtain ⟨W,bx,sp,en,a0,a1,x0,x1,own,X,R⟩:=F
 have H0:=X.at_.get 0 rfl
 have st:=yAJ (as1:=[]) (xs1:=[]) (as2:=[a1]) (xs2:=[x1]) X rfl
 have st':ycG [.loc g.H,.int 0] h=some (.str (stX x0),h):=st
 have ix:ycu (.lst (p.map kdV)) (.int (-1)) h=some (kdV q,h):=by rw [ep,map_append];exact yDo
 have ax:atI (p.map kdV) (-1)=some (kdV q):=by
  rw [ykT] at ix
  cases e:atI (p.map kdV) (-1) with
  | none=>rw [e] at ix;cases ix
  | some y=>rw [e] at ix;cases ix;rfl
 have i1:=(yDk (h:=h) (q:=q)).2
 have c0:ybb (.tup [.int (z:Nat),.int v]) (.int 0) h=some (.int (z:Nat),h):=rfl
 have c1:ybb (.tup [.int (z:Nat),.int v]) (.int 1) h=some (.int v,h):=rfl
 have n1:ynU (.lst [oE z v]) (.lst [oE z v]) h=some (.bl false,h):=by
  unfold ynU pairE yW
  have q:=ycc (xs:=[]) (ys:=[]) (yDn (h:=h) (n:=36) (z:=z) (v:=v)) rfl
  simp only [q,if_true]
  rfl
 have shO:Shp (oE z v):=⟨_,_,_,_,_,_,rfl⟩
 obtain ⟨t,kd⟩:=q
 clear el ep hp
 unfold ydb
 rw [yp]
 show ob (ym _ _ [.val (.loc g.H),.val (.lst (p.map kdV)),.val (.tup [.int (z:Nat),.int v]),.no,.no,.no] h) fnK=_
 by_cases ea:kd=.asleep
 .subst ea
  obtain ⟨rfl,sa⟩:=R
  rw [sa] at st'
  have jr:=you X (fun e he=>by rw [List.mem_singleton.mp he];exact shO) (by show 1<1000;omega)
  have sl:yzi [oE z v] none (some 1)=[oE z v]:=by kernel_rfl!
  have du:(.lst [.tup [.int 1,.int 0,.tup [.str "done"],.lst [],.lst [.tup [.int (z:Nat),.int v]],.lst [.int (z:Nat),.int 0,.int v,.int 0,.int 0,.int 0,.int 0,.int 0]]]:PV)=.lst [oE z v]:=rfl
  have i1':ybb (kdV (t,.asleep)) (.int 1) h=some (.str "asleep",h):=i1
  clear st X sa hg hg2 shO i1
  simp_all? only [yct,yE (m:="journal") H0 (by rfl'),jr,c0,c1,du,sl,n1,ix,ax,i1',yE (m:="state") H0 (by rfl'),st']
  exact if_pos (by decide)
 .obtain ⟨se,b,u,L,l,bf,hu,rfl⟩:stX x0 = "ended"/\∃ b u L l bf,(u=[]\/∃ x y:PV,u=[x,y])/\en=[oE z v]++[.tup [.int 0,b,.tup (.str (kdS kd)::u),.lst L,.lst l,.lst bf]]:=by
   cases kd with
   | asleep=>exact absurd rfl ea
   | _=>exact R
  rw [se] at st'
  have jr:=you X (fun e he=>by
   rcases mem_cons.mp he with rfl|he
   .exact shO
   .rw [List.mem_singleton.mp he];exact ⟨_,_,_,_,_,_,rfl⟩) (by show 2<1000;omega)
  generalize hE:(PV.tup [.int 0,b,.tup (.str (kdS kd)::u),.lst L,.lst l,.lst bf])=E at jr
  have jr':ycw [.loc g.H] h=some (.lst [oE z v,E],h):=jr
  have sl:yzi [oE z v,E] none (some 1)=[oE z v]:=by kernel_rfl!
  have du:(.lst [.tup [.int 1,.int 0,.tup [.str "done"],.lst [],.lst [.tup [.int (z:Nat),.int v]],.lst [.int (z:Nat),.int 0,.int v,.int 0,.int 0,.int 0,.int 0,.int 0]]]:PV)=.lst [oE z v]:=rfl
  have na:oEq (.str (kdS kd)) (.str "asleep") h=some (.bl false,h):=by cases kd<;>first|kernel_rfl!|exact absurd rfl ea
  have n5:ypo (.lst [.str (kdS kd)]) (.lst [.str (kdS kd)]) h=some (.bl true,h):=by
   unfold ypo pairE yW
   have q:=ycc (xs:=[]) (ys:=[]) (ymX (h:=h) (n:=39) (i:=kdS kd)) rfl
   simp only [q,if_true]
  have cp:yhC (xIL (ye 3)) [] (yq (xOp (oEq) (xOp (ybb) (ye 0) (xC (.int 0))) (xC (.int 0)))) (xOp (ybb) (xOp (ybb) (ye 0) (xC (.int 2))) (xC (.int 0))) [.val (.loc g.H),.val (.lst (p.map kdV)),.val (.tup [.int (z:Nat),.int v]),.val (.lst [oE z v,E]),.val (.lst [oE z v]),.val (.str (kdS kd))] h=some (.lst [.str (kdS kd)],h):=by
   rw [<- hE]
   rcases hu with rfl|⟨x,y,rfl⟩<;>kernel_rfl!
  clear st X se hg hg2 shO ea R jr hE hu
  simp_all? only [yct,yE (m:="journal") H0 (by rfl'),jr',c0,c1,du,sl,n1,ix,ax,i1,na,yE (m:="state") H0 (by rfl'),st',cp,n5]
  exact if_pos (by decide)
end
def yvB (c:Int):Int:=if c%3=1 then c/3%5 else if c%3=2 then 18446744073709551616-1-c/3%5 else c/3%18446744073709551616
theorem ysd (c:Int):0<=yvB c/\yvB c<B64:=by
 unfold yvB B64
 repeat' split
 all_goals omega
section
variable {h:AH}
theorem ygI (c:Int):ycb [.int c] h=some (.int (yvB c),h):=by
 unfold ycb
 rw [yp]
 show ob (ym _ _ [.val (.int c),.no] h) fnK=_
 symm
 unfold yvB
 split
 .rfl
 .split<;>rfl
theorem ycH {ns:List Int}(k:Nat):yy [.scr ns,.int (k:Nat)] h=some (.int (ns.getD k 0),h):=by
 unfold yy
 rw [yp]
 show ob (ym _ _ [.val (.scr ns),.val (.int (k:Nat))] h) fnK=_
 by_cases e:k<ns.length
 .have e1:(((k:Nat):Int)<(ns.length:Nat))=True:=eq_true (by omega)
  have e3:atI ns (k:Nat)=some (ns.getD k 0):=ydw (by rw [List.getElem?_eq_getElem e,getD_eq_getElem?_getD,List.getElem?_eq_getElem e];rfl)
  have e2:ycu (.scr ns) (.int (k:Nat)) h=some (.int (ns.getD k 0),h):=by
   unfold ycu
   simp only [e3]
  simp_all? only [e1,e2,e3]
 .have e1:(((k:Nat):Int)<(ns.length:Nat))=False:=eq_false (by omega)
  rw [show ns.getD k 0=0 by rw [getD_eq_getElem?_getD,getElem?_eq_none (by omega)];rfl]
  simp_all? only [e1]
theorem yse {n:Int}(hn:0<=n/\n<B64):n.natAbs.log2<1920:=by
 by_cases hz:n.natAbs=0
 .rw [hz];decide
 .rw [Nat.log2_lt hz]
  have e1:n.natAbs<2 ^ 64:=by
   have:(2:Nat) ^ 64=18446744073709551616:=by decide
   rw [this]
   unfold B64 at hn
   omega
  exact lt_of_lt_of_le e1 (Nat.pow_le_pow_right (by decide) (by decide))
theorem yuE {n:Int}(hn:0<=n/\n<B64):yin [.int n] h=some (.str (tI n),h):=by rw [yvf,if_pos (yse hn)]
theorem yuF {n:Int}(hn:0<=n/\n<B64):(tI n).length<=20:=str_len hn.1 (by decide) (Int.lt_trans hn.2 yrf)
theorem yhg {d:Nd}:(h++[d])[h.length]?=some d:=by simp
theorem yDp {P:Nat->Prop}(h0:P 0) (h1:P 1) (h2:P 2) (h3:P 3) (h4:P 4) (h5:P 5) (h6:P 6) (h7:P 7) (h8:P 8) (h9:P 9) (h10:P 10) (h11:P 11) (ha:P 12) (hb:P 13) (hc:P 14) (hd:P 15):∀ w,w<16->P w:=by
 intro w h
 by_cases e:w<12
 .exact yuA h0 h1 h2 h3 h4 h5 h6 h7 h8 h9 h10 h11 w e
 .have:w=12\/w=13\/w=14\/w=15:=by omega
  rcases this with rfl|rfl|rfl|rfl<;>assumption
theorem yEk {w l:Int}{A B:XS}{ρ:PSt}(n:decide (w=l)=false):ym (ybx (yq (xOp oEq (ye 0) (xC (.int l)))) A yJ) B (.val (.int w)::ρ) h=B (.val (.int w)::ρ) h:=by
 simp_all? only [of_decide_eq_false n,↓reduceIte]
theorem ysf {z m:Nat}(hz:z<16) (wr:Bool):∀ w,w<12->∃ h' V,ybY [.int (w:Nat),.int (z:Nat),.int (m:Nat),.bl wr] h=some (.tup [.str (eS (tI z) w),V],h')/\yW V h'=some ((eW z m wr w).map kdV)/\Fr h h':=by
 have fr:∀ d,Fr h (h++[d]):=fun d m A=>At.junk d A
 have nil:Fr h h:=fun _ A=>A
 have lg:∀ l:List PV,yW (.loc h.length) (h++[Nd.lst l])=some l:=fun l=>by unfold yW;simp only [yhg]
 have oc:∀ xs ys:List PV,xs.length+ys.length<=100000->yhb (.loc h.length) (.lst ys) (h++[.lst xs])=some (.lst (xs++ys),h++[.lst xs]):=fun xs ys l=>by
  unfold yhb yW
  simp only [yhg]
  rw [if_pos l]
 apply yuA
 .refine ⟨h++[.lst ((eW z m wr 0).map kdV)],.loc h.length,?_,lg _,fr _⟩
  clear fr nil oc lg
  cases wr
  .revert z
   apply yDp<;>kernel_rfl!
  .have bz:(0:Int)<=(z:Nat)/\((z:Nat):Int)<B64:=by unfold B64;omega
   have s1:=fun h=>yuE (h:=h) bz
   have g1:=eq_true (yse bz)
   have l1:=yuF bz
   have st:∀ a b c:PV,ygO (ye 4) (xC (.int 1)) (ybS (yb (xOp ydp (ye 2) (xC (.int 1))) (yb (xC (.str "gone")) (yh)))) [.val (.int (0:Nat)),.val (.int (z:Nat)),.val (.int (m:Nat)),.val (.bl true),.val (.loc h.length)] (h++[.lst [a,b,c]])=some (.nx [.val (.int (0:Nat)),.val (.int (z:Nat)),.val (.int (m:Nat)),.val (.bl true),.val (.loc h.length)],h++[.lst [a,.tup [.int ((m:Nat)+1),.str "gone"],c]]):=fun a b c=>by
    show (match (h++[Nd.lst [a,b,c]])[h.length]? with|some (.lst xs)=>(match ixN xs.length 1 with|some j=>some (Out.nx _,(h++[Nd.lst [a,b,c]]).set h.length (.lst (xs.set j (.tup [.int ((m:Nat)+1),.str "gone"]))))|none=>none)|_=>none)=_
    simp only [yhg]
    show some (Out.nx _,(h++[Nd.lst [a,b,c]]).set h.length _)=_
    rw [List.set_append_right _ _ (Nat.le_refl _),sub_self]
    rfl
   unfold ybY
   rw [yp]
   show ob (ym _ _ [.val (.int (0:Nat)),.val (.int (z:Nat)),.val (.int (m:Nat)),.val (.bl true),.no] h) fnK=_
   simp_all? only [s1,g1,st]
   repeat first|rw [if_neg (by omega)]|rw [if_pos (by first|omega|(simp_all? only [ycO];omega))]
   rfl
 .exact ⟨h,.lst ((eW z m wr 1).map kdV),by kernel_rfl!,rfl,nil⟩
 .exact ⟨h,.lst ((eW z m wr 2).map kdV),by kernel_rfl!,rfl,nil⟩
 .exact ⟨h,.lst ((eW z m wr 3).map kdV),by kernel_rfl!,rfl,nil⟩
 .refine ⟨h++[.lst ((eW z m wr 4).map kdV)],.loc h.length,?_,lg _,fr _⟩
  clear fr nil oc lg
  revert z
  apply yDp<;>kernel_rfl!
 .exact ⟨h++[.lst ((eW z m wr 5).map kdV)],.loc h.length,by kernel_rfl!,lg _,fr _⟩
 .exact ⟨h,.lst ((eW z m wr 6).map kdV),by kernel_rfl!,rfl,nil⟩
 .refine ⟨h++[.lst ((eW z m wr 7).map kdV)],.loc h.length,?_,lg _,fr _⟩
  clear fr nil oc lg
  revert z
  apply yDp<;>kernel_rfl!
 .exact ⟨h,.lst ((eW z m wr 8).map kdV),by kernel_rfl!,rfl,nil⟩
 .exact ⟨h,.lst ((eW z m wr 9).map kdV),by kernel_rfl!,rfl,nil⟩
 .refine ⟨h++[.lst [kdV (m,.gone),kdV (m+1,.gone),kdV (m+2,.gone)]]++[.lst ((eW z m wr 10).map kdV)],.loc (h++[Nd.lst [kdV (m,.gone),kdV (m+1,.gone),kdV (m+2,.gone)]]).length,?_,by unfold yW;simp only [yhg],fun m A=>At.junk _ (At.junk _ A)⟩
  have o1:=oc [.tup [.int (m:Nat),.str "gone"],.tup [.int ((m:Nat)+1),.str "gone"],.tup [.int ((m:Nat)+2),.str "gone"]] [.tup [.int ((m:Nat)+7),.str "gone"],.tup [.int ((m:Nat)+8),.str "done"]] (by show 3+2<=100000;omega)
  clear fr nil oc lg
  unfold ybY
  rw [yp]
  show ob (ym _ _ [.val (.int (10:Nat)),.val (.int (z:Nat)),.val (.int (m:Nat)),.val (.bl wr),.no] h) fnK=_
  repeat rw [yEk (by decide)]
  simp_all? only [o1]
  rfl
 .refine ⟨h++[.lst [kdV (m,.gone),kdV (m+1,.gone),kdV (m+2,.gone)]],.lst ((eW z m wr 11).map kdV),?_,rfl,fr _⟩
  have o1:=oc [.tup [.int (m:Nat),.str "gone"],.tup [.int ((m:Nat)+1),.str "gone"],.tup [.int ((m:Nat)+2),.str "gone"]] [.tup [.int ((m:Nat)+7),.str "done"]] (by show 3+1<=100000;omega)
  clear fr nil oc lg
  unfold ybY
  rw [yp]
  show ob (ym _ _ [.val (.int (11:Nat)),.val (.int (z:Nat)),.val (.int (m:Nat)),.val (.bl wr),.no] h) fnK=_
  repeat rw [yEk (by decide)]
  simp_all? only [o1]
  rfl
end
noncomputable def frV (ns:List Int) (W b0 i z w:Nat) (v6 v7 v8 v9 a b c d e f g:PVar):PSt:=[.val (.scr ns),.val (.int (W:Nat)),.val (.loc b0),.val (.int (i:Nat)),.val (.int (z:Nat)),.val (.int (w:Nat)),v6,v7,v8,v9,a,b,c,d,e,f,g]
def yyj (c:Int) (n:Nat):List Nat:=(List.range n).map fun k:Nat=>(c/(3+(k:Int))%7).toNat
noncomputable def mSs:List PV:=[.str "let e 5",.str "plus f e b",.str "less g f a",.str "minus h b f",.str "same e g h",.str "put a f",.str "times e b b"]
section
variable {h:AH}
theorem yBa:∀ j,j<7->mSs[j]?=some (.str (mS j))
 | 0,_|1,_|2,_|3,_|4,_|5,_|6,_=>rfl
 | n+7,h=>absurd h (by omega)
theorem ysg {c:Int}{n:Nat}(hn:n<=9):ydt [.int c,.int (n:Nat)] h=some (.lst ((yyj c n).map fun i=>.str (mS i)),h):=by
 have i1:yms (yb (ye 1) (yh)) [.val (.int c),.val (.int (n:Nat)),.val (.lst mSs)] h=some (ygh 0 n,h):=by
  show (if -1000000000<=((n:Nat):Int)/\((n:Nat):Int)<=1000000000 then some (ygh 0 ((n:Nat):Int).toNat,h) else none)=_
  rw [if_pos (by omega)]
  rfl
 have l1:((ygh 0 n).length<=100000)=True:=eq_true (by simp [ygh];omega)
 have cm:yij (xOp (ycu) (ye 1) (xOp oMod (xOp oDiv (ye 2) (xOp ydp (xC (.int 3)) (ye 0))) (xC (.int 7)))) (yeX [2,0] [.val (.int c),.val (.int (n:Nat)),.val (.lst mSs)]) (ygh 0 n) h=some ((yyj c n).map fun i=>.str (mS i),h):=by
  unfold ygh yyj
  rw [map_map]
  refine (yeF (fun k:Nat=>PV.int (0+(k:Int))) _ fun k hk=>?_)
  have hk:=List.mem_range.mp hk
  show xOp (ycu) (ye 1) (xOp oMod (xOp oDiv (ye 2) (xOp ydp (xC (.int 3)) (ye 0))) (xC (.int 7))) [.val (.int (0+(k:Int))),.val (.lst mSs),.val (.int c)] h=_
  rw [zero_add]
  have d1:oDiv (.int c) (.int (3+(k:Int))) h=some (.int (c/(3+(k:Int))),h):=by
   symm
   rw [if_pos (by omega)]
  have d2:oMod (.int (c/(3+(k:Int)))) (.int 7) h=some (.int ((c/(3+(k:Int))%7).toNat:Nat),h):=by
   rw [show (((c/(3+(k:Int))%7).toNat:Nat):Int)=c/(3+(k:Int))%7 by omega]
   symm
  have d3:=yjY (h:=h) (yBa (c/(3+(k:Int))%7).toNat (by omega))
  simp_all? only [d1,d2,d3,-yDU,-ykT]
  rfl
 unfold ydt
 rw [yp]
 have s1:ybn (xFz (ycR (yb (xC (.str "let e 5")) (yb (xC (.str "plus f e b")) (yb (xC (.str "less g f a")) (yb (xC (.str "minus h b f")) (yb (xC (.str "same e g h")) (yb (xC (.str "put a f")) (yb (xC (.str "times e b b")) (yh)))))))))) (yt 2) [.val (.int c),.val (.int (n:Nat)),.no] h=some (.nx [.val (.int c),.val (.int (n:Nat)),.val (.lst mSs)],h):=rfl
 show ob (ym _ _ [.val (.int c),.val (.int (n:Nat)),.no] h) fnK=_
 rw [ydq,s1,ybq,yel]
 simp_all? only [i1,l1,cm]
theorem yBb {mid:List Nat}:yqE false (.str "put a f") (.lst (mid.map fun i=>.str (mS i))) h=some (.bl (mid.any (· == 5)),h):=by
 have e1:∀ l:List Nat,svs (l.map fun i=>PV.str (mS i))=some (l.map fun i=>V.str (mS i)):=fun l=>by
  induction l with
  | nil=>rfl
  | cons a l ih =>
   show (match sv (PV.str (mS a)),svs (l.map fun i=>PV.str (mS i)) with|some v,some vs=>some (v::vs)|_,_=>none)=_
   rw [ih]
   rfl
 have e2:inV (.str "put a f") (mid.map fun i=>V.str (mS i))=mid.any (· == 5):=by
  unfold inV
  rw [List.any_map]
  congr 1
  funext i
  match i with
  | 0|1|2|3|4|5=>kernel_rfl!
  | n+6=>rw [show (n+6 == 5)=false by simp];kernel_rfl!
 unfold yqE
 show (match some (V.str "put a f"),some (mid.map fun i=>PV.str (mS i)) with|some v,some ys=>(match svs ys with|some us=>some (PV.bl (if false then !inV v us else inV v us),h)|none=>none)|_,_=>none)=_
 simp only [e1,e2]
 rfl
end
section
variable {h:AH}{ns:List Int}{W b0 i z o w:Nat}{bx:List Int}{v:Int}{mid:List Nat}{rws:List Rw}
theorem yni:∀ {p:List (Nat×Kd)}{s:RS},Ch W rws p s->yhU p≠.gone/\∀ j,yhU p≠.seen j
 | [(t,k)],s,C=>by
  obtain ⟨_,_,r,_,_,C⟩:=C
  cases k with
  | gone=>obtain ⟨_,_,_,C⟩:=C;exact C.elim
  | seen j=>obtain ⟨_,_,_,_,_,_,C⟩:=C;exact (C 0 0 ⟨by decide,by decide⟩).elim
  | _=>exact ⟨fun e=>(by cases e),fun j e=>(by cases e)⟩
 | (t,k)::q::p,s,C=>by
  obtain ⟨_,_,r,_,_,C⟩:=C
  cases k with
  | gone =>
   obtain ⟨_,_,_,C⟩:=C
   have:=yni (p:=q::p) C
   exact this
  | seen j =>
   obtain ⟨_,_,_,_,_,_,C⟩:=C
   have:=yni (p:=q::p) (C 0 0 ⟨by decide,by decide⟩)
   exact this
  | asleep=>exact absurd C.1 (fun e=>by cases e)
  | fell=>exact absurd C.1 (fun e=>by cases e)
  | done=>exact absurd C.1 (fun e=>by cases e)
theorem ysh:∀ n t,(mW t n).length=n
 | 0,_=>rfl
 | n+1,t=>by show (mW (t+1) n).length+1=_;rw [ysh]
theorem yvC (hm:mid.length<=9) (hw:w<12):2<=(dW i z mid w).length/\(dW i z mid w).length<=80:=by
 have:∀ w,w<12->∀ (m:Nat) (b:Bool),(eW z m b w).length<=7:=by
  apply yuA
  all_goals intro m b
  all_goals exact Nat.le_of_ble_eq_true (by cases b<;>kernel_rfl!)
 have e:=this w hw (2+mid.length) (mid.any (· == 5) && decide (z=i))
 unfold dW
 rw [length_cons,length_cons,length_append,ysh]
 omega
def dL (X Y:Str) (mid:List Nat) (w:Nat):List Str:=dA X mid++if w=3 then [] else [eS Y w]
theorem yBc {Y:Str}(hw:w<12):w≠3->1<=(eS Y w).length:=by
 have k1:("let d ":Str).length=6:=by rfl'
 revert hw
 refine yuA (P:=fun w=>w≠3->1<=(eS Y w).length) ?_ ?_ ?_ ?_ ?_ ?_ ?_ ?_ ?_ ?_ ?_ ?_ w<;>first|exact fun h=>absurd rfl h|exact fun _=>Nat.le_of_ble_eq_true (by kernel_rfl!)|(intro _;simp only [eS,ycO,k1];omega)
theorem yoy:∀ l:List Str,(l.map (·.length)).sum<=(Str.join " ; " l).length
 | []=>zero_le _
 | [x]=>by simp [Str.join]
 | x::y::r=>by
  have:=yoy (y::r)
  show _<=(x++" ; "++Str.join " ; " (y::r)).length
  rw [ycO,ycO,map_cons,List.sum_cons]
  omega
theorem yBd {v3 v4 v5 v6 v9 v10:PVar}(A:At h [(b0,.lst (bx.map .int))]) (lb:bx.length=W) (h2:2<=W) (h16:W<=16) (bb:∀ i∈bx,inB i) (hi:i<W) (hz:z<W) (ho:o<W) (hv:inB v) (hw:w<12) (hm:mid.length<=9) :
  ∃ h',ob (laU [.val (.scr ns),.val (.int (W:Nat)),.val (.loc b0),v3,v4,v5,v6,.val (.int (o:Nat)),.val (.int v),v9,v10,.val (.lst ((dL (tI i) (tI z) mid w).map .str)),.val (.lst ((dW i z mid w).map kdV)),.val (.str (oS (tI o) (tI v))),.no,.no,.no] h) fnK=some (.bl true,h'):=by
 have bn:∀ {k:Nat},k<16->(0:Int)<=(k:Nat)/\((k:Nat):Int)<B64:=fun h=>by unfold B64;omega
 have lo:=yfL (A.get 0 rfl)
 have jn:∀ h,yoO (.str " ; ") [.lst ((dL (tI i) (tI z) mid w).map .str)] h=some (.str (dS (tI i) (tI z) mid w),h):=fun h=>yAj (yiH _) (by rfl') (Nat.le_trans (Nat.add_le_add (Nat.le_trans (yoy _) (yAR (bn (by omega)) (bn (by omega)) hm hw).2) (show (dL (tI i) (tI z) mid w).length<=12 by unfold dL dA;simp only [length_append,length_cons,length_nil,length_map];split<;>simp<;>omega)) (by decide))
 subst lb
 obtain ⟨k1,g,as,q2,hg,q3⟩:=yrU (h:=h) (bx:=bx) (hs:=[[(dS (tI i) (tI z) mid w,dR i z mid w)],[(oS (tI o) (tI v),oR (o:Nat) v)]]) (by omega) h16 bb (fun p hp=>by
  simp only [mem_cons,List.not_mem_nil,or_false] at hp
  rcases hp with rfl|rfl
  .exact ⟨by show 1<=6;omega,fun d hd'=>by rw [List.mem_singleton.mp hd'];exact (yAR (bn (by omega)) (bn (by omega)) hm hw).1⟩
  .exact ⟨by show 1<=6;omega,fun d hd'=>by rw [List.mem_singleton.mp hd'];exact (yDe (bn (by omega)) hv).1⟩) (by simp) (by simp)
 have X:=q3 _ A
 obtain ⟨a0,a1,rfl⟩:∃ a0 a1,as=[a0,a1]:=by
  have l3:=X.ly.len
  match as,l3 with
  | [a0,a1],_=>exact ⟨_,_,rfl⟩
 have C:Ch bx.length (dR i z mid w) (dW i z mid w) (S0 Z8):=yxU hi hz hw
 obtain ⟨n2,n80⟩:=yvC (i:=i) (z:=z) hm hw
 obtain ⟨cl1,cl2⟩:=yni C
 have pne:dW i z mid w≠[]:=fun e=>by rw [e] at n2;simp at n2
 generalize dW i z mid w=p at *
 obtain ⟨sl,esl⟩:∃ sl:Nat,ns.getD 6 0%((p.map kdV).length:Nat)=(sl:Nat):=⟨(ns.getD 6 0%((p.map kdV).length:Nat)).toNat,by have:=Int.emod_nonneg (ns.getD 6 0) (show (((p.map kdV).length:Nat):Int)≠0 by rw [length_map];omega);omega⟩
 have hsl:sl<p.length:=by have:=Int.emod_lt_of_pos (ns.getD 6 0) (show (0:Int)<((p.map kdV).length:Nat) by rw [length_map];omega);rw [length_map] at *;omega
 have c6:∀ h,yy [.scr ns,.int 6] h=some (.int (ns.getD 6 0),h):=fun _=>ycH 6
 have m6:∀ h,oMod (.int (ns.getD 6 0)) (.int ((p.map kdV).length:Nat)) h=some (.int (sl:Nat),h):=fun h=>by
  symm
  rw [if_pos (by rw [length_map];omega),esl]
 have ln:∀ h,ycg [.lst (p.map kdV)] h=some (.int ((p.map kdV).length:Nat),h):=fun h=>rfl
 obtain ⟨k2,r,e1,O⟩:=ypf (en:=[]) (sl:=sl) X rfl (by simp) (by omega) h16 (by simp) bb ho hv C n80 hsl
 rw [hg] at e1
 have mk:ycm [.loc h.length,.lst (bx.map .int),.lst [.lst [.str (dS (tI i) (tI z) mid w)],.lst [.str (oS (tI o) (tI v))]]] (h++[Nd.ins 15 [] []])=some (.non,k1):=q2
 rcases O with ⟨rfl,F⟩|⟨rfl,b1,b2,X2⟩
 .have e3:=yiZ pne cl1 cl2 F
  rw [hg] at e3
  refine ⟨k2,?_⟩
  unfold laU
  clear q2 q3 X C F cl1 cl2 esl hg
  simp_all? only [lo,jn,ymG,mk,c6,m6,ln,e1,e3]
  exact if_neg (by rfl')
 .obtain ⟨k3,e2,F⟩:=ypg X2 (by rw [length_set]) (by rw [yhf];simp) (by omega) h16 (by simp) (fun i hi=>(List.mem_or_eq_of_mem_set hi).elim (bb i) (fun e=>e ▸ hv)) C n80
  have e3:=yiZ pne cl1 cl2 F
  rw [hg] at e2 e3
  have ng:∀ h,yvb (.int 1) h=some (.int (-1),h):=fun _=>rfl
  refine ⟨k3,?_⟩
  unfold laU
  clear q2 q3 X X2 C F cl1 cl2 esl hg
  simp_all? only [lo,jn,ymG,mk,c6,m6,ln,e1,e2,e3,ng]
end
section
variable {h:AH}{ns:List Int}{W b0 i z o w:Nat}{bx:List Int}{v:Int}{mid:List Nat}{v6:PVar}{V:PV}
theorem yBe:∀ n t,mW t n=(List.range n).map fun k=>(t+k,Kd.gone)
 | 0,_=>rfl
 | n+1,t=>by
  show (t,Kd.gone)::mW (t+1) n=_
  rw [yBe n,List.range_succ_eq_map,map_cons,map_map]
  congr 1
  refine List.map_congr_left fun k _=>?_
  show (t+1+k,Kd.gone)=(t+(k+1),Kd.gone)
  rw [add_assoc,Nat.add_comm 1 k]
theorem yDq {h1:AH}(e:ybY [.int (w:Nat),.int (z:Nat),.int ((2+mid.length:Nat):Int),.bl (mid.any (· == 5) && decide (z=i))] h=some (.tup [.str (eS (tI z) w),V],h1)):lS1 (frV ns W b0 i z w v6 (.val (.int (o:Nat))) (.val (.int v)) (.val (.lst (mid.map fun i=>.str (mS i)))) .no .no .no .no .no .no .no) h=some (.nx (frV ns W b0 i z w v6 (.val (.int (o:Nat))) (.val (.int v)) (.val (.lst (mid.map fun i=>.str (mS i)))) (.val (.tup [.str (eS (tI z) w),V])) .no .no .no .no .no .no),h1):=by
 have ln:ycg [.lst (mid.map fun i=>.str (mS i))] h=some (.int (mid.length:Nat),h):=by
  show some (PV.int ((mid.map fun i=>PV.str (mS i)).length:Nat),h)=_
  rw [length_map]
 have ip:=yBb (h:=h) (mid:=mid)
 have ad:ydp (.int 2) (.int (mid.length:Nat)) h=some (.int ((2+mid.length:Nat):Int),h):=rfl
 have eq:oEq (.int (z:Nat)) (.int (i:Nat)) h=some (.bl (decide (z=i)),h):=by
  rw [yio]
  by_cases k:z=i
  .subst k;simp
  .have:((z:Nat):Int)≠(i:Nat):=by omega
   simp [k,this]
 by_cases k:z=i
 .rw [decide_eq_true k] at e eq
  rw [Bool.and_true] at e
  clear k
  unfold lS1 frV
  simp_all? only [ln,ip,ad,eq,e,-yqw,-x_i,-yio]
 .rw [decide_eq_false k] at e eq
  rw [Bool.and_false] at e
  clear k
  unfold lS1 frV
  simp_all? only [ln,ip,ad,eq,e,-yqw,-x_i,-yio]
theorem yDr (hi:i<16) (hz:z<16) (hm:mid.length<=9) (hw:w<12):lS2 (frV ns W b0 i z w v6 (.val (.int (o:Nat))) (.val (.int v)) (.val (.lst (mid.map fun i=>.str (mS i)))) (.val (.tup [.str (eS (tI z) w),V])) .no .no .no .no .no .no) h=some (.nx (frV ns W b0 i z w v6 (.val (.int (o:Nat))) (.val (.int v)) (.val (.lst (mid.map fun i=>.str (mS i)))) (.val (.tup [.str (eS (tI z) w),V])) (.val (.lst ((dL (tI i) (tI z) mid w).map .str))) .no .no .no .no .no),h):=by
 have bn:∀ {k:Nat},k<16->(0:Int)<=(k:Nat)/\((k:Nat):Int)<B64:=fun h=>by unfold B64;omega
 have s1:=yuE (h:=h) (bn hi)
 have g1:=eq_true (yse (bn hi))
 have l1:=yuF (bn hi)
 have ad:yek (.str "let a ") (.str (tI i)) h=some (.str ("let a "++(tI i)),h):=by
  symm
  rw [if_pos (by omega)]
 have i0:ybb (.tup [.str (eS (tI z) w),V]) (.int 0) h=some (.str (eS (tI z) w),h):=rfl
 have nE:∀ E:Str,E≠""->oNe (.str E) (.str "") h=some (.bl true,h):=fun E hE=>by rw [yzB];simp [hE]
 have cm:∀ ρ,yyg (yq (xOp (oNe) (ye 0) (xC (.str "")))) (ye 0) (yeX [] ρ) [.str (eS (tI z) w)] h=some (if w=3 then [] else [.str (eS (tI z) w)],h):=fun ρ=>by
  by_cases k:w=3
  .subst k
   rfl
  .rw [if_neg k]
   have ne:oNe (.str (eS (tI z) w)) (.str "") h=some (.bl true,h):=by
    have:eS (tI z) w≠"":=fun y=>by
     have q:=yBc (Y:=(tI z)) hw k
     rw [y] at q
     exact absurd q (by rfl')
    exact nE _ this
   show ob (yq (xOp (oNe) (ye 0) (xC (.str ""))) [.val (.str (eS (tI z) w))] h) _=_
   have tt:yq (xOp (oNe) (ye 0) (xC (.str ""))) [.val (.str (eS (tI z) w))] h=some (true,h):=by simp_all? only [ne]
   rw [tt]
   rfl
 have ci:yhC (xIL (xFz (ycR (yb (xOp (ybb) (ye 10) (xC (.int 0))) (yh))))) [] (yq (xOp (oNe) (ye 0) (xC (.str "")))) (ye 0) (frV ns W b0 i z w v6 (.val (.int (o:Nat))) (.val (.int v)) (.val (.lst (mid.map fun i=>.str (mS i)))) (.val (.tup [.str (eS (tI z) w),V])) .no .no .no .no .no .no) h=some (.lst (if w=3 then [] else [.str (eS (tI z) w)]),h):=by
  have i1:xIL (xFz (ycR (yb (xOp (ybb) (ye 10) (xC (.int 0))) (yh)))) (frV ns W b0 i z w v6 (.val (.int (o:Nat))) (.val (.int v)) (.val (.lst (mid.map fun i=>.str (mS i)))) (.val (.tup [.str (eS (tI z) w),V])) .no .no .no .no .no .no) h=some ([.str (eS (tI z) w)],h):=rfl
  unfold yhC
  rw [i1,ybq,if_pos (by show 1<100000;omega),cm,ybq]
 have c1:yhb (.lst [.str ("let a "++(tI i)),.str "take b a"]) (.lst (mid.map fun i=>.str (mS i))) h=some (.lst ([.str ("let a "++(tI i)),.str "take b a"]++mid.map fun i=>.str (mS i)),h):=by
  unfold yhb yW
  dsimp only
  rw [if_pos (by rw [length_map];show 2+_<=_;omega)]
 have c2:yhb (.lst ([.str ("let a "++(tI i)),.str "take b a"]++mid.map fun i=>.str (mS i))) (.lst (if w=3 then [] else [.str (eS (tI z) w)])) h=some (.lst ((dL (tI i) (tI z) mid w).map .str),h):=by
  unfold yhb yW
  dsimp only
  rw [if_pos (by rw [length_append,length_map];show 2+_+_<=_;split<;>simp<;>omega)]
  unfold dL dA
  rw [map_append,map_append,map_map]
  split<;>rfl
 clear cm nE i0
 unfold lS2 frV at *
 simp_all? only [s1,g1,ad,ci,c1,c2]
end
section
variable {h:AH}{ns:List Int}{W b0 i z o w:Nat}{bx:List Int}{v:Int}{mid:List Nat}{v6:PVar}{V:PV}
theorem yDs (hm:mid.length<=9) (hw:w<12) (hV:yW V h=some ((eW z (2+mid.length) (mid.any (· == 5) && decide (z=i)) w).map kdV)):lS3 (frV ns W b0 i z w v6 (.val (.int (o:Nat))) (.val (.int v)) (.val (.lst (mid.map fun i=>.str (mS i)))) (.val (.tup [.str (eS (tI z) w),V])) (.val (.lst ((dL (tI i) (tI z) mid w).map .str))) .no .no .no .no .no) h=some (.nx (frV ns W b0 i z w v6 (.val (.int (o:Nat))) (.val (.int v)) (.val (.lst (mid.map fun i=>.str (mS i)))) (.val (.tup [.str (eS (tI z) w),V])) (.val (.lst ((dL (tI i) (tI z) mid w).map .str))) (.val (.lst ((dW i z mid w).map kdV))) .no .no .no .no),h):=by
 have dl:=(yvC (i:=i) (z:=z) hm hw).2
 have i1:yms (yb (xCB (ycg) (yb (ye 9) (yh))) (yh)) (frV ns W b0 i z w v6 (.val (.int (o:Nat))) (.val (.int v)) (.val (.lst (mid.map fun i=>.str (mS i)))) (.val (.tup [.str (eS (tI z) w),V])) (.val (.lst ((dL (tI i) (tI z) mid w).map .str))) .no .no .no .no .no) h=some (ygh 0 mid.length,h):=by
  have e1:yb (xCB (ycg) (yb (ye 9) (yh))) (yh) (frV ns W b0 i z w v6 (.val (.int (o:Nat))) (.val (.int v)) (.val (.lst (mid.map fun i=>.str (mS i)))) (.val (.tup [.str (eS (tI z) w),V])) (.val (.lst ((dL (tI i) (tI z) mid w).map .str))) .no .no .no .no .no) h=some ([.int ((mid.map fun i=>PV.str (mS i)).length:Nat)],h):=rfl
  rw [yvj e1 (by omega) (by rw [length_map];omega),Int.toNat_natCast,length_map]
 have l1:((ygh 0 mid.length).length<=100000)=True:=eq_true (by simp [ygh];omega)
 have cm:∀ ρ,yij (ybS (yb (xOp ydp (xC (.int 2)) (ye 0)) (yb (xC (.str "gone")) (yh)))) (yeX [] ρ) (ygh 0 mid.length) h=some ((mW 2 mid.length).map kdV,h):=fun ρ=>by
  rw [yBe,map_map]
  unfold ygh
  refine (yeF (fun k:Nat=>PV.int (0+(k:Int))) _ fun k hk=>?_)
  show some (PV.tup [.int (2+(0+(k:Int))),.str "gone"],h)=_
  rw [zero_add]
  rfl
 have c1:yhb (.lst [.tup [.int 0,.str "gone"],.tup [.int 1,.str "seen",.int (i:Nat)]]) (.lst ((mW 2 mid.length).map kdV)) h=some (.lst ([kdV (0,.gone),kdV (1,.seen i)]++(mW 2 mid.length).map kdV),h):=by
  unfold yhb yW
  dsimp only
  rw [if_pos (by rw [length_map,ysh];show 2+_<=_;omega)]
  rfl
 have c2:yhb (.lst ([kdV (0,.gone),kdV (1,.seen i)]++(mW 2 mid.length).map kdV)) V h=some (.lst ((dW i z mid w).map kdV),h):=by
  have ev:(dW i z mid w).map kdV=([kdV (0,.gone),kdV (1,.seen i)]++(mW 2 mid.length).map kdV)++(eW z (2+mid.length) (mid.any (· == 5) && decide (z=i)) w).map kdV:=by
   unfold dW
   rw [map_cons,map_cons,map_append]
   rfl
  have ln:=congrArg length ev
  rw [length_map] at ln
  unfold yhb
  rw [hV]
  show (if _ then _ else _)=_
  rw [if_pos (by rw [length_append] at ln;omega),ev]
 have i2:ybb (.tup [.str (eS (tI z) w),V]) (.int 1) h=some (V,h):=rfl
 clear hV dl
 unfold lS3 frV at *
 simp_all? only [i1,l1,cm,c1,c2,i2,-yzE,-yzD]
theorem yDt {v10 v11 v12:PVar}(ho:o<16) (hv:inB v):lS4 (frV ns W b0 i z w v6 (.val (.int (o:Nat))) (.val (.int v)) (.val (.lst (mid.map fun i=>.str (mS i)))) v10 v11 v12 .no .no .no .no) h=some (.nx (frV ns W b0 i z w v6 (.val (.int (o:Nat))) (.val (.int v)) (.val (.lst (mid.map fun i=>.str (mS i)))) v10 v11 v12 (.val (.str (oS (tI o) (tI v)))) .no .no .no),h):=by
 have bo:(0:Int)<=(o:Nat)/\((o:Nat):Int)<B64:=by unfold B64;omega
 have s1:=yuE (h:=h) bo
 have s2:=yuE (h:=h) hv
 have g1:=eq_true (yse bo)
 have g2:=eq_true (yse hv)
 have l1:=yuF bo
 have l2:=yuF hv
 have k1:("let a ":Str).length=6:=by rfl'
 have k2:(" ; let c ":Str).length=9:=by rfl'
 have k3:(" ; put a c":Str).length=10:=by rfl'
 have a1:yek (.str "let a ") (.str (tI o)) h=some (.str ("let a "++(tI o)),h):=by
  rw [ykS,if_pos (by omega)]
 have a2:yek (.str ("let a "++(tI o))) (.str " ; let c ") h=some (.str ("let a "++(tI o)++" ; let c "),h):=by
  rw [ykS,if_pos (by rw [ycO];omega)]
 have a3:yek (.str ("let a "++(tI o)++" ; let c ")) (.str (tI v)) h=some (.str ("let a "++(tI o)++" ; let c "++(tI v)),h):=by
  rw [ykS,if_pos (by rw [ycO,ycO];omega)]
 have a4:yek (.str ("let a "++(tI o)++" ; let c "++(tI v))) (.str " ; put a c") h=some (.str (oS (tI o) (tI v)),h):=by
  rw [ykS,if_pos (by rw [ycO,ycO,ycO];omega)]
  rfl
 unfold lS4 frV
 simp_all? only [s1,s2,g1,g2,a1,a2,a3,a4]
theorem yBf (A:At h [(b0,.lst (bx.map .int))]) (lb:bx.length=W) (h2:2<=W) (h16:W<=16) (bb:∀ i∈bx,inB i) (hi:i<W) (hz:z<W) (ho:o<W) (hv:inB v) (hw:w<12) (hm:mid.length<=9) :
  ∃ h',ob (laV (frV ns W b0 i z w v6 (.val (.int (o:Nat))) (.val (.int v)) (.val (.lst (mid.map fun i=>.str (mS i)))) .no .no .no .no .no .no .no) h) fnK=some (.bl true,h'):=by
 obtain ⟨h1,V,e1,hV,F⟩:=ysf (h:=h) (z:=z) (m:=2+mid.length) (by omega) (mid.any (· == 5) && decide (z=i)) w hw
 obtain ⟨h',e2⟩:=yBd (ns:=ns) (v3:=.val (.int (i:Nat))) (v4:=.val (.int (z:Nat))) (v5:=.val (.int (w:Nat))) (v6:=v6) (v9:=.val (.lst (mid.map fun i=>.str (mS i)))) (v10:=.val (.tup [.str (eS (tI z) w),V])) (F _ A) lb h2 h16 bb hi hz ho hv hw hm
 refine ⟨h',?_⟩
 unfold laV
 rw [ydq,yDq e1,ybq,yel,ydq,yDr (by omega) (by omega) hm hw,ybq,yel,ydq,yDs hm hw hV,ybq,yel,ydq,yDt (by omega) hv,ybq,yel]
 exact e2
end
def bxV (W:Nat) (c:Int):List Int:=(List.range W).map fun (k:Nat)=>yvB (c+31*(k:Int)*k)
abbrev frM (ns:List Int) (W b0 i z w:Nat) (M:Int) (v7 v8 v9:PVar):PSt:=frV ns W b0 i z w (.val (.int M)) v7 v8 v9 .no .no .no .no .no .no .no
section
variable {h:AH}{ns:List Int}{W b0 i z w:Nat}{bx:List Int}{M:Int}
theorem yDu {ρ:PSt}(hρ:ρ[0]?=some (.val (.scr ns))) (h16:W<=16):yij bxE (yeX [0] ρ) (ygh 0 W) h=some ((bxV W (ns.getD 1 0)).map .int,h):=by
 have c1:yy [.scr ns,.int 1] h=some (.int (ns.getD 1 0),h):=ycH 1
 have hi:∀ x,yeX [0] ρ x=[.val x,.val (.scr ns)]:=fun x=>by
  unfold yeX yqh
  simp [hρ]
 unfold ygh bxV
 rw [map_map]
 refine (yeF (fun k:Nat=>PV.int (0+(k:Int))) _ fun k hk=>?_)
 have hk:=List.mem_range.mp hk
 rw [hi]
 have m1:PX.MulOk 31 (k:Int)=True:=ynK (by omega) (by omega)
 have m2:PX.MulOk (31*(k:Int)) (k:Int)=True:=ynK (by omega) (by omega)
 have z:(0:Int)+(k:Int)=k:=by omega
 rw [z]
 unfold bxE
 simp_all? only [c1,m1,m2,ygI]
 rfl
theorem yDv (h1:1<=W) (hi:i<W) {v8 v9:PVar}:∃ o:Nat,o<W/\lM2 (frM ns W b0 i z w M (.val (.int (i:Nat))) v8 v9) h=some (.nx (frM ns W b0 i z w M (.val (.int (o:Nat))) v8 v9),h):=by
 obtain ⟨o,eo,ho⟩:=yxQ h1 (M/3)
 have m1:oMod (.int (M/3)) (.int (W:Nat)) h=some (.int (o:Nat),h):=by
  symm
  rw [if_pos (by omega),eo]
 by_cases e:M%3=0
 .have q:oEq (.int (M%3)) (.int 0) h=some (.bl true,h):=by rw [yio];simp [e]
  clear e
  exact ⟨o,ho,by unfold lM2 frM frV;simp_all? only [q,m1,eo,show (0<((W:Nat):Int))=True from eq_true (by omega)]⟩
 .have q:oEq (.int (M%3)) (.int 0) h=some (.bl false,h):=by rw [yio];simp [e]
  clear e
  exact ⟨i,hi,by unfold lM2 frM frV;simp_all? only [q]⟩
theorem yDw {o:Nat}{c:Int}(A:At h [(b0,.lst (bx.map .int))]) (bb:∀ i∈bx,inB i) (ho:o<bx.length) {v9:PVar}:∃ v,inB v/\lM4 (frM ns W b0 i z w M (.val (.int (o:Nat))) (.val (.int (yvB c))) v9) h=some (.nx (frM ns W b0 i z w M (.val (.int (o:Nat))) (.val (.int v)) v9),h):=by
 have ix:=yes (A.get 0 rfl) ho
 by_cases e:M/100%3=0
 .have q:oEq (.int (M/100%3)) (.int 0) h=some (.bl true,h):=by rw [yio];simp [e]
  clear e
  exact ⟨_,getD_in bb ho,by unfold lM4 frM frV;simp_all? only [q,ix]⟩
 .have q:oEq (.int (M/100%3)) (.int 0) h=some (.bl false,h):=by rw [yio];simp [e]
  clear e
  exact ⟨_,ysd c,by unfold lM4 frM frV;simp_all? only [q]⟩
theorem yBg (A:At h [(b0,.lst (bx.map .int))]) (lb:bx.length=W) (h2:2<=W) (h16:W<=16) (bb:∀ i∈bx,inB i) (hi:i<W) (hz:z<W) (hw:w<12):∃ h',ob (laM (frM ns W b0 i z w M .no .no .no) h) fnK=some (.bl true,h'):=by
 obtain ⟨o,ho,e7⟩:=yDv (h:=h) (ns:=ns) (b0:=b0) (z:=z) (w:=w) (M:=M) (v8:=.no) (v9:=.no) (by omega) hi
 obtain ⟨v,hv,e9⟩:=yDw (ns:=ns) (W:=W) (i:=i) (z:=z) (w:=w) (M:=M) (c:=ns.getD 5 0) (v9:=.no) A bb (by rw [lb];exact ho)
 obtain ⟨n,en⟩:∃ n:Nat,ns.getD 3 0/12%10=(n:Nat):=⟨(ns.getD 3 0/12%10).toNat,by omega⟩
 have c3:yy [.scr ns,.int 3] h=some (.int (ns.getD 3 0),h):=ycH 3
 have c5:yy [.scr ns,.int 5] h=some (.int (ns.getD 5 0),h):=ycH 5
 have md:=ysg (h:=h) (c:=M/300) (n:=n) (by omega)
 have e6:(ybn (ye 3) (yt 7)) (frM ns W b0 i z w M .no .no .no) h=some (.nx (frM ns W b0 i z w M (.val (.int (i:Nat))) .no .no),h):=rfl
 have e8:lM3 (frM ns W b0 i z w M (.val (.int (o:Nat))) .no .no) h=some (.nx (frM ns W b0 i z w M (.val (.int (o:Nat))) (.val (.int (yvB (ns.getD 5 0)))) .no),h):=by
  clear e7 e9 md
  unfold lM3 frM frV
  simp_all? only [c5,ygI]
 have e10:lM5 (frM ns W b0 i z w M (.val (.int (o:Nat))) (.val (.int v)) .no) h=some (.nx (frM ns W b0 i z w M (.val (.int (o:Nat))) (.val (.int v)) (.val (.lst ((yyj (M/300) n).map fun i=>.str (mS i))))),h):=by
  clear e7 e9 e8 e6
  unfold lM5 frM frV
  simp_all? only [c3,en,md]
 obtain ⟨h',e⟩:=yBf (ns:=ns) (v6:=.val (.int M)) (mid:=yyj (M/300) n) A lb h2 h16 bb hi hz ho hv hw (by simp [yyj];omega)
 refine ⟨h',?_⟩
 unfold laM
 rw [ydq,e6,ybq,yel,ydq,e7,ybq,yel,ydq,e8,ybq,yel,ydq,e9,ybq,yel,ydq,e10,ybq,yel,e]
theorem yBh (ns:List Int) (hl:ns.length<=63):∃ h',ytX [.scr ns] h=some (.bl true,h'):=by
 obtain ⟨W,hW⟩:∃ W:Nat,2+ns.getD 0 0%15=(W:Nat):=⟨(2+ns.getD 0 0%15).toNat,by omega⟩
 have h2:2<=W:=by omega
 have h16:W<=16:=by omega
 obtain ⟨x,ex,hx⟩:=yxQ (W:=W) (by omega) (ns.getD 2 0)
 obtain ⟨y,ey,hy⟩:=yxQ (W:=W) (by omega) (ns.getD 2 0/16)
 obtain ⟨w0,ew⟩:∃ w:Nat,ns.getD 3 0%12=(w:Nat):=⟨(ns.getD 3 0%12).toNat,by omega⟩
 have c0:yy [.scr ns,.int 0] h=some (.int (ns.getD 0 0),h):=ycH 0
 have c2:∀ h,yy [.scr ns,.int 2] h=some (.int (ns.getD 2 0),h):=fun _=>ycH 2
 have c3:∀ h,yy [.scr ns,.int 3] h=some (.int (ns.getD 3 0),h):=fun _=>ycH 3
 have c4:∀ h,yy [.scr ns,.int 4] h=some (.int (ns.getD 4 0),h):=fun _=>ycH 4
 have mk:MulOk (ns.getD 4 0) 48271=True:=ynK (by decide) (by decide)
 have m2:∀ h,oMod (.int (ns.getD 2 0)) (.int (W:Nat)) h=some (.int (x:Nat),h):=fun h=>by
  symm
  rw [if_pos (by omega),ex]
 have m3:∀ h,oMod (.int (ns.getD 2 0/16)) (.int (W:Nat)) h=some (.int (y:Nat),h):=fun h=>by
  symm
  rw [if_pos (by omega),ey]
 have i1:yms (yb (ye 1) (yh)) [.val (.scr ns),.val (.int (W:Nat)),.no,.no,.no,.no,.no,.no,.no,.no,.no,.no,.no,.no,.no,.no,.no] h=some (ygh 0 W,h):=by
  show (if -1000000000<=((W:Nat):Int)/\((W:Nat):Int)<=1000000000 then some (ygh 0 ((W:Nat):Int).toNat,h) else none)=_
  rw [if_pos (by omega)]
  rfl
 have l1:((ygh 0 W).length<=100000)=True:=eq_true (by simp [ygh];omega)
 have b1:=yDu (h:=h) (ns:=ns) (W:=W) (ρ:=[.val (.scr ns),.val (.int (W:Nat)),.no,.no,.no,.no,.no,.no,.no,.no,.no,.no,.no,.no,.no,.no,.no]) rfl h16
 have bl:(bxV W (ns.getD 1 0)).length=W:=by simp [bxV]
 have bb:∀ i∈bxV W (ns.getD 1 0),inB i:=fun i hi=>by
  obtain ⟨k,_,rfl⟩:=List.mem_map.mp hi
  exact ysd _
 generalize bxV W (ns.getD 1 0)=bx at *
 have e0:At h []:=⟨List.nodup_nil,fun p hp=>by simp at hp⟩
 have A1:=At.new (Nd.lst (bx.map .int)) (a:=[]) e0
 obtain ⟨h',q⟩:=yBg (ns:=ns) (M:=ns.getD 4 0*48271%2147483647) (w:=w0) A1 bl h2 h16 bb hx hy (by omega)
 refine ⟨h',?_⟩
 unfold ytX
 rw [yp]
 show ob (ym _ (ym (ybn (yfG (yeD _ _ bxE)) _) (ym _ (ym _ (ym _ (ym _ laM))))) [.val (.scr ns),.no,.no,.no,.no,.no,.no,.no,.no,.no,.no,.no,.no,.no,.no,.no,.no] h) fnK=_
 clear ex ey hx hy bb bl h2 h16 e0 A1 hl
 simp_all? only [c0,hW,i1,l1,b1,c2,c3,c4,m2,m3,ew,mk]
 exact q
end
end
def top (i:Nat):Stmt:=PySem.Challenge.pw_retryhall_k23_stale_begins_anew.main.body.getD i (.Pass ⟨0,0,0,0⟩)
abbrev FR:=Str×Str×Stmt×Nat×List Str
abbrev fRw (x q:Str) (s:Stmt) (k:Nat) (n:List Str):FR:=(x,q,s,k,n)
abbrev mRw (k:Nat) (x:Str) (n:Nat):Nat×Str×Nat:=(k,x,n)
def r0:FR:=fRw "__init__" "Log.__init__" (inClass (top 8) 0) 1 ["self"]
def r1:FR:=fRw "write" "Log.write" (inClass (top 8) 1) 3 ["self","box","number","top"]
def r2:FR:=fRw "own" "Log.own" (inClass (top 8) 2) 2 ["self","box","layer"]
def r3:FR:=fRw "begin" "Log.begin" (inClass (top 8) 3) 1 ["self"]
def r4:FR:=fRw "settle" "Log.settle" (inClass (top 8) 4) 1 ["self","top","beneath"]
def r5:FR:=fRw "drop" "Log.drop" (inClass (top 8) 5) 1 ["self"]
def r6:FR:=fRw "see" "Log.see" (inClass (top 8) 7) 3 ["self","box","number"]
def r7:FR:=fRw "saw" "Log.saw" (inClass (top 8) 8) 1 ["self"]
def r8:FR:=fRw "wrote" "Log.wrote" (inClass (top 8) 9) 1 ["self","lowest"]
def r9:FR:=fRw "reckon" "reckon" (top 15) 3 ["word","one","other"]
def r10:FR:=fRw "is_whole" "is_whole" (top 16) 1 ["value"]
def r11:FR:=fRw "is_number" "is_number" (top 17) 1 ["value"]
def r12:FR:=fRw "is_made_of" "is_made_of" (top 23) 2 ["text","signs"]
def r13:FR:=fRw "number_of" "number_of" (top 18) 1 ["text","number"]
def r14:FR:=fRw "is_word" "is_word" (top 19) 1 ["text"]
def r15:FR:=fRw "is_slot" "is_slot" (top 20) 1 ["text"]
def r16:FR:=fRw "slot_index" "slot_index" (top 21) 1 ["slot"]
def r17:FR:=fRw "is_name" "is_name" (top 22) 1 ["text"]
def r18:FR:=fRw "__init__" "Doer.__init__" (inClass (top 25) 0) 3 ["self","slots","width"]
def r19:FR:=fRw "held_in" "Doer.held_in" (inClass (top 25) 1) 2 ["self","slot"]
def r20:FR:=fRw "hold" "Doer.hold" (inClass (top 25) 2) 3 ["self","slot","number"]
def r21:FR:=fRw "box_at" "Doer.box_at" (inClass (top 25) 3) 2 ["self","place"]
def r22:FR:=fRw "do_reckon" "Doer.do_reckon" (inClass (top 25) 4) 5 ["self","word","slot","one","other"]
def r23:FR:=fRw "do_put" "Doer.do_put" (inClass (top 25) 5) 3 ["self","place","slot"]
def r24:FR:=fRw "sees_at" "Doer.sees_at" (inClass (top 25) 6) 2 ["self","place"]
def r25:FR:=fRw "take_own" "Doer.take_own" (inClass (top 25) 7) 3 ["self","slot","place"]
def r26:FR:=fRw "take_seen" "Doer.take_seen" (inClass (top 25) 8) 4 ["self","slot","place","numbers","box"]
def r27:FR:=fRw "takes" "takes" (top 27) 2 ["begun_by","row"]
def r28:FR:=fRw "__init__" "Run.__init__" (inClass (top 28) 0) 4 ["self","rows","slots","width"]
def r29:FR:=fRw "row" "Run.row" (inClass (top 28) 1) 1 ["self"]
def r30:FR:=fRw "is_stale" "Run.is_stale" (inClass (top 28) 2) 2 ["self","stamps"]
def r31:FR:=fRw "taker_layer" "Run.taker_layer" (inClass (top 28) 3) 2 ["self","row","layer"]
def r32:FR:=fRw "is_looked_over" "Run.is_looked_over" (inClass (top 28) 4) 1 ["self","row"]
def r33:FR:=fRw "see_next" "Run.see_next" (inClass (top 28) 5) 3 ["self","numbers","stamps","row","box"]
def r34:FR:=fRw "go_plain" "Run.go_plain" (inClass (top 28) 7) 2 ["self","row"]
def r35:FR:=fRw "lead" "Run.lead" (inClass (top 28) 8) 2 ["self","row"]
def r36:FR:=fRw "leave" "Run.leave" (inClass (top 28) 10) 2 ["self","row","layer","side","begun_by"]
def r37:FR:=fRw "throw" "Run.throw" (inClass (top 28) 9) 2 ["self","row","number","begun_by"]
def r38:FR:=fRw "go" "Run.go" (inClass (top 28) 6) 1 ["self","row"]
def r39:FR:=fRw "state" "Hand.state" (inClass (top 29) 1) 1 ["self"]
def r40:FR:=fRw "new_run" "Hand.new_run" (inClass (top 29) 2) 1 ["self","rows"]
def r41:FR:=fRw "begin_anew" "Hand.begin_anew" (inClass (top 29) 3) 1 ["self"]
def r42:FR:=fRw "fall_asleep" "Hand.fall_asleep" (inClass (top 29) 4) 1 ["self"]
def r43:FR:=fRw "go_on" "Hand.go_on" (inClass (top 29) 5) 2 ["self","slots"]
def r44:FR:=fRw "__init__" "Hand.__init__" (inClass (top 29) 0) 3 ["self","deeds","width"]
def r45:FR:=fRw "__init__" "Let.__init__" (inClass (top 33) 0) 3 ["self","slot","number"]
def r46:FR:=fRw "__init__" "Reckon.__init__" (inClass (top 34) 0) 5 ["self","word","slot","one","other"]
def r47:FR:=fRw "__init__" "Take.__init__" (inClass (top 35) 0) 3 ["self","slot","place"]
def r48:FR:=fRw "__init__" "Put.__init__" (inClass (top 36) 0) 3 ["self","place","slot"]
def r49:FR:=fRw "__init__" "Either.__init__" (inClass (top 38) 0) 3 ["self","parts","others"]
def r50:FR:=fRw "__init__" "Try.__init__" (inClass (top 39) 0) 5 ["self","parts","name","slot","others"]
def r51:FR:=fRw "__init__" "Throw.__init__" (inClass (top 40) 0) 3 ["self","name","slot"]
def r52:FR:=fRw "long" "Let.long" (inClass (top 33) 2) 1 ["self"]
def r53:FR:=fRw "long" "Reckon.long" (inClass (top 34) 2) 1 ["self"]
def r54:FR:=fRw "long" "Take.long" (inClass (top 35) 2) 1 ["self"]
def r55:FR:=fRw "long" "Put.long" (inClass (top 36) 2) 1 ["self"]
def r56:FR:=fRw "long" "Throw.long" (inClass (top 40) 2) 1 ["self"]
def r57:FR:=fRw "long" "Wait.long" (inClass (top 41) 1) 1 ["self"]
def r58:FR:=fRw "list_long" "list_long" (top 31) 1 ["parts"]
def r59:FR:=fRw "long" "Either.long" (inClass (top 38) 2) 1 ["self"]
def r60:FR:=fRw "long" "Try.long" (inClass (top 39) 2) 1 ["self"]
def r61:FR:=fRw "plain_rows" "plain_rows" (top 46) 1 ["part"]
def r62:FR:=fRw "first_row" "first_row" (top 48) 2 ["part","second"]
def r63:FR:=fRw "rows_between" "rows_between" (top 49) 2 ["part","behind"]
def r64:FR:=fRw "list_rows" "list_rows" (top 44) 2 ["parts","first","rows","part"]
def r65:FR:=fRw "part_rows" "part_rows" (top 45) 2 ["part","first"]
def r66:FR:=fRw "sided_rows" "sided_rows" (top 47) 2 ["part","first","behind","second","inner","outer"]
def r67:FR:=fRw "rows_of" "rows_of" (top 43) 1 ["deed"]
def r68:FR:=fRw "__init__" "Reader.__init__" (inClass (top 55) 0) 2 ["self","words"]
def r69:FR:=fRw "words_of" "words_of" (top 54) 1 ["text"]
def r70:FR:=fRw "ahead" "Reader.ahead" (inClass (top 55) 1) 1 ["self"]
def r71:FR:=fRw "taken" "Reader.taken" (inClass (top 55) 2) 1 ["self","word"]
def r72:FR:=fRw "pass_over" "Reader.pass_over" (inClass (top 55) 3) 2 ["self","wanted","word"]
def r73:FR:=fRw "slot_taken" "Reader.slot_taken" (inClass (top 55) 4) 1 ["self","word"]
def r74:FR:=fRw "name_taken" "Reader.name_taken" (inClass (top 55) 5) 1 ["self","word"]
def r75:FR:=fRw "number_taken" "Reader.number_taken" (inClass (top 55) 6) 1 ["self","word","number"]
def r76:FR:=fRw "reckon_taken" "Reader.reckon_taken" (inClass (top 55) 14) 2 ["self","word","slot","one","other"]
def r77:FR:=fRw "plain_taken" "Reader.plain_taken" (inClass (top 55) 13) 2 ["self","word","slot","place","name"]
def r78:FR:=fRw "list_taken" "Reader.list_taken" (inClass (top 55) 7) 2 ["self","around","parts"]
def r79:FR:=fRw "side_taken" "Reader.side_taken" (inClass (top 55) 8) 2 ["self","around","parts"]
def r80:FR:=fRw "part_taken" "Reader.part_taken" (inClass (top 55) 9) 2 ["self","around","word"]
def r81:FR:=fRw "either_taken" "Reader.either_taken" (inClass (top 55) 11) 2 ["self","around","parts","others"]
def r82:FR:=fRw "try_taken" "Reader.try_taken" (inClass (top 55) 12) 2 ["self","around","parts","name","slot","others"]
def r83:FR:=fRw "read" "read" (top 53) 1 ["text","reader","deed"]
def r84:FR:=fRw "check_boxes" "check_boxes" (top 60) 1 ["boxes"]
def r85:FR:=fRw "rows_of_deeds" "rows_of_deeds" (top 62) 1 ["texts"]
def r86:FR:=fRw "rows_of_hands" "rows_of_hands" (top 61) 1 ["hands"]
def r87:FR:=fRw "__init__" "Hall.__init__" (inClass (top 63) 0) 3 ["self","boxes","hands"]
def r88:FR:=fRw "boxes" "Hall.boxes" (inClass (top 63) 1) 1 ["self"]
def r89:FR:=fRw "hand_at" "Hall.hand_at" (inClass (top 63) 4) 2 ["self","hand"]
def r90:FR:=fRw "state" "Hall.state" (inClass (top 63) 5) 2 ["self","hand"]
def r91:FR:=fRw "slots" "Hall.slots" (inClass (top 63) 7) 2 ["self","hand"]
def r92:FR:=fRw "saw" "Hall.saw" (inClass (top 63) 8) 2 ["self","hand"]
def r93:FR:=fRw "journal" "Hall.journal" (inClass (top 63) 9) 1 ["self"]
def r94:FR:=fRw "wake_stale" "Hall.wake_stale" (inClass (top 63) 13) 1 ["self","member"]
def r95:FR:=fRw "end_deed" "Hall.end_deed" (inClass (top 63) 14) 5 ["self","hand","end","laid","slots","member"]
def r96:FR:=fRw "lay_down" "Hall.lay_down" (inClass (top 63) 12) 2 ["self","hand","run","laid","pair","box"]
def r97:FR:=fRw "looked_over_told" "Hall.looked_over_told" (inClass (top 63) 11) 3 ["self","hand","row_number","member","row","box"]
def r98:FR:=fRw "turn" "Hall.turn" (inClass (top 63) 10) 2 ["self","hand","member","row_number"]
def r99:FR:=fRw "_law_cell_at" "_law_cell_at" (top 65) 2 ["_law_script","_law_k"]
def r100:FR:=fRw "_law_number_by" "_law_number_by" (top 66) 1 ["_law_cell","_law_part"]
def r101:FR:=fRw "_law_end_of" "_law_end_of" (top 67) 4 ["_law_way","_law_box","_law_at","_law_written","_law_path"]
def r102:FR:=fRw "_law_middle" "_law_middle" (top 68) 2 ["_law_cell","_law_many","_law_some"]
def r103:FR:=fRw "_law_told" "_law_told" (top 69) 3 ["_law_found","_law_step","_law_boxes"]
noncomputable def r104:FR:=fRw "_law_other_goes" "_law_other_goes" (top 70) 4 ["_law_hall","_law_box","_law_boxes","_law_number","_law_n"]
noncomputable def r105:FR:=fRw "_law_goes" "_law_goes" (top 71) 5 ["_law_hall","_law_path","_law_boxes","_law_split","_law_change","_law_stale","_law_seen","_law_k","_law_found"]
noncomputable def r106:FR:=fRw "_law_journal" "_law_journal" (top 72) 3 ["_law_hall","_law_path","_law_change","_law_found","_law_due","_law_last"]
noncomputable def r107:FR:=fRw "law" "law" (top 73) 1 ["_law_script","_law_many","_law_boxes","_law_box","_law_third","_law_way","_law_mixed","_law_other","_law_number","_law_middle_here","_law_ending","_law_parts","_law_path","_law_second","_law_hall","_law_split","_law_end"]
def fT:List FR:=[r0,r1,r2,r3,r4,r5,r6,r7,r8,r9,r10,r11,r12,r13,r14,r15,r16,r17,r18,r19,r20,r21,r22,r23,r24,r25,r26,r27,r28,r29,r30,r31,r32,r33,r34,r35,r36,r37,r38,r39,r40,r41,r42,r43,r44,r45,r46,r47,r48,r49,r50,r51,r52,r53,r54,r55,r56,r57,r58,r59,r60,r61,r62,r63,r64,r65,r66,r67,r68,r69,r70,r71,r72,r73,r74,r75,r76,r77,r78,r79,r80,r81,r82,r83,r84,r85,r86,r87,r88,r89,r90,r91,r92,r93,r94,r95,r96,r97,r98,r99,r100,r101,r102,r103,r104,r105,r106,r107]
def fR (n:Nat):FR:=fT.getD n r0
def FR.ps (r:FR):List Str:=r.2.2.2.2.take r.2.2.2.1
abbrev fP (n:Nat):List Str:=FR.ps (fR n)
def AllP {α:Type}(p:α->Prop):List α->Prop
 | []=>True
 | c::cs=>p c/\AllP p cs
theorem AllP.get {α:Type}{p:α->Prop}{d:α}(hd:p d):∀ {cs:List α},AllP p cs->∀ k:Nat,p (cs.getD k d)
 | [],_,_=>hd
 | _::_,a,0=>a.1
 | _::_,a,k+1=>AllP.get hd a.2 k
theorem AllP.mem {α:Type}{p:α->Prop}:∀ {cs:List α},AllP p cs->∀ i∈cs,p i
 | c::cs,a,i,hi=>by
  rcases mem_cons.mp hi with rfl|hi
  .exact a.1
  .exact AllP.mem a.2 i hi
theorem yvD:AllP (fun r:FR=>yei r.2.2.2.2 r.ps (ybE r.2.2.1)) fT:=by
 repeat' first|exact True.intro|refine And.intro ?_ ?_|exact ⟨rfl,rfl,rfl,by rfl',rfl,by rfl',by rfl'⟩
theorem sc (n:Nat) {r:FR}(h:fR n=r:=by rfl):yei r.2.2.2.2 r.ps (ybE r.2.2.1):=h ▸ AllP.get (p:=fun r:FR=>yei r.2.2.2.2 r.ps (ybE r.2.2.1)) yvD.1 yvD n
def mT:List (Nat×Str×Nat):=[mRw 1 "long" 52,mRw 2 "long" 53,mRw 3 "long" 54,mRw 4 "long" 55,mRw 6 "long" 59,mRw 7 "long" 60,mRw 8 "long" 56,mRw 9 "long" 57,mRw 11 "write" 1,mRw 11 "own" 2,mRw 11 "begin" 3,mRw 11 "settle" 4,mRw 11 "drop" 5,mRw 11 "see" 6,mRw 11 "saw" 7,mRw 11 "wrote" 8,mRw 12 "held_in" 19,mRw 12 "hold" 20,mRw 12 "box_at" 21,mRw 12 "do_put" 23,mRw 12 "do_reckon" 22,mRw 12 "sees_at" 24,mRw 12 "take_own" 25,mRw 12 "take_seen" 26,mRw 12 "row" 29,mRw 12 "is_stale" 30,mRw 12 "taker_layer" 31,mRw 12 "is_looked_over" 32,mRw 12 "see_next" 33,mRw 12 "go" 38,mRw 12 "go_plain" 34,mRw 12 "lead" 35,mRw 12 "throw" 37,mRw 12 "leave" 36,mRw 14 "state" 39,mRw 14 "new_run" 40,mRw 14 "begin_anew" 41,mRw 14 "fall_asleep" 42,mRw 14 "go_on" 43,mRw 15 "boxes" 88,mRw 15 "hand_at" 89,mRw 15 "state" 90,mRw 15 "slots" 91,mRw 15 "saw" 92,mRw 15 "journal" 93,mRw 15 "wake_stale" 94,mRw 15 "end_deed" 95,mRw 15 "lay_down" 96,mRw 15 "looked_over_told" 97,mRw 15 "turn" 98,mRw 10 "ahead" 70,mRw 10 "taken" 71,mRw 10 "pass_over" 72,mRw 10 "slot_taken" 73,mRw 10 "name_taken" 74,mRw 10 "number_taken" 75,mRw 10 "list_taken" 78,mRw 10 "side_taken" 79,mRw 10 "part_taken" 80,mRw 10 "either_taken" 81,mRw 10 "try_taken" 82,mRw 10 "plain_taken" 77,mRw 10 "reckon_taken" 76]
noncomputable def gT:List (Str×Nat):=[("reckon",9),("is_whole",10),("is_number",11),("is_made_of",12),("number_of",13),("is_word",14),("is_slot",15),("slot_index",16),("is_name",17),("takes",27),("list_long",58),("plain_rows",61),("first_row",62),("rows_between",63),("list_rows",64),("part_rows",65),("sided_rows",66),("rows_of",67),("words_of",69),("read",83),("check_boxes",84),("rows_of_deeds",85),("rows_of_hands",86),("_law_cell_at",99),("_law_number_by",100),("_law_end_of",101),("_law_middle",102),("_law_told",103),("_law_other_goes",104),("_law_goes",105),("_law_journal",106),("law",107)]
def kT:List (Nat×Nat):=[(1,45),(2,46),(3,47),(4,48),(6,49),(7,50),(8,51),(10,68),(11,0),(12,28),(13,18),(14,44),(15,87)]
def cT:List Str:=["Part","Let","Reckon","Take","Put","If","Either","Try","Throw","Wait","Reader","Log","Run","Doer","Hand","Hall"]
def zT:List Str:=["all","any","bool","int","isinstance","len","list","range","reversed","sorted","str","sum","tuple"]
noncomputable def nT:List (Str×List Nat):=[("stack",[11]),("last_seen",[11]),("held",[12]),("width",[12,14]),("log",[12]),("rows",[12]),("at",[10,12]),("seen_stamps",[12]),("sides",[12]),("deeds",[14]),("nth",[14]),("sleeps",[14]),("before",[14]),("run",[14]),("numbers",[15]),("marks",[15]),("crew",[15]),("entries",[15]),("words",[10]),("slot",[1,2,3,4,7,8]),("number",[1]),("place",[3,4]),("parts",[6,7]),("others",[6,7]),("name",[7,8]),("word",[2]),("one",[2]),("other",[2])]
theorem ml1 {α:Type}{P:List α->Prop}(h:∀ a,P [a]):∀ us:List α,us.length=1->P us
 | [_],_=>h _
theorem ml2 {α:Type}{P:List α->Prop}(h:∀ a b,P [a,b]):∀ us:List α,us.length=2->P us
 | [_,_],_=>h _ _
theorem ml3 {α:Type}{P:List α->Prop}(h:∀ a b c,P [a,b,c]):∀ us:List α,us.length=3->P us
 | [_,_,_],_=>h _ _ _
theorem ml4 {α:Type}{P:List α->Prop}(h:∀ a b c d,P [a,b,c,d]):∀ us:List α,us.length=4->P us
 | [_,_,_,_],_=>h _ _ _ _
theorem ml5 {α:Type}{P:List α->Prop}(h:∀ a b c d e,P [a,b,c,d,e]):∀ us:List α,us.length=5->P us
 | [_,_,_,_,_],_=>h _ _ _ _ _
set_option genInjectivity false in
set_option genSizeOf false in
structure Ads where
 A:Nat->Addr
 fl:Nat->Addr×FuncData
 k_FIGURES:Tok
 k_LETTERS:Tok
 k_MOST_AROUND:Tok
 k_MOST_BOXES:Tok
 k_MOST_DEEDS:Tok
 k_MOST_HANDS:Tok
 k_MOST_ROWS:Tok
 k_SLOTS:Tok
 k_WIDE:Tok
 k_WORDS:Addr
abbrev Ads.a (t:Ads) (n:Nat):Addr:=(t.fl n).1
abbrev Ads.d (t:Ads) (n:Nat):FuncData:=(t.fl n).2
abbrev yph (K:PySem.W.Frag) (t:Ads):Ck:=⟨K,t.A⟩
structure Txt (K:PySem.W.Frag) (mg:Str->Option Value) (t:Ads):Prop where
 f:∀ n,Fun K (fR n).1 (fR n).2.1 (fR n).2.2.1 (t.a n) (t.d n)
 b:∀ n,Binds K (t.d n) (fP n) []
 G:∀ n,mg (gT.getD n ("reckon",9)).1=some (.ref (t.a (gT.getD n ("reckon",9)).2))
 C:∀ n,mg (cT.getD n "Part")=some (.ref (t.A n))
 J:∀ n,Mk K (t.A (kT.getD n (1,45)).1) (t.a (kT.getD n (1,45)).2)
 M:∀ n,Meth K (t.A (mT.getD n (mRw 1 "long" 52)).1) (mT.getD n (mRw 1 "long" 52)).2.1 (t.a (mT.getD n (mRw 1 "long" 52)).2.2)
 mk_Part:makesIn K (t.A 0)=true
 io_Part:findIn K (.ref (t.A 0)) "__init__" = some (some (.builtin "object.__init__"))
 kp_Part:keepIn K (.ref (t.A 0))=true
 mk_Wait:makesIn K (t.A 9)=true
 io_Wait:findIn K (.ref (t.A 9)) "__init__" = some (some (.builtin "object.__init__"))
 kp_Wait:keepIn K (.ref (t.A 9))=true
 cf_Doer:ytV K (t.A 13) "__init__" (t.a 18)
 cl:∀ k,Cls K (t.A k)
 N:∀ n,∀ k∈(nT.getD n ("stack",[11])).2,Cls K (t.A k)/\NoAttr K (t.A k) (nT.getD n ("stack",[11])).1
 isa:∀ r∈yeG,∀ (H:Hp) (a dx:Addr) (fs:List (Str×V)),H a=some (.ins (t.A r.1) dx fs)->IsI K H (.ref a) (.ref (t.A r.2.1)) r.2.2
 Z:∀ n,mg (zT.getD n "all")=none
 m_FIGURES:mg "FIGURES" = some (.str "0123456789" t.k_FIGURES)
 m_LETTERS:mg "LETTERS" = some (.str "abcdefghijklmnopqrstuvwxyz" t.k_LETTERS)
 m_MOST_AROUND:mg "MOST_AROUND" = some (.int 8 t.k_MOST_AROUND)
 m_MOST_BOXES:mg "MOST_BOXES" = some (.int 16 t.k_MOST_BOXES)
 m_MOST_DEEDS:mg "MOST_DEEDS" = some (.int 6 t.k_MOST_DEEDS)
 m_MOST_HANDS:mg "MOST_HANDS" = some (.int 8 t.k_MOST_HANDS)
 m_MOST_ROWS:mg "MOST_ROWS" = some (.int 80 t.k_MOST_ROWS)
 m_SLOTS:mg "SLOTS" = some (.str "abcdefgh" t.k_SLOTS)
 m_WIDE:mg "WIDE" = some (.int 18446744073709551616 t.k_WIDE)
 m_WORDS:mg "WORDS" = some (.ref t.k_WORDS)
 kt_WORDS:KTp K t.k_WORDS ((["plus","minus","times","less","same"]:List Str).map V.str)
theorem Txt.F {K:PySem.W.Frag}{mg:Str->Option Value}{t:Ads}(T:Txt K mg t) (n:Nat) (r:FR) (h:fR n=r:=by rfl):Fun K r.1 r.2.1 r.2.2.1 (t.a n) (t.d n):=h ▸ T.f n
theorem Txt.k {K:PySem.W.Frag}{mg:Str->Option Value}{t:Ads}(T:Txt K mg t) (n:Nat):keepIn K (.ref (t.a n))=true:=(T.f n).kp
section
variable {P:Program}{w:World}{K:PySem.W.Frag}{mg:Str->Option Value}{base:Heap}{t:Ads}
theorem ydl {n:Nat}{ck:Ck}{vs:List V}{H:Hp}{Q:VK}{E:XK}(h:spE ck n (fun _ _=>none) vs H Q E):False:=by
 obtain ⟨_,_,_,_,_,_,_,_,q,_⟩:=h
 cases q
theorem ydB {f:Addr}{fd:FuncData}{ps:List Str}{k n:Nat}{ck:Ck}:FnOk P w K mg base CX0 k f fd ps (spE ck n fun _ _=>none):=⟨fun vs H Q E h=>(ydl h).elim,fun A outer s H args us vs Q E _ _ _ _ h=>(ydl h).elim⟩
local macro_rules | `(‹($n,$i,$r,$k,$p)›)=>`(FnOk $(Lean.mkIdent `P) $(Lean.mkIdent `w) $(Lean.mkIdent `K) $(Lean.mkIdent `mg) $(Lean.mkIdent `base) CX0 $n ($(Lean.mkIdent `t).a $i) ($(Lean.mkIdent `t).d $i) (FR.ps $r) (spE (yph $(Lean.mkIdent `K) $(Lean.mkIdent `t)) $k $p))
structure yEJ (P:Program) (w:World) (K:PySem.W.Frag) (mg:Str->Option Value) (base:Heap) (t:Ads) (n:Nat):Prop where
 yfx:‹(n+1,58,r58,1,(ybX n))›
 yfV:‹(n+1,59,r59,1,(yfQ n))›
 yja:‹(n+1,60,r60,1,(yiS n))›
 m_long:ymd P w K mg base (n+1) t.A "long" (fun k=>spE (yph K t) 1 (yli n k))
structure yEK (P:Program) (w:World) (K:PySem.W.Frag) (mg:Str->Option Value) (base:Heap) (t:Ads) (n:Nat):Prop where
 yhV:‹(n+47,64,r64,2,(ycW n))›
 ynj:‹(n+47,65,r65,2,(ydA n))›
 yly:‹(n+47,66,r66,2,(ygA n))›
structure yEL (P:Program) (w:World) (K:PySem.W.Frag) (mg:Str->Option Value) (base:Heap) (t:Ads) (n:Nat):Prop where
 ydC:‹(n+6,78,r78,2,(ybB n))›
 yfy:‹(n+6,79,r79,2,(yF n))›
 yfz:‹(n+6,80,r80,2,(yK n))›
 yeN:‹(n+6,81,r81,2,(ybj n))›
 yfW:‹(n+6,82,r82,2,(ybO n))›
variable (T:Txt K mg t)
include T
theorem yhW:FnOk P w K mg base CX0 (0+1) (t.a 45) (t.d 45) (FR.ps r45) (spI (yph K t) 2 1 yfg):=zin (T.F 45 r45) (sc 45) rfl (by decide) fun cdv Ar outer sh H E hr=>(ybs (ybK (T.N 19) z_v) (ydy (ybK (T.N 20) z_v)))
theorem yfX:FnOk P w K mg base CX0 (0+1) (t.a 46) (t.d 46) (FR.ps r46) (spI (yph K t) 4 2 yea):=zin (T.F 46 r46) (sc 46) rfl (by decide) fun cdv Ar outer sh H E hr=>(ybs (ybK (T.N 25) z_v) (ybs (ybK (T.N 19) z_v) (ybs (ybK (T.N 26) z_v) (ydy (ybK (T.N 27) z_v)))))
theorem ygS:FnOk P w K mg base CX0 (0+1) (t.a 47) (t.d 47) (FR.ps r47) (spI (yph K t) 2 3 yeJ):=zin (T.F 47 r47) (sc 47) rfl (by decide) fun cdv Ar outer sh H E hr=>(ybs (ybK (T.N 19) z_v) (ydy (ybK (T.N 21) z_v)))
theorem yhX:FnOk P w K mg base CX0 (0+1) (t.a 48) (t.d 48) (FR.ps r48) (spI (yph K t) 2 4 yfh):=zin (T.F 48 r48) (sc 48) rfl (by decide) fun cdv Ar outer sh H E hr=>(ybs (ybK (T.N 21) z_v) (ydy (ybK (T.N 19) z_v)))
theorem yfY:FnOk P w K mg base CX0 (0+1) (t.a 49) (t.d 49) (FR.ps r49) (spI (yph K t) 2 6 yeb):=zin (T.F 49 r49) (sc 49) rfl (by decide) fun cdv Ar outer sh H E hr=>(ybs (ybK (T.N 22) (ybJ (ycT yM ybF (T.Z 6) (ya z_v yd)))) (ydy (ybK (T.N 23) (ybJ (ycT yM ybF (T.Z 6) (ya z_v yd))))))
theorem yhY:FnOk P w K mg base CX0 (0+1) (t.a 50) (t.d 50) (FR.ps r50) (spI (yph K t) 4 7 yfi):=zin (T.F 50 r50) (sc 50) rfl (by decide) fun cdv Ar outer sh H E hr=>(ybs (ybK (T.N 22) (ybJ (ycT yM ybF (T.Z 6) (ya z_v yd)))) (ybs (ybK (T.N 24) z_v) (ybs (ybK (T.N 19) z_v) (ydy (ybK (T.N 23) (ybJ (ycT yM ybF (T.Z 6) (ya z_v yd))))))))
theorem ygt:FnOk P w K mg base CX0 (0+1) (t.a 51) (t.d 51) (FR.ps r51) (spI (yph K t) 2 8 yew):=zin (T.F 51 r51) (sc 51) rfl (by decide) fun cdv Ar outer sh H E hr=>(ybs (ybK (T.N 24) z_v) (ydy (ybK (T.N 19) z_v)))
theorem ynk:‹(0+1,52,r52,1,yiQ)›:=zfn (T.F 52 r52) (sc 52) fun cdv Ar outer sh H E hr=>(yf (yj yg))
theorem yiw:‹(0+1,53,r53,1,yfP)›:=zfn (T.F 53 r53) (sc 53) fun cdv Ar outer sh H E hr=>(yf (yj yg))
theorem ylz:‹(0+1,54,r54,1,yhL)›:=zfn (T.F 54 r54) (sc 54) fun cdv Ar outer sh H E hr=>(yf (yj yg))
theorem ynl:‹(0+1,55,r55,1,yiR)›:=zfn (T.F 55 r55) (sc 55) fun cdv Ar outer sh H E hr=>(yf (yj yg))
theorem yka:‹(0+1,56,r56,1,ygy)›:=zfn (T.F 56 r56) (sc 56) fun cdv Ar outer sh H E hr=>(yf (yj yg))
theorem ylA:‹(0+1,57,r57,1,yhM)›:=zfn (T.F 57 r57) (sc 57) fun cdv Ar outer sh H E hr=>(yf (yj yg))
theorem ykb:∀ n,yEJ P w K mg base t n
 | 0=>⟨ydB,ydB,ydB,fun c=>⟨T.cl c,.inl fun _ _ _ _ h=>ydl h⟩⟩
 | n+1=>by
  have I:=ykb n
  have yet:=I.yfx
  have yuG:=I.yfV
  have yyk:=I.yja
  have G_long:=I.m_long
  exact ⟨zfn (T.F 58 r58) (sc 58) fun cdv Ar outer sh H E hr=>(yf (yj (ydT (ysM rfl) yCb (T.Z 11) (ya (ybJ (yfd [] (ydP z_v) (fun _ _ _ _ _ _=>(yqW z_v G_long)))) yd)))),
   zfn (T.F 59 r59) (sc 59) fun cdv Ar outer sh H E hr=>(yf (yj (ybH yba ybT (ybH yba ybT yg (yQ yet (T.G 10) (T.k 58) (T.b 58) (ya (yB (T.N 22) z_v) yd))) (yQ yet (T.G 10) (T.k 58) (T.b 58) (ya (yB (T.N 23) z_v) yd))))),
   zfn (T.F 60 r60) (sc 60) fun cdv Ar outer sh H E hr=>(yf (yj (ybH yba ybT (ybH yba ybT yg (yQ yet (T.G 10) (T.k 58) (T.b 58) (ya (yB (T.N 22) z_v) yd))) (yQ yet (T.G 10) (T.k 58) (T.b 58) (ya (yB (T.N 23) z_v) yd))))),
   fun c=>⟨T.cl c,match c with|0=>.inl fun _ _ _ _ h=>ydl h|1=>.inr ⟨_,_,_,(T.M 0),(ynk T).mono (by omega),(T.b 52)⟩|2=>.inr ⟨_,_,_,(T.M 1),(yiw T).mono (by omega),(T.b 53)⟩|3=>.inr ⟨_,_,_,(T.M 2),(ylz T).mono (by omega),(T.b 54)⟩|4=>.inr ⟨_,_,_,(T.M 3),(ynl T).mono (by omega),(T.b 55)⟩|5=>.inl fun _ _ _ _ h=>ydl h|6=>.inr ⟨_,_,_,(T.M 4),I.yfV.mono (by omega),(T.b 59)⟩|7=>.inr ⟨_,_,_,(T.M 5),I.yja.mono (by omega),(T.b 60)⟩|8=>.inr ⟨_,_,_,(T.M 6),(yka T).mono (by omega),(T.b 56)⟩|9=>.inr ⟨_,_,_,(T.M 7),(ylA T).mono (by omega),(T.b 57)⟩|10=>.inl fun _ _ _ _ h=>ydl h|11=>.inl fun _ _ _ _ h=>ydl h|12=>.inl fun _ _ _ _ h=>ydl h|13=>.inl fun _ _ _ _ h=>ydl h|14=>.inl fun _ _ _ _ h=>ydl h|15=>.inl fun _ _ _ _ h=>ydl h|c+16=>.inl fun _ _ _ _ h=>ydl h⟩⟩
theorem ykc:‹(0+1,61,r61,1,ygz)›:=zfn (T.F 61 r61) (sc 61) fun cdv Ar outer sh H E hr=>(yc (yH (ybP (ydT yX (yfp (K:=ckX _ _) T.isa) (T.Z 4) (ya z_v (ya (yev (T.C 1)) yd)))) (yf (yj (ybJ (ybr (ya (yP (ya yn (ya (yB (T.N 19) z_v) (ya (yB (T.N 20) z_v) yd)))) yd))))) yl) (yc (yH (ybP (ydT yX (yfp (K:=ckX _ _) T.isa) (T.Z 4) (ya z_v (ya (yev (T.C 2)) yd)))) (yf (yj (ybJ (ybr (ya (yP (ya (yB (T.N 25) z_v) (ya (yB (T.N 19) z_v) (ya (yB (T.N 26) z_v) (ya (yB (T.N 27) z_v) yd))))) yd))))) yl) (yc (yH (ybP (ydT yX (yfp (K:=ckX _ _) T.isa) (T.Z 4) (ya z_v (ya (yev (T.C 3)) yd)))) (yf (yj (ybJ (ybr (ya (yP (ya yn (ya (yB (T.N 19) z_v) (ya (yB (T.N 21) z_v) yd)))) yd))))) yl) (yc (yH (ybP (ydT yX (yfp (K:=ckX _ _) T.isa) (T.Z 4) (ya z_v (ya (yev (T.C 4)) yd)))) (yf (yj (ybJ (ybr (ya (yP (ya yn (ya (yB (T.N 21) z_v) (ya (yB (T.N 19) z_v) yd)))) yd))))) yl) (yc (yH (ybP (ydT yX (yfp (K:=ckX _ _) T.isa) (T.Z 4) (ya z_v (ya (yev (T.C 8)) yd)))) (yf (yj (ybJ (ybr (ya (yP (ya yn (ya (yB (T.N 24) z_v) (ya (yB (T.N 19) z_v) yd)))) yd))))) yl) (yc (yH (ybP (ydT yX (yfp (K:=ckX _ _) T.isa) (T.Z 4) (ya z_v (ya (yev (T.C 9)) yd)))) (yf (yj (ybJ (ybr (ya (yP (ya yn yd)) yd))))) yl) (yf (yj (ybJ (ybr yd))))))))))
theorem ylB:‹(0+1,62,r62,2,yhN)›:=zfn (T.F 62 r62) (sc 62) fun cdv Ar outer sh H E hr=>(yc (yH (ybP (ydT yX (yfp (K:=ckX _ _) T.isa) (T.Z 4) (ya z_v (ya (yev (T.C 5)) yd)))) (yf ybG) yl) (yc (yH (ybP (ydT yX (yfp (K:=ckX _ _) T.isa) (T.Z 4) (ya z_v (ya (yev (T.C 6)) yd)))) (yf (yj (yP (ya yn (ya z_v yd))))) yl) (yf (yj (yP (ya yn (ya (yB (T.N 24) z_v) (ya (yB (T.N 19) z_v) (ya z_v yd)))))))))
theorem yhZ:‹(0+1,63,r63,2,yfj)›:=zfn (T.F 63 r63) (sc 63) fun cdv Ar outer sh H E hr=>(yc (yH (ybP (ydT yX (yfp (K:=ckX _ _) T.isa) (T.Z 4) (ya z_v (ya (yev (T.C 5)) yd)))) (yf ybG) yl) (yf (yj (ybJ (ybr (ya (yP (ya yn yd)) (ya (yP (ya yn (ya z_v yd))) yd)))))))
theorem ysi:∀ n,yEK P w K mg base t n
 | 0=>⟨ydB,ydB,ydB⟩
 | n+1=>by
  have I:=ysi n
  have yia:=I.yhV
  have ynm:=I.ynj
  have ylC:=I.yly
  exact ⟨zfn (T.F 64 r64) (sc 64) fun cdv Ar outer sh H E hr=>have nd:=(sc 64 (r:=r64)).nd;(yc (yqX (ybr yd)) (yc (yoc (ydP z_v) ygq (yf (yzY (yQ ynm (T.G 15) (T.k 65) (T.b 65) (ya z_v (ya (ybH yba ybT z_v (yzZ (T.Z 5))) yd)))))) (yqY (yf (yj z_v))))),
   zfn (T.F 65 r65) (sc 65) fun cdv Ar outer sh H E hr=>(yc (yH (ypp (yir (ybP (ydT yX (yfp (K:=ckX _ _) T.isa) (T.Z 4) (ya z_v (ya (yev (T.C 5)) yd)))) (yir (ybP (ydT yX (yfp (K:=ckX _ _) T.isa) (T.Z 4) (ya z_v (ya (yev (T.C 6)) yd)))) (ygx (ybP (ydT yX (yfp (K:=ckX _ _) T.isa) (T.Z 4) (ya z_v (ya (yev (T.C 7)) yd)))))))) (yf (yj (yQ ylC (T.G 16) (T.k 66) (T.b 66) (ya z_v (ya z_v yd))))) yl) (yf (yj (yQ (ykc T) (T.G 11) (T.k 61) (T.b 61) (ya z_v yd))))),
   zfn (T.F 66 r66) (sc 66) fun cdv Ar outer sh H E hr=>have nd:=(sc 66 (r:=r66)).nd;(yc (yr (ybH yba ybT z_v (yqW z_v (ykb T 45).m_long))) (yc (yr (ybH yhi ymu z_v (yQ (ykb T 45).yfx (T.G 10) (T.k 58) (T.b 58) (ya (yB (T.N 23) z_v) yd)))) (yc (yr (yQ yia (T.G 14) (T.k 64) (T.b 64) (ya (yB (T.N 22) z_v) (ya (ybH yba ybT z_v yg) yd)))) (yc (yr (yQ yia (T.G 14) (T.k 64) (T.b 64) (ya (yB (T.N 23) z_v) (ya z_v yd)))) (yf (yj (ybJ (yfM yeB yhs (ybJ (yfM yeB yhs (ybJ (yfM yeB yhs (ybJ (ybr (ya (yQ (ylB T) (T.G 12) (T.k 62) (T.b 62) (ya z_v (ya z_v yd))) yd))) z_v)) (yQ (yhZ T) (T.G 13) (T.k 63) (T.b 63) (ya z_v (ya z_v yd))))) z_v))))))))⟩
theorem ypi:‹(92+1,67,r67,1,yec)›:=zfn (T.F 67 r67) (sc 67) fun cdv Ar outer sh H E hr=>(yf (yj (ybJ (yfM yeB yhs (yQ (ysi T 45).yhV (T.G 14) (T.k 64) (T.b 64) (ya z_v (ya yg yd))) (ybJ (ybr (ya (yP (ya yn yd)) yd)))))))
theorem yfZ:‹(0+1,12,r12,2,yde)›:=zfn (T.F 12 r12) (sc 12) fun cdv Ar outer sh H E hr=>(yf (yj (ydT (ynC rfl) yzm (T.Z 0) (ya (ybJ (yfd ["signs"] (yzW z_v) (fun _ _ _ _ _ _=>(ydr ykw yzg z_v z_v)))) yd))))
theorem ylD:‹(1+1,13,r13,1,yeq)›:=zfn (T.F 13 r13) (sc 13) fun cdv Ar outer sh H E hr=>have nd:=(sc 13 (r:=r13)).nd;(yc (yH (ypp (yir (ydX (yhd yik yik yso yso yg (ydT ydG ynG (T.Z 5) (ya z_v yd)) yg)) (ygx (ydX (ybP (yQ (yfZ T) (T.G 3) (T.k 12) (T.b 12) (ya z_v (ya (ylg T.m_FIGURES) yd)))))))) (yf (yj yip)) yl) (yc (yH (ypp (yob (yu yU ycq (ybk yyN yBZ z_v yg) yn) (yjF (yu yoB yyc z_v yn)))) (yf (yj yip)) yl) (yc (yr (ymH ykx yzk (T.Z 3) (ya z_v yd))) (yf (yj (yqV (yu ylS ywz z_v (yfc T.m_WIDE)) z_v yip))))))
theorem ypj:‹(0+1,14,r14,1,yhH)›:=zfn (T.F 14 r14) (sc 14) fun cdv Ar outer sh H E hr=>(yf (yj (ydr yhm ywO z_v (yAd (ss:=["plus","minus","times","less","same"]) T.m_WORDS T.kt_WORDS))))
theorem ypk:‹(0+1,15,r15,1,yhI)›:=zfn (T.F 15 r15) (sc 15) fun cdv Ar outer sh H E hr=>(yf (yj (yhF (ydr yU ycq (ydT ydG ynG (T.Z 5) (ya z_v yd)) yg) (yiq (ydr ykw yzg z_v (ylg T.m_SLOTS))))))
theorem ypl:‹(1+1,17,r17,1,yhJ)›:=zfn (T.F 17 r17) (sc 17) fun cdv Ar outer sh H E hr=>(yf (yj (yhF (yqU yik yik yso yso yg (ydT ydG ynG (T.Z 5) (ya z_v yd)) yg) (yiq (yQ (yfZ T) (T.G 3) (T.k 12) (T.b 12) (ya z_v (ya (ylg T.m_LETTERS) yd)))))))
theorem yib:‹(0+1,10,r10,1,ydZ)›:=zfn (T.F 10 r10) (sc 10) fun cdv Ar outer sh H E hr=>(yf (yj (yhF (ydT yX (yfp (K:=ckX _ _) T.isa) (T.Z 4) (ya z_v (ya (ywZ (T.Z 3)) yd))) (yiq (yCO (ydT yX (yfp (K:=ckX _ _) T.isa) (T.Z 4) (ya z_v (ya (ywZ (T.Z 2)) yd))))))))
theorem ylE:‹(1+1,11,r11,1,ycV)›:=zfn (T.F 11 r11) (sc 11) fun cdv Ar outer sh H E hr=>(yf (yj (yhF (yQ (yib T) (T.G 1) (T.k 10) (T.b 10) (ya z_v yd)) (yiq (yqU yik ylS yso ywz yg z_v (yfc T.m_WIDE))))))
theorem yga:FnOk P w K mg base CX0 (0+1) (t.a 68) (t.d 68) (FR.ps r68) (spI (yph K t) 1 10 ycX):=zin (T.F 68 r68) (sc 68) rfl (by decide) fun cdv Ar outer sh H E hr=>(ybs (ybK (T.N 18) (ybJ (ycT yM ybF (T.Z 6) (ya z_v yd)))) (ydy (ybK (T.N 6) yg)))
theorem ynn:‹(0+1,69,r69,1,yeU)›:=zfn (T.F 69 r69) (sc 69) fun cdv Ar outer sh H E hr=>(yc (yH (yu yU ycq z_v yn) (yf (yj (ybJ (ybr yd)))) yl) (yf (yj (yvp PySem.F.plainAttrs_str PySem.F.slot_str_split PySem.F.type_str_split ytW m_split z_v (ya yn yd)))))
theorem yco:‹(0+1,70,r70,1,ybt)›:=zfn (T.F 70 r70) (sc 70) fun cdv Ar outer sh H E hr=>(yc (yH (yu ylS ywz (yB (T.N 6) z_v) (ydT yI ycS (T.Z 5) (ya (yB (T.N 18) z_v) yd))) (yf (yj (ybk ybc ycL (yB (T.N 18) z_v) (yB (T.N 6) z_v)))) yl) (yf (yj yip)))
theorem ycp:‹(1+1,71,r71,1,ybu)›:=zfn (T.F 71 r71) (sc 71) fun cdv Ar outer sh H E hr=>have nd:=(sc 71 (r:=r71)).nd;(yc (yr (yv z_v (T.M 50) (yco T) (T.b 70))) (yc (yH (yu ynw ytj z_v yip) (yf ybG) yl) (yc (ybI (T.N 6) z_v (ybH yba ybT (yB (T.N 6) z_v) yg)) (yf (yj z_v)))))
theorem ybD:‹(2+1,72,r72,2,yT)›:=zfn (T.F 72 r72) (sc 72) fun cdv Ar outer sh H E hr=>have nd:=(sc 72 (r:=r72)).nd;(yc (yr (yv z_v (T.M 51) (ycp T) (T.b 71))) (yf (yH (yu yoB yyc z_v z_v) (yf ybG) yl)))
theorem yG:‹(2+1,73,r73,1,yA)›:=zfn (T.F 73 r73) (sc 73) fun cdv Ar outer sh H E hr=>have nd:=(sc 73 (r:=r73)).nd;(yc (yr (yv z_v (T.M 51) (ycp T) (T.b 71))) (yc (yH (ydX (ybP (yQ (ypk T) (T.G 6) (T.k 15) (T.b 15) (ya z_v yd)))) (yf ybG) yl) (yf (yj z_v))))
theorem ydo:‹(2+1,74,r74,1,ybA)›:=zfn (T.F 74 r74) (sc 74) fun cdv Ar outer sh H E hr=>have nd:=(sc 74 (r:=r74)).nd;(yc (yr (yv z_v (T.M 51) (ycp T) (T.b 71))) (yc (yH (ydX (ybP (yQ (ypl T) (T.G 8) (T.k 17) (T.b 17) (ya z_v yd)))) (yf ybG) yl) (yf (yj z_v))))
theorem yez:‹(2+1,75,r75,1,ybM)›:=zfn (T.F 75 r75) (sc 75) fun cdv Ar outer sh H E hr=>have nd:=(sc 75 (r:=r75)).nd;(yc (yr (yv z_v (T.M 51) (ycp T) (T.b 71))) (yc (yr (yQ (ylD T) (T.G 4) (T.k 13) (T.b 13) (ya z_v yd))) (yc (yH (yu ynw ytj z_v yip) (yf ybG) yl) (yf (yj z_v)))))
theorem yeA:‹(3+1,76,r76,2,ybN)›:=zfn (T.F 76 r76) (sc 76) fun cdv Ar outer sh H E hr=>have nd:=(sc 76 (r:=r76)).nd;(yc (yr (yv z_v (T.M 53) (yG T) (T.b 73))) (yc (yr (yv z_v (T.M 53) (yG T) (T.b 73))) (yc (yr (yv z_v (T.M 53) (yG T) (T.b 73))) (yf (yj (ybJ (yfN (T.J 1) (yfX T) (T.C 2) (T.b 46) (ya z_v (ya z_v (ya z_v (ya z_v yd)))))))))))
theorem yeO:‹(4+1,77,r77,2,yw)›:=zfn (T.F 77 r77) (sc 77) fun cdv Ar outer sh H E hr=>have nd:=(sc 77 (r:=r77)).nd;(yc (yH (yu yU ycq z_v yn) (yc (yr (yv z_v (T.M 53) (yG T) (T.b 73))) (yf (yj (ybJ (yfN (T.J 0) (yhW T) (T.C 1) (T.b 45) (ya z_v (ya (yv z_v (T.M 55) (yez T) (T.b 75)) yd))))))) yl) (yc (yH (yu yU ycq z_v yn) (yc (yr (yv z_v (T.M 53) (yG T) (T.b 73))) (yf (yj (ybJ (yfN (T.J 2) (ygS T) (T.C 3) (T.b 47) (ya z_v (ya (yv z_v (T.M 53) (yG T) (T.b 73)) yd))))))) yl) (yc (yH (yu yU ycq z_v yn) (yc (yr (yv z_v (T.M 53) (yG T) (T.b 73))) (yf (yj (ybJ (yfN (T.J 3) (yhX T) (T.C 4) (T.b 48) (ya z_v (ya (yv z_v (T.M 53) (yG T) (T.b 73)) yd))))))) yl) (yc (yH (yu yU ycq z_v yn) (yc (yr (yv z_v (T.M 54) (ydo T) (T.b 74))) (yf (yj (ybJ (yfN (T.J 6) (ygt T) (T.C 8) (T.b 51) (ya z_v (ya (yv z_v (T.M 53) (yG T) (T.b 73)) yd))))))) yl) (yc (yH (yu yU ycq z_v yn) (yf (yj (ybJ (yxb T.mk_Wait T.io_Wait T.kp_Wait (T.C 9))))) yl) (yc (yH (ybP (yQ (ypj T) (T.G 5) (T.k 14) (T.b 14) (ya z_v yd))) (yf (yj (yo z_v (T.M 62) (yeA T) (T.b 76) (ya z_v yd)))) yl) (yf ybG)))))))
theorem ysj:∀ n,yEL P w K mg base t n
 | 0=>⟨ydB,ydB,ydB,ydB,ydB⟩
 | n+1=>by
  have I:=ysj n
  have yfA:=I.ydC
  have ybZ:=I.yfy
  have ydD:=I.yfz
  have yeP:=I.yeN
  have ygb:=I.yfW
  exact ⟨zfn (T.F 78 r78) (sc 78) fun cdv Ar outer sh H E hr=>have nd:=(sc 78 (r:=r78)).nd;(yc (yH (ypp (yir (yu ynw ytj (yv z_v (T.M 50) (yco T) (T.b 70)) yip) (ygx (yu yU ycq (yv z_v (T.M 50) (yco T) (T.b 70)) yn)))) (yf (yj (ybJ (ybr yd)))) yl) (yc (yqX (ybr (ya (yo z_v (T.M 58) ydD (T.b 80) (ya z_v yd)) yd))) (yc (yjG (yu yU ycq (yv z_v (T.M 50) (yco T) (T.b 70)) yn) (yc (yN (yo z_v (T.M 52) (ybD T) (T.b 72) (ya yn yd))) (yf (yzV (yo z_v (T.M 58) ydD (T.b 80) (ya z_v yd)))))) (yqY (yf (yj z_v)))))),
   zfn (T.F 79 r79) (sc 79) fun cdv Ar outer sh H E hr=>have nd:=(sc 79 (r:=r79)).nd;(yc (yN (yo z_v (T.M 52) (ybD T) (T.b 72) (ya yn yd))) (yc (yr (yo z_v (T.M 56) yfA (T.b 78) (ya z_v yd))) (yc (yN (yo z_v (T.M 52) (ybD T) (T.b 72) (ya yn yd))) (yf (yj z_v))))),
   zfn (T.F 80 r80) (sc 80) fun cdv Ar outer sh H E hr=>have nd:=(sc 80 (r:=r80)).nd;(yc (yH (yu ysy yBn z_v (yfc T.m_MOST_AROUND)) (yf ybG) yl) (yc (yr (yv z_v (T.M 51) (ycp T) (T.b 71))) (yc (yH (yu yU ycq z_v yn) (yf ybG) yl) (yc (yH (yu yU ycq z_v yn) (yf (yj (yo z_v (T.M 59) yeP (T.b 81) (ya (ybH yba ybT z_v yg) yd)))) yl) (yc (yH (yu yU ycq z_v yn) (yf (yj (yo z_v (T.M 60) ygb (T.b 82) (ya (ybH yba ybT z_v yg) yd)))) yl) (yf (yj (yo z_v (T.M 61) (yeO T) (T.b 77) (ya z_v yd))))))))),
   zfn (T.F 81 r81) (sc 81) fun cdv Ar outer sh H E hr=>have nd:=(sc 81 (r:=r81)).nd;(yc (yr (yo z_v (T.M 57) ybZ (T.b 79) (ya z_v yd))) (yc (yN (yo z_v (T.M 52) (ybD T) (T.b 72) (ya yn yd))) (yc (yr (yo z_v (T.M 57) ybZ (T.b 79) (ya z_v yd))) (yf (yj (ybJ (yfN (T.J 4) (yfY T) (T.C 6) (T.b 49) (ya z_v (ya z_v yd))))))))),
   zfn (T.F 82 r82) (sc 82) fun cdv Ar outer sh H E hr=>have nd:=(sc 82 (r:=r82)).nd;(yc (yr (yo z_v (T.M 57) ybZ (T.b 79) (ya z_v yd))) (yc (yN (yo z_v (T.M 52) (ybD T) (T.b 72) (ya yn yd))) (yc (yr (yv z_v (T.M 54) (ydo T) (T.b 74))) (yc (yr (yv z_v (T.M 53) (yG T) (T.b 73))) (yc (yr (yo z_v (T.M 57) ybZ (T.b 79) (ya z_v yd))) (yf (yj (ybJ (yfN (T.J 5) (yhY T) (T.C 7) (T.b 50) (ya z_v (ya z_v (ya z_v (ya z_v yd)))))))))))))⟩
theorem yxY:‹(51+1,83,r83,1,ylj)›:=zfn (T.F 83 r83) (sc 83) fun cdv Ar outer sh H E hr=>have nd:=(sc 83 (r:=r83)).nd;(yc (yr (ydF (yfN (T.J 7) (yga T) (T.C 10) (T.b 68) (ya (yQ (ynn T) (T.G 18) (T.k 69) (T.b 69) (ya z_v yd)) yd)))) (yc (yr (yo z_v (T.M 56) (ysj T 45).ydC (T.b 78) (ya yg yd))) (yc (yH (yu yvJ yzf (yv z_v (T.M 50) (yco T) (T.b 70)) yip) (yf ybG) yl) (yc (yH (yu ysy yBn (ybH yba ybT (yQ (ykb T 45).yfx (T.G 10) (T.k 58) (T.b 58) (ya z_v yd)) yg) (yfc T.m_MOST_ROWS)) (yf ybG) yl) (yf (yj z_v))))))
theorem yic:FnOk P w K mg base CX0 (0+1) (t.a 0) (t.d 0) (FR.ps r0) (spI (yph K t) 0 11 yff):=zin (T.F 0 r0) (sc 0) rfl (by decide) fun cdv Ar outer sh H E hr=>(ybs (ybK (T.N 0) (ydF (ybr (ya (ydF yod) yd)))) (ydy (ybK (T.N 1) (ydF yod))))
theorem ylF:‹(0+1,1,r1,3,yen)›:=zfn (T.F 1 r1) (sc 1) fun cdv Ar outer sh H E hr=>have nd:=(sc 1 (r:=r1)).nd;(yc (yr (ybk ybc ycL (yB (T.N 0) z_v) (yzU ykj yqp yg))) (yf (ymI z_v z_v z_v)))
theorem yjb:‹(0+1,2,r2,2,ydY)›:=zfn (T.F 2 r2) (sc 2) fun cdv Ar outer sh H E hr=>have nd:=(sc 2 (r:=r2)).nd;(yc (yxg (T.Z 8) (yB (T.N 0) z_v) ygq (yf (yH (yzX z_v z_v) (yf (yj (yvq z_v z_v))) yl))) (yf (yj yip)))
theorem ylG:‹(0+1,3,r3,1,yeo)›:=zfn (T.F 3 r3) (sc 3) fun cdv Ar outer sh H E hr=>(yf (yN (yvp plainAttrs_list PySem.F.slot_list_append PySem.F.type_list_append ydU ynO (yB (T.N 0) z_v) (ya (ydF yod) yd))))
theorem ykd:‹(0+1,4,r4,1,ydI)›:=zfn (T.F 4 r4) (sc 4) fun cdv Ar outer sh H E hr=>have nd:=(sc 4 (r:=r4)).nd;(yc (yr (ytP plainAttrs_list slot_list_pop type_list_pop ynB ynP (yB (T.N 0) z_v))) (yc (yr (ybk ybc ycL (yB (T.N 0) z_v) (yzU ykj yqp yg))) (yf (yN (yvp PySem.F.plainAttrs_dict PySem.F.slot_dict_update PySem.F.type_dict_update yAc yCL z_v (ya z_v yd))))))
theorem yno:‹(0+1,5,r5,1,yeT)›:=zfn (T.F 5 r5) (sc 5) fun cdv Ar outer sh H E hr=>(yf (yN (ytP plainAttrs_list slot_list_pop type_list_pop ynB ynP (yB (T.N 0) z_v))))
theorem ypm:‹(0+1,6,r6,3,yfO)›:=zfn (T.F 6 r6) (sc 6) fun cdv Ar outer sh H E hr=>(yf (ymI (yB (T.N 1) z_v) z_v z_v))
theorem yjc:‹(0+1,7,r7,1,yeH)›:=zfn (T.F 7 r7) (sc 7) fun cdv Ar outer sh H E hr=>(yf (yj (ybJ (PXS.z_sortI (yB (T.N 1) z_v) (T.Z 9)))))
theorem ylH:‹(0+1,8,r8,1,yep)›:=zfn (T.F 8 r8) (sc 8) fun cdv Ar outer sh H E hr=>have nd:=(sc 8 (r:=r8)).nd;(yc (yr (ybk ybc ycL (yB (T.N 0) z_v) yg)) (yf (yj (ybJ (PXS.z_sortI z_v (T.Z 9))))))
theorem ygc:‹(0+1,16,r16,1,ydJ)›:=zfn (T.F 16 r16) (sc 16) fun cdv Ar outer sh H E hr=>(yf (yj (yvp PySem.F.plainAttrs_str PySem.F.slot_str_find PySem.F.type_str_find yxj ytk (ylg T.m_SLOTS) (ya z_v yd))))
theorem ybV:‹(1+1,19,r19,2,ybi)›:=zfn (T.F 19 r19) (sc 19) fun cdv Ar outer sh H E hr=>(yf (yj (ybk ybc ycL (yB (T.N 2) z_v) (yQ (ygc T) (T.G 7) (T.k 16) (T.b 16) (ya z_v yd)))))
theorem ydh:‹(1+1,20,r20,3,ybW)›:=zfn (T.F 20 r20) (sc 20) fun cdv Ar outer sh H E hr=>(yf (yhG z_v (yB (T.N 2) z_v) (yQ (ygc T) (T.G 7) (T.k 16) (T.b 16) (ya z_v yd))))
theorem ycx:‹(2+1,21,r21,2,ybL)›:=zfn (T.F 21 r21) (sc 21) fun cdv Ar outer sh H E hr=>(yf (yj (ybH ycE ydV (yo z_v (T.M 16) (ybV T) (T.b 19) (ya z_v yd)) (yB (T.N 3) z_v))))
theorem ygT:FnOk P w K mg base CX0 (2+1) (t.a 18) (t.d 18) (FR.ps r18) (spJ (yph K t) 2 12 yeI):=yEC (T.F 18 r18) (sc 18) rfl (by decide) fun cdv Ar outer sh H E hr=>(ybs (ybK (T.N 2) (ydF (ycT yM ybF (T.Z 6) (ya z_v yd)))) (ybs (ybK (T.N 3) z_v) (ydy (ybK (T.N 4) (ydF (yxh (T.J 8) (yic T) (T.C 11) (T.b 0)))))))
theorem ysk:‹(0+1,9,r9,3,yhe)›:=zfn (T.F 9 r9) (sc 9) fun cdv Ar outer sh H E hr=>(yc (yH (yu yU ycq z_v yn) (yf (yj (ybH ycE ydV (ybH yba ybT z_v z_v) (yfc T.m_WIDE)))) yl) (yc (yH (yu yU ycq z_v yn) (yf (yj (ybH ycE ydV (ybH yhi ymu z_v z_v) (yfc T.m_WIDE)))) yl) (yc (yH (yu yU ycq z_v yn) (yf (yj (ybH ycE ydV (ybH ynv yth z_v z_v) (yfc T.m_WIDE)))) yl) (yc (yH (yu yU ycq z_v yn) (yf (yj (yqV (yu ylS ywz z_v z_v) yg yg))) yl) (yf (yj (yqV (yu yU ycq z_v z_v) yg yg)))))))
theorem ygu:‹(2+1,22,r22,5,yca)›:=zfn (T.F 22 r22) (sc 22) fun cdv Ar outer sh H E hr=>(yf (yN (yo z_v (T.M 17) (ydh T) (T.b 20) (ya z_v (ya (yQ (ysk T) (T.G 0) (T.k 9) (T.b 9) (ya z_v (ya (yo z_v (T.M 16) (ybV T) (T.b 19) (ya z_v yd)) (ya (yo z_v (T.M 16) (ybV T) (T.b 19) (ya z_v yd)) yd)))) yd)))))
theorem yix:‹(3+1,23,r23,3,ycM)›:=zfn (T.F 23 r23) (sc 23) fun cdv Ar outer sh H E hr=>(yf (yN (yo (yB (T.N 4) z_v) (T.M 8) (ylF T) (T.b 1) (ya (yo z_v (T.M 18) (ycx T) (T.b 21) (ya z_v yd)) (ya (yo z_v (T.M 16) (ybV T) (T.b 19) (ya z_v yd)) yd)))))
theorem yid:‹(3+1,24,r24,2,ycZ)›:=zfn (T.F 24 r24) (sc 24) fun cdv Ar outer sh H E hr=>(yf (yj (ydr ynw ytj (yo (yB (T.N 4) z_v) (T.M 9) (yjb T) (T.b 2) (ya (yo z_v (T.M 18) (ycx T) (T.b 21) (ya z_v yd)) yd)) yip)))
theorem ygU:‹(3+1,25,r25,3,yci)›:=zfn (T.F 25 r25) (sc 25) fun cdv Ar outer sh H E hr=>(yf (yN (yo z_v (T.M 17) (ydh T) (T.b 20) (ya z_v (ya (yo (yB (T.N 4) z_v) (T.M 9) (yjb T) (T.b 2) (ya (yo z_v (T.M 18) (ycx T) (T.b 21) (ya z_v yd)) yd)) yd)))))
theorem ygv:‹(3+1,26,r26,4,ycy)›:=zfn (T.F 26 r26) (sc 26) fun cdv Ar outer sh H E hr=>have nd:=(sc 26 (r:=r26)).nd;(yc (yr (yo z_v (T.M 18) (ycx T) (T.b 21) (ya z_v yd))) (yc (yN (yo (yB (T.N 4) z_v) (T.M 13) (ypm T) (T.b 6) (ya z_v (ya (ybk ybc ycL z_v z_v) yd)))) (yf (yN (yo z_v (T.M 17) (ydh T) (T.b 20) (ya z_v (ya (ybk ybc ycL z_v z_v) yd)))))))
theorem yuH:‹(0+1,27,r27,2,yhK)›:=zfn (T.F 27 r27) (sc 27) fun cdv Ar outer sh H E hr=>(yc (yH (yu yU ycq (ybk yz yS z_v yg) yn) (yf (yj (ydr yU ycq (ybk yz yS z_v yg) yn))) yl) (yf (yj (yhF (ydr yU ycq (ybk yz yS z_v yg) yn) (yiq (ydr yU ycq (ybk yz yS z_v yg) (ybk yz yS z_v yg)))))))
theorem yie:FnOk P w K mg base CX0 (4+1) (t.a 28) (t.d 28) (FR.ps r28) (spI (yph K t) 3 12 ydQ):=zin (T.F 28 r28) (sc 28) rfl (by decide) fun cdv Ar outer sh H E hr=>(ybs (yxl T.cf_Doer (T.C 13) (ygT T) (T.b 18) (ya z_v (ya z_v yd))) (ybs (ybK (T.N 5) z_v) (ybs (ybK (T.N 6) yg) (ybs (ybK (T.N 7) (ydF yod)) (ydy (ybK (T.N 8) (ydF (ybr yd))))))))
theorem yeW:‹(0+1,29,r29,1,ydz)›:=zfn (T.F 29 r29) (sc 29) fun cdv Ar outer sh H E hr=>(yf (yj (ybk ybc ycL (yB (T.N 5) z_v) (yB (T.N 6) z_v))))
theorem yeQ:‹(0+1,30,r30,2,ycv)›:=zfn (T.F 30 r30) (sc 30) fun cdv Ar outer sh H E hr=>(yf (yj (ydT (yoj rfl) yzT (T.Z 1) (ya (ybJ (yxn ["stamps","self"] (yB (T.N 7) z_v) (fun _ _ _ _ _ _=>(ydr yoB yyc (ybk ybc ycL z_v z_v) (yvq (yB (T.N 7) z_v) z_v))))) yd))))
theorem ydM:‹(1+1,31,r31,2,ybh)›:=zfn (T.F 31 r31) (sc 31) fun cdv Ar outer sh H E hr=>have nd:=(sc 31 (r:=r31)).nd;(yc (yr (ydT yI ycS (T.Z 5) (ya (yB (T.N 8) z_v) yd))) (yc (yjG (ypp (yob (yu ysy yBn z_v yg) (yjF (ydX (ybP (yQ (yuH T) (T.G 9) (T.k 27) (T.b 27) (ya (ybk yz yS (ybk ybc ycL (yB (T.N 8) z_v) (ybH yhi ymu z_v yg)) yg) (ya z_v yd)))))))) (yf (yr (ybH yhi ymu z_v yg)))) (yf (yj z_v))))
theorem yeR:‹(4+1,32,r32,1,ybp)›:=zfn (T.F 32 r32) (sc 32) fun cdv Ar outer sh H E hr=>have nd:=(sc 32 (r:=r32)).nd;(yc (yr (yv z_v (T.M 24) (yeW T) (T.b 29))) (yc (yH (yu yU ycq (ybk yz yS z_v yg) yn) (yf (yj (yo z_v (T.M 21) (yid T) (T.b 24) (ya (ybk yz yS z_v yg) yd)))) yl) (yc (yH (ypp (yir (yu yU ycq (ybk yz yS z_v yg) yn) (ygx (yu yU ycq (ybk yz yS z_v yg) yn)))) (yf (yj (ydr yU ycq (yo z_v (T.M 26) (ydM T) (T.b 31) (ya z_v yd)) yg))) yl) (yf (yj (ydr yU ycq (ybk yz yS z_v yg) yn))))))
theorem yif:‹(4+1,33,r33,3,yda)›:=zfn (T.F 33 r33) (sc 33) fun cdv Ar outer sh H E hr=>have nd:=(sc 33 (r:=r33)).nd;(yc (yr (yv z_v (T.M 24) (yeW T) (T.b 29))) (yc (yr (yo z_v (T.M 18) (ycx T) (T.b 21) (ya (ybk yz yS z_v yg) yd))) (yc (ymI (yB (T.N 7) z_v) z_v (ybk ybc ycL z_v z_v)) (yc (yN (yo z_v (T.M 23) (ygv T) (T.b 26) (ya (ybk yz yS z_v yg) (ya (ybk yz yS z_v yg) (ya z_v yd))))) (yc (ybI (T.N 6) z_v (ybH yba ybT (yB (T.N 6) z_v) yg)) (yf (yj z_v)))))))
theorem yig:‹(4+1,34,r34,2,yC)›:=zfn (T.F 34 r34) (sc 34) fun cdv Ar outer sh H E hr=>(yf (yH (yu yU ycq (ybk yz yS z_v yg) yn) (yf (yN (yo z_v (T.M 17) (ydh T) (T.b 20) (ya (ybk yz yS z_v yg) (ya (ybk yz yS z_v yg) yd))))) (yf (yH (yu yU ycq (ybk yz yS z_v yg) yn) (yf (yN (yo z_v (T.M 22) (ygU T) (T.b 25) (ya (ybk yz yS z_v yg) (ya (ybk yz yS z_v yg) yd))))) (yf (yH (yu yU ycq (ybk yz yS z_v yg) yn) (yf (yN (yo z_v (T.M 19) (yix T) (T.b 23) (ya (ybk yz yS z_v yg) (ya (ybk yz yS z_v yg) yd))))) (yf (yN (yo z_v (T.M 20) (ygu T) (T.b 22) (ya (ybk yz yS z_v yg) (ya (ybk yz yS z_v yg) (ya (ybk yz yS z_v yg) (ya (ybk yz yS z_v yg) yd)))))))))))))
theorem ynp:‹(0+1,35,r35,2,ydu)›:=zfn (T.F 35 r35) (sc 35) fun cdv Ar outer sh H E hr=>(yf (yH (yu yU ycq (ybk yz yS z_v yg) yn) (yf (ybI (T.N 6) z_v (ybk yz yS z_v yg))) (yf ybG)))
theorem ygJ:‹(2+1,36,r36,2,ycj)›:=zfn (T.F 36 r36) (sc 36) fun cdv Ar outer sh H E hr=>have nd:=(sc 36 (r:=r36)).nd;(yc (yr (yo z_v (T.M 26) (ydM T) (T.b 31) (ya z_v yd))) (yc (yr (ybk ybc ycL (yB (T.N 8) z_v) (ybH yhi ymu z_v yg))) (yc (yjG (yu yBE yEt (ydT yI ycS (T.Z 5) (ya (yB (T.N 8) z_v) yd)) z_v) (yc (yN (ytP plainAttrs_list slot_list_pop type_list_pop ynB ynP (yB (T.N 8) z_v))) (yf (yN (yv (yB (T.N 4) z_v) (T.M 12) (yno T) (T.b 5)))))) (yc (yr (ybk yz yS z_v yg)) (yc (ybI (T.N 2) z_v (ydF (ycT yM ybF (T.Z 6) (ya (ybk yz yS z_v yg) yd)))) (yc (ybI (T.N 6) z_v (ybk yz yS z_v (yzU ykj yqp yg))) (yf (yj z_v))))))))
theorem ylI:‹(3+1,37,r37,2,ycC)›:=zfn (T.F 37 r37) (sc 37) fun cdv Ar outer sh H E hr=>have nd:=(sc 37 (r:=r37)).nd;(yc (yr (yo z_v (T.M 16) (ybV T) (T.b 19) (ya (ybk yz yS z_v yg) yd))) (yc (yr (yo z_v (T.M 33) (ygJ T) (T.b 36) (ya z_v yd))) (yf (yN (yo z_v (T.M 17) (ydh T) (T.b 20) (ya (ybk yz yS z_v yg) (ya z_v yd)))))))
theorem ysl:‹(5+1,38,r38,1,ycr)›:=zfn (T.F 38 r38) (sc 38) fun cdv Ar outer sh H E hr=>have nd:=(sc 38 (r:=r38)).nd;(yc (yr (yv z_v (T.M 24) (yeW T) (T.b 29))) (yc (ybI (T.N 6) z_v (ybH yba ybT (yB (T.N 6) z_v) yg)) (yf (yH (yu yU ycq (ybk yz yS z_v yg) yn) (yf (yN (yo z_v (T.M 33) (ygJ T) (T.b 36) (ya z_v yd)))) (yf (yH (yu yU ycq (ybk yz yS z_v yg) yn) (yf (yN (yo z_v (T.M 32) (ylI T) (T.b 37) (ya z_v yd)))) (yf (yH (ypp (yir (yu yU ycq (ybk yz yS z_v yg) yn) (ygx (yu yU ycq (ybk yz yS z_v yg) yn)))) (yf (yN (yo z_v (T.M 31) (ynp T) (T.b 35) (ya z_v yd)))) (yf (yH (ypp (yir (yu yU ycq (ybk yz yS z_v yg) yn) (ygx (yu yU ycq (ybk yz yS z_v yg) yn)))) (yc (yN (yvp plainAttrs_list PySem.F.slot_list_append PySem.F.type_list_append ydU ynO (yB (T.N 8) z_v) (ya (yP (ya z_v (ya (ybJ (ycT yM ybF (T.Z 6) (ya (yB (T.N 2) z_v) yd))) yd))) yd))) (yf (yN (yv (yB (T.N 4) z_v) (T.M 10) (ylG T) (T.b 3))))) (yf (yH (yu yU ycq (ybk yz yS z_v yg) yn) (yc (yN (ytP plainAttrs_list slot_list_pop type_list_pop ynB ynP (yB (T.N 8) z_v))) (yf (yN (yv (yB (T.N 4) z_v) (T.M 11) (ykd T) (T.b 4))))) (yf (yN (yo z_v (T.M 30) (yig T) (T.b 34) (ya z_v yd))))))))))))))))
theorem yeu:‹(0+1,39,r39,1,yck)›:=zfn (T.F 39 r39) (sc 39) fun cdv Ar outer sh H E hr=>(yc (yH (yu yU ycq (yB (T.N 10) z_v) (ydT yI ycS (T.Z 5) (ya (yB (T.N 9) z_v) yd))) (yf (yj yn)) yl) (yf (yj (yqV (ybP (yB (T.N 11) z_v)) yn yn))))
theorem ydE:‹(6+1,40,r40,1,ycd)›:=zfn (T.F 40 r40) (sc 40) fun cdv Ar outer sh H E hr=>have nd:=(sc 40 (r:=r40)).nd;(yc (yr (yqV (yu ylS ywz (yB (T.N 10) z_v) (ydT yI ycS (T.Z 5) (ya (yB (T.N 9) z_v) yd))) (ybk ybc ycL (yB (T.N 9) z_v) (yB (T.N 10) z_v)) (ybJ (ybr yd)))) (yf (yj (ydF (yfN (T.J 9) (yie T) (T.C 12) (T.b 28) (ya z_v (ya (yB (T.N 12) z_v) (ya (yB (T.N 3) z_v) yd))))))))
theorem ydN:‹(7+1,41,r41,1,ybU)›:=zfn (T.F 41 r41) (sc 41) fun cdv Ar outer sh H E hr=>(yc (ybI (T.N 11) z_v ywY) (yf (ybI (T.N 13) z_v (yv z_v (T.M 35) (ydE T) (T.b 40)))))
theorem yfB:‹(0+1,42,r42,1,ycf)›:=zfn (T.F 42 r42) (sc 42) fun cdv Ar outer sh H E hr=>(yf (ybI (T.N 11) z_v ywY))
theorem yke:‹(7+1,43,r43,2,ydK)›:=zfn (T.F 43 r43) (sc 43) fun cdv Ar outer sh H E hr=>(yc (ybI (T.N 10) z_v (ybH yba ybT (yB (T.N 10) z_v) yg)) (yc (ybI (T.N 12) z_v (ybJ (ycT yM ybF (T.Z 6) (ya z_v yd)))) (yf (ybI (T.N 13) z_v (yv z_v (T.M 35) (ydE T) (T.b 40))))))
theorem ygV:‹(7+1,44,r44,3,ybz)›:=zfn (T.F 44 r44) (sc 44) fun cdv Ar outer sh H E hr=>(yc (ybI (T.N 9) z_v (ybJ (ycT yM ybF (T.Z 6) (ya z_v yd)))) (yc (ybI (T.N 3) z_v z_v) (yc (ybI (T.N 10) z_v yg) (yc (ybI (T.N 11) z_v ywY) (yc (ybI (T.N 12) z_v (ybJ (yfM ypR ywC (ybJ (ybr (ya yg yd))) (ydT ydG ynG (T.Z 5) (ya (ylg T.m_SLOTS) yd))))) (yf (ybI (T.N 13) z_v (yv z_v (T.M 35) (ydE T) (T.b 40)))))))))
theorem yiy:‹(2+1,84,r84,1,yds)›:=zfn (T.F 84 r84) (sc 84) fun cdv Ar outer sh H E hr=>(yc (yH (ydX (yhd yik yik yso yso yg (ydT yI ycS (T.Z 5) (ya z_v yd)) (yfc T.m_MOST_BOXES))) (yf ybG) yl) (yf (yH (ydX (ybP (ydT (ynC rfl) yzm (T.Z 0) (ya (ybJ (yfd [] (ydP z_v) (fun _ _ _ _ _ _=>(yQ (ylE T) (T.G 2) (T.k 11) (T.b 11) (ya z_v yd))))) yd)))) (yf ybG) yl)))
theorem ygW:‹(93+1,85,r85,1,ybC)›:=zfn (T.F 85 r85) (sc 85) fun cdv Ar outer sh H E hr=>(yf (yj (ybJ (yfd [] (ydP z_v) (fun _ _ _ _ _ _=>(yQ (ypi T) (T.G 17) (T.k 67) (T.b 67) (ya (yQ (yxY T) (T.G 19) (T.k 83) (T.b 83) (ya z_v yd)) yd)))))))
theorem ygX:‹(94+1,86,r86,1,ycl)›:=zfn (T.F 86 r86) (sc 86) fun cdv Ar outer sh H E hr=>(yc (yH (ydX (yhd yik yik yso yso yg (ydT yI ycS (T.Z 5) (ya z_v yd)) (yfc T.m_MOST_HANDS))) (yf ybG) yl) (yc (yH (ybP (ydT (yoj rfl) yzT (T.Z 1) (ya (ybJ (yfd [] (ydP z_v) (fun _ _ _ _ _ _=>(ydr ysy yBn (ydT yI ycS (T.Z 5) (ya z_v yd)) (yfc T.m_MOST_DEEDS))))) yd))) (yf ybG) yl) (yf (yj (ybJ (yfd [] (ydP z_v) (fun _ _ _ _ _ _=>(yQ (ygW T) (T.G 21) (T.k 85) (T.b 85) (ya z_v yd)))))))))
theorem ygY:‹(95+1,87,r87,3,ycm)›:=zfn (T.F 87 r87) (sc 87) fun cdv Ar outer sh H E hr=>(yc (yN (yQ (yiy T) (T.G 20) (T.k 84) (T.b 84) (ya z_v yd))) (yc (ybI (T.N 14) z_v (ydF (ycT yM ybF (T.Z 6) (ya z_v yd)))) (yc (ybI (T.N 15) z_v (ydF (yfM ypR ywC (ybJ (ybr (ya yg yd))) (ydT yI ycS (T.Z 5) (ya z_v yd))))) (yc (ybI (T.N 16) z_v (ydF (yfd ["boxes"] (ydP (yQ (ygX T) (T.G 22) (T.k 86) (T.b 86) (ya z_v yd))) (fun _ _ _ _ _ _=>(yrd (T.J 11) (ygV T) (T.C 14) (T.b 44) (ya z_v (ya (ydT yI ycS (T.Z 5) (ya z_v yd)) yd))))))) (yf (ybI (T.N 17) z_v (ydF (ybr yd))))))))
theorem ykf:‹(0+1,88,r88,1,ydL)›:=zfn (T.F 88 r88) (sc 88) fun cdv Ar outer sh H E hr=>(yf (yj (ybJ (ycT yM ybF (T.Z 6) (ya (yB (T.N 14) z_v) yd)))))
theorem ycP:‹(1+1,89,r89,2,ybv)›:=zfn (T.F 89 r89) (sc 89) fun cdv Ar outer sh H E hr=>(yc (yH (ypp (yir (ydX (ybP (yQ (yib T) (T.G 1) (T.k 10) (T.b 10) (ya z_v yd)))) (ygx (ydX (yhd yik ylS yso ywz yg z_v (ydT yI ycS (T.Z 5) (ya (yB (T.N 16) z_v) yd))))))) (yf ybG) yl) (yf (yj (ybk ybc ycL (yB (T.N 16) z_v) z_v))))
theorem ygd:‹(2+1,90,r90,2,ycG)›:=zfn (T.F 90 r90) (sc 90) fun cdv Ar outer sh H E hr=>(yf (yj (yv (yo z_v (T.M 40) (ycP T) (T.b 89) (ya z_v yd)) (T.M 34) (yeu T) (T.b 39))))
theorem ykg:‹(2+1,91,r91,2,ydf)›:=zfn (T.F 91 r91) (sc 91) fun cdv Ar outer sh H E hr=>(yf (yj (ybJ (ycT yM ybF (T.Z 6) (ya (yB (T.N 2) (yB (T.N 13) (yo z_v (T.M 40) (ycP T) (T.b 89) (ya z_v yd)))) yd)))))
theorem ynq:‹(2+1,92,r92,2,yed)›:=zfn (T.F 92 r92) (sc 92) fun cdv Ar outer sh H E hr=>(yf (yj (yv (yB (T.N 4) (yB (T.N 13) (yo z_v (T.M 40) (ycP T) (T.b 89) (ya z_v yd)))) (T.M 14) (yjc T) (T.b 7))))
theorem yih:‹(0+1,93,r93,1,ycw)›:=zfn (T.F 93 r93) (sc 93) fun cdv Ar outer sh H E hr=>(yf (yj (ybJ (yxm [] (yB (T.N 17) z_v) (fun _ _ _ _ _ _=>(yP (ya (ybk yz yS z_v yg) (ya (ybk yz yS z_v yg) (ya (ybk yz yS z_v yg) (ya (ybJ (ycT yM ybF (T.Z 6) (ya (ybk yz yS z_v yg) yd))) (ya (ybJ (ycT yM ybF (T.Z 6) (ya (ybk yz yS z_v yg) yd))) (ya (ybJ (ycT yM ybF (T.Z 6) (ya (ybk yz yS z_v yg) yd))) yd))))))))))))
theorem yge:‹(8+1,94,r94,1,yby)›:=zfn (T.F 94 r94) (sc 94) fun cdv Ar outer sh H E hr=>have nd:=(sc 94 (r:=r94)).nd;(yf (yxf (yB (T.N 16) z_v) ygq (yf (yH (ypp (yob (yu yU ycq (yv z_v (T.M 34) (yeu T) (T.b 39)) yn) (yjF (ybP (yo (yB (T.N 13) z_v) (T.M 25) (yeQ T) (T.b 30) (ya (yB (T.N 15) z_v) yd)))))) (yf (yN (yv z_v (T.M 36) (ydN T) (T.b 41)))) yl))))
theorem yey:‹(8+1,95,r95,5,ycn)›:=zfn (T.F 95 r95) (sc 95) fun cdv Ar outer sh H E hr=>have nd:=(sc 95 (r:=r95)).nd;(yc (yr (ybk ybc ycL (yB (T.N 16) z_v) z_v)) (yc (yN (yvp plainAttrs_list PySem.F.slot_list_append PySem.F.type_list_append ydU ynO (yB (T.N 17) z_v) (ya (yP (ya z_v (ya (yB (T.N 10) z_v) (ya z_v (ya (yv (yB (T.N 4) (yB (T.N 13) z_v)) (T.M 14) (yjc T) (T.b 7)) (ya z_v (ya (ybJ (ycT yM ybF (T.Z 6) (ya z_v yd))) yd))))))) yd))) (yf (yN (yo z_v (T.M 38) (yke T) (T.b 43) (ya z_v yd))))))
theorem ygZ:‹(9+1,96,r96,2,ycN)›:=zfn (T.F 96 r96) (sc 96) fun cdv Ar outer sh H E hr=>have nd:=(sc 96 (r:=r96)).nd;(yc (yr (yB (T.N 13) (ybk ybc ycL (yB (T.N 16) z_v) z_v))) (yc (yr (yv (yB (T.N 4) z_v) (T.M 15) (ylH T) (T.b 8))) (yc (yoc (ydP z_v) ygq (yc (yr (ybk yz yS z_v yg)) (yc (yhG (ybk yz yS z_v yg) (yB (T.N 14) z_v) z_v) (yf (yhG (ybH yba ybT (ybk ybc ycL (yB (T.N 15) z_v) z_v) yg) (yB (T.N 15) z_v) z_v))))) (yc (yN (yo z_v (T.M 46) (yey T) (T.b 95) (ya z_v (ya (yP (ya yn yd)) (ya z_v (ya (yB (T.N 2) z_v) yd)))))) (yf (yN (yv z_v (T.M 45) (yge T) (T.b 94))))))))
theorem yeg:‹(10+1,97,r97,3,yO)›:=zfn (T.F 97 r97) (sc 97) fun cdv Ar outer sh H E hr=>have nd:=(sc 97 (r:=r97)).nd;(yc (yr (ybk ybc ycL (yB (T.N 16) z_v) z_v)) (yc (yr (yv (yB (T.N 13) z_v) (T.M 24) (yeW T) (T.b 29))) (yc (yH (yu yU ycq (ybk yz yS z_v yg) yn) (yc (yr (yo (yB (T.N 13) z_v) (T.M 28) (yif T) (T.b 33) (ya (yB (T.N 14) z_v) (ya (yB (T.N 15) z_v) yd)))) (yf (yj (yP (ya yn (ya z_v (ya z_v (ya (ybk ybc ycL (yB (T.N 14) z_v) z_v) yd)))))))) yl) (yc (yH (yu yU ycq (ybk yz yS z_v yg) yn) (yc (yN (yv z_v (T.M 37) (yfB T) (T.b 42))) (yf (yj (yP (ya yn (ya z_v yd)))))) yl) (yc (yH (yu yU ycq (ybk yz yS z_v yg) yn) (yc (yN (yo z_v (T.M 46) (yey T) (T.b 95) (ya z_v (ya (yP (ya yn (ya (ybk yz yS z_v yg) (ya (yo (yB (T.N 13) z_v) (T.M 16) (ybV T) (T.b 19) (ya (ybk yz yS z_v yg) yd)) yd)))) (ya (ybJ (ybr yd)) (ya (yB (T.N 12) z_v) yd)))))) (yf (yj (yP (ya yn (ya z_v yd)))))) yl) (yc (yN (yo z_v (T.M 47) (ygZ T) (T.b 96) (ya z_v yd))) (yf (yj (yP (ya yn (ya z_v yd)))))))))))
theorem yeS:‹(11+1,98,r98,2,yx)›:=zfn (T.F 98 r98) (sc 98) fun cdv Ar outer sh H E hr=>have nd:=(sc 98 (r:=r98)).nd;(yc (yr (yo z_v (T.M 40) (ycP T) (T.b 89) (ya z_v yd))) (yc (yH (yu yoB yyc (yv z_v (T.M 34) (yeu T) (T.b 39)) yn) (yf (yj (yP (ya yn yd)))) yl) (yc (yr (yB (T.N 6) (yB (T.N 13) z_v))) (yc (yH (ydX (ybP (yv (yB (T.N 13) z_v) (T.M 27) (yeR T) (T.b 32)))) (yc (yN (yv (yB (T.N 13) z_v) (T.M 29) (ysl T) (T.b 38))) (yf (yj (yP (ya yn (ya z_v yd)))))) yl) (yc (yH (ybP (yo (yB (T.N 13) z_v) (T.M 25) (yeQ T) (T.b 30) (ya (yB (T.N 15) z_v) yd))) (yc (yN (yv z_v (T.M 36) (ydN T) (T.b 41))) (yf (yj (yP (ya yn (ya z_v yd)))))) yl) (yf (yj (yo z_v (T.M 48) (yeg T) (T.b 97) (ya z_v (ya z_v yd))))))))))
theorem ybe:‹(0+1,99,r99,2,yy)›:=zfn (T.F 99 r99) (sc 99) fun cdv Ar outer sh H E hr=>(yc (yH (yu ylS ywz z_v (ydT yI ycS (T.Z 5) (ya z_v yd))) (yf (yj (ybk ybc ycL z_v z_v))) yl) (yf (yj yg)))
theorem yeh:‹(0+1,100,r100,1,ycb)›:=zfn (T.F 100 r100) (sc 100) fun cdv Ar outer sh H E hr=>have nd:=(sc 100 (r:=r100)).nd;(yc (yr (ybH yfl ymv z_v yg)) (yc (yH (yu yU ycq (ybH ycE ydV z_v yg) yg) (yf (yj (ybH ycE ydV z_v yg))) yl) (yc (yH (yu yU ycq (ybH ycE ydV z_v yg) yg) (yf (yj (ybH yhi ymu (ybH yhi ymu (ybH yuN yze yg yg) yg) (ybH ycE ydV z_v yg)))) yl) (yf (yj (ybH ycE ydV z_v (ybH yuN yze yg yg)))))))
theorem yiz:‹(0+1,101,r101,4,ybY)›:=zfn (T.F 101 r101) (sc 101) fun cdv Ar outer sh H E hr=>have nd:=(sc 101 (r:=r101)).nd;(yc (yH (yu yU ycq z_v yg) (yc (yr (ydF (ybr (ya (yP (ya z_v (ya yn yd))) (ya (yP (ya (ybH yba ybT z_v yg) (ya yn (ya z_v yd)))) (ya (yP (ya (ybH yba ybT z_v yg) (ya yn yd))) yd)))))) (yc (yH (ybP z_v) (yf (yhG (yP (ya (ybH yba ybT z_v yg) (ya yn yd))) z_v yg)) yl) (yf (yj (yP (ya (ybH ybQ yeE (ybH ybQ yeE yn (ymH ycF yiG (T.Z 10) (ya z_v yd))) yn) (ya z_v yd))))))) yl) (yc (yH (yu yU ycq z_v yg) (yf (yj (yP (ya yn (ya (ybJ (ybr (ya (yP (ya z_v (ya yn yd))) yd))) yd))))) yl) (yc (yH (yu yU ycq z_v yg) (yf (yj (yP (ya yn (ya (ybJ (ybr (ya (yP (ya z_v (ya yn yd))) yd))) yd))))) yl) (yc (yH (yu yU ycq z_v yg) (yf (yj (yP (ya yn (ya (ybJ (ybr (ya (yP (ya z_v (ya yn yd))) yd))) yd))))) yl) (yc (yH (yu yU ycq z_v yg) (yc (yr (ydF (ybr (ya (yP (ya z_v (ya yn yd))) (ya (yP (ya (ybH yba ybT z_v yg) (ya yn yd))) (ya (yP (ya (ybH yba ybT z_v yg) (ya yn yd))) (ya (yP (ya (ybH yba ybT z_v yg) (ya yn yd))) yd))))))) (yf (yj (yP (ya (ybH ybQ yeE (ybH ybQ yeE yn (ymH ycF yiG (T.Z 10) (ya z_v yd))) yn) (ya z_v yd)))))) yl) (yc (yH (yu yU ycq z_v yg) (yc (yr (ydF (ybr (ya (yP (ya z_v (ya yn yd))) (ya (yP (ya (ybH yba ybT z_v yg) (ya yn yd))) (ya (yP (ya (ybH yba ybT z_v yg) (ya yn yd))) (ya (yP (ya (ybH yba ybT z_v yg) (ya yn yd))) yd))))))) (yf (yj (yP (ya yn (ya z_v yd)))))) yl) (yc (yH (yu yU ycq z_v yg) (yf (yj (yP (ya yn (ya (ybJ (ybr (ya (yP (ya z_v (ya yn yd))) (ya (yP (ya (ybH yba ybT z_v yg) (ya yn yd))) (ya (yP (ya (ybH yba ybT z_v yg) (ya yn yd))) yd))))) yd))))) yl) (yc (yH (yu yU ycq z_v yg) (yc (yr (ydF (yfM yeB yhs (ybJ (yfd ["_law_at"] (ygp (T.Z 7) (ya yg yd)) (fun _ _ _ _ _ _=>(yP (ya (ybH yba ybT z_v z_v) (ya yn yd)))))) (ybJ (ybr (ya (yP (ya (ybH yba ybT z_v yg) (ya yn yd))) yd)))))) (yf (yj (yP (ya (ybH ybQ yeE (ybH ybQ yeE yn (ymH ycF yiG (T.Z 10) (ya z_v yd))) yn) (ya z_v yd)))))) yl) (yc (yH (yu yU ycq z_v yg) (yf (yj (yP (ya yn (ya (ybJ (ybr (ya (yP (ya z_v (ya yn yd))) (ya (yP (ya (ybH yba ybT z_v yg) (ya yn yd))) yd)))) yd))))) yl) (yc (yH (yu yU ycq z_v yg) (yf (yj (yP (ya yn (ya (ybJ (ybr (ya (yP (ya z_v (ya yn yd))) (ya (yP (ya (ybH yba ybT z_v yg) (ya yn yd))) yd)))) yd))))) yl) (yc (yr (ydF (ybr (ya (yP (ya z_v (ya yn yd))) (ya (yP (ya (ybH yba ybT z_v yg) (ya yn yd))) (ya (yP (ya (ybH yba ybT z_v yg) (ya yn yd))) yd)))))) (yc (yH (yu yU ycq z_v yg) (yc (yr (ydF (yfM yeB yhs z_v (ybJ (ybr (ya (yP (ya (ybH yba ybT z_v yg) (ya yn yd))) (ya (yP (ya (ybH yba ybT z_v yg) (ya yn yd))) yd))))))) (yf (yj (yP (ya yn (ya z_v yd)))))) yl) (yf (yj (yP (ya yn (ya (ybJ (yfM yeB yhs z_v (ybJ (ybr (ya (yP (ya (ybH yba ybT z_v yg) (ya yn yd))) yd))))) yd)))))))))))))))))
theorem yiA:‹(0+1,102,r102,2,ydt)›:=zfn (T.F 102 r102) (sc 102) fun cdv Ar outer sh H E hr=>have nd:=(sc 102 (r:=r102)).nd;(yc (yr (ybJ (ybr (ya yn (ya yn (ya yn (ya yn (ya yn (ya yn (ya yn yd)))))))))) (yf (yj (ybJ (yfd ["_law_some","_law_cell"] (ygp (T.Z 7) (ya z_v yd)) (fun _ _ _ _ _ _=>(ybk ybc ycL z_v (ybH ycE ydV (ybH yfl ymv z_v (ybH yba ybT yg z_v)) yg))))))))
theorem ylJ:‹(0+1,103,r103,3,ycY)›:=zfn (T.F 103 r103) (sc 103) fun cdv Ar outer sh H E hr=>(yc (yH (yu yU ycq (ybk yz yS z_v yg) yn) (yf (yj (ydr (yof (yfe hr)) ytE z_v (yP (ya yn (ya (ybk yz yS z_v yg) (ya (ybk yz yS z_v yg) (ya (ybk ybc ycL z_v (ybk yz yS z_v yg)) yd)))))))) yl) (yf (yj (yhF (ydT yX (yfp (K:=ckX _ _) T.isa) (T.Z 4) (ya z_v (ya (ywZ (T.Z 12)) yd))) (yiq (ydr (yof (yfe hr)) ytE z_v (yP (ya (ybk yz yS z_v yg) (ya (ybk yz yS z_v yg) yd)))))))))
theorem ygf:‹(12+1,104,r104,4,ycs)›:=zfn (T.F 104 r104) (sc 104) fun cdv Ar outer sh H E hr=>have nd:=(sc 104 (r:=r104)).nd;(yc (yoc (ygp (T.Z 7) (ya yg yd)) ygq (yf (yH (yu (yiP (yfe hr)) yoU (yo z_v (T.M 49) (yeS T) (T.b 98) (ya yg yd)) (yP (ya yn (ya z_v yd)))) (yf (yj ywY)) yl))) (yc (yH (yu (yiP (yfe hr)) yoU (yo z_v (T.M 49) (yeS T) (T.b 98) (ya yg yd)) (yP (ya yn (ya yg yd)))) (yf (yj ywY)) yl) (yc (yhG z_v z_v z_v) (yf (yj (ydr (yof (yfe hr)) ytE (yv z_v (T.M 39) (ykf T) (T.b 88)) z_v))))))
theorem ygK:‹(13+1,105,r105,5,ycD)›:=zfn (T.F 105 r105) (sc 105) fun cdv Ar outer sh H E hr=>have nd:=(sc 105 (r:=r105)).nd;(yc (yr ywY) (yc (yr (ydF (ybr yd))) (yc (yoc (ygp (T.Z 7) (ya (ydT yI ycS (T.Z 5) (ya z_v yd)) yd)) ygq (yc (yH (yu yU ycq z_v z_v) (yc (yH (ydX (ybP (yQ (ygf T) (T.G 28) (T.k 104) (T.b 104) (ya z_v (ya (ybk yz yS z_v yg) (ya z_v (ya (ybk yz yS z_v yg) yd))))))) (yf (yj yn)) yl) (yf (yr (ydr yhm ywO (ybk yz yS z_v yg) z_v)))) yl) (yc (yr (yo z_v (T.M 49) (yeS T) (T.b 98) (ya yg yd))) (yc (yH (ypp (yob (ybP z_v) (yjF (yu yoB yyc (ybk yz yS (ybk ybc ycL z_v z_v) yg) yn)))) (yc (yH (ypp (yir (yu (yiP (yfe hr)) yoU z_v (yP (ya yn (ya (ybk yz yS (ybk ybc ycL z_v z_v) yg) yd)))) (yir (yu (yiP (yfe hr)) yoU (yo z_v (T.M 43) (ynq T) (T.b 92) (ya yg yd)) (ybJ (ybr yd))) (ygx (yu (yiP (yfe hr)) yoU (yo z_v (T.M 42) (ykg T) (T.b 91) (ya yg yd)) (ybJ (yfM ypR ywC (ybJ (ybr (ya yg yd))) yg))))))) (yf (yj yn)) yl) (yf (yj yn))) yl) (yc (yH (ydX (ybP (yQ (ylJ T) (T.G 27) (T.k 103) (T.b 103) (ya z_v (ya (ybk ybc ycL z_v z_v) (ya z_v yd)))))) (yf (yj yn)) yl) (yf (yH (yu yU ycq (ybk yz yS (ybk ybc ycL z_v z_v) yg) yn) (yf (yN (yvp plainAttrs_list PySem.F.slot_list_append PySem.F.type_list_append ydU ynO z_v (ya (ybk yz yS (ybk ybc ycL z_v z_v) yg) yd)))) yl))))))) (yf (yj yn)))))
theorem yii:‹(3+1,106,r106,3,ydb)›:=zfn (T.F 106 r106) (sc 106) fun cdv Ar outer sh H E hr=>have nd:=(sc 106 (r:=r106)).nd;(yc (yr (yv z_v (T.M 44) (yih T) (T.b 93))) (yc (yr (ybJ (ybr (ya (yP (ya yg (ya yg (ya (yP (ya yn yd)) (ya (ybJ (ybr yd)) (ya (ybJ (ybr (ya z_v yd))) (ya (ybJ (ybr (ya (ybk yz yS z_v yg) (ya yg (ya (ybk yz yS z_v yg) (ya yg (ya yg (ya yg (ya yg (ya yg yd)))))))))) yd))))))) yd)))) (yc (yH (yu (yiP (yfe hr)) yoU (ybJ (yCQ yvV yCa z_v yCP (yxa yg))) z_v) (yf (yj ywY)) yl) (yc (yr (ybk yz yS (ybk ybc ycL z_v (yzU ykj yqp yg)) yg)) (yc (yH (yu yU ycq z_v yn) (yf (yj (yhF (ydr yU ycq (ydT yI ycS (T.Z 5) (ya z_v yd)) yg) (yiq (ydr yU ycq (yo z_v (T.M 41) (ygd T) (T.b 90) (ya yg yd)) yn))))) yl) (yf (yj (yhF (ydr yU ycq (ydT yI ycS (T.Z 5) (ya z_v yd)) yg) (yhF (ydr yU ycq (yo z_v (T.M 41) (ygd T) (T.b 90) (ya yg yd)) yn) (yiq (ydr (yof (yfe hr)) ytE (ybJ (yrb [] (ydP z_v) (fun _ _ _ _ _ _=>(ybk yz yS (ybk yz yS z_v yg) yg)) (fun _ _ _ _ _ _=>(yu yU ycq (ybk yz yS z_v yg) yg)))) (ybJ (ybr (ya z_v yd))))))))))))))
theorem yBi:‹(97+1,107,r107,1,ytX)›:=zfn (T.F 107 r107) (sc 107) fun cdv Ar outer sh H E hr=>have nd:=(sc 107 (r:=r107)).nd;(yc (yr (ybH yba ybT yg (ybH ycE ydV (yQ (ybe T) (T.G 23) (T.k 99) (T.b 99) (ya z_v (ya yg yd))) yg))) (yc (ytU ["_law_script"] (ygp (T.Z 7) (ya z_v yd)) (fun _ _ _ _ _ _=>(yQ (yeh T) (T.G 24) (T.k 100) (T.b 100) (ya (ybH yba ybT (yQ (ybe T) (T.G 23) (T.k 99) (T.b 99) (ya z_v (ya yg yd))) (ybH ynv yth (ybH ynv yth yg z_v) z_v)) yd)))) (yc (yr (ybH ycE ydV (yQ (ybe T) (T.G 23) (T.k 99) (T.b 99) (ya z_v (ya yg yd))) z_v)) (yc (yr (ybH ycE ydV (ybH yfl ymv (yQ (ybe T) (T.G 23) (T.k 99) (T.b 99) (ya z_v (ya yg yd))) yg) z_v)) (yc (yr (ybH ycE ydV (yQ (ybe T) (T.G 23) (T.k 99) (T.b 99) (ya z_v (ya yg yd))) yg)) (yc (yr (ybH ycE ydV (ybH ynv yth (yQ (ybe T) (T.G 23) (T.k 99) (T.b 99) (ya z_v (ya yg yd))) yg) yg)) (yc (yr z_v) (yc (yH (yu yU ycq (ybH ycE ydV z_v yg) yg) (yf (yr (ybH ycE ydV (ybH yfl ymv z_v yg) z_v))) yl) (yc (yr (yQ (yeh T) (T.G 24) (T.k 100) (T.b 100) (ya (yQ (ybe T) (T.G 23) (T.k 99) (T.b 99) (ya z_v (ya yg yd))) yd))) (yc (yH (yu yU ycq (ybH ycE ydV (ybH yfl ymv z_v yg) yg) yg) (yf (yr (ybk ybc ycL z_v z_v))) yl) (yc (yr (yQ (yiA T) (T.G 26) (T.k 102) (T.b 102) (ya (ybH yfl ymv z_v yg) (ya (ybH ycE ydV (ybH yfl ymv (yQ (ybe T) (T.G 23) (T.k 99) (T.b 99) (ya z_v (ya yg yd))) yg) yg) yd)))) (yc (yr (yQ (yiz T) (T.G 25) (T.k 101) (T.b 101) (ya z_v (ya z_v (ya (ybH yba ybT yg (ydT yI ycS (T.Z 5) (ya z_v yd))) (ya (yhF (ydr yU ycq z_v z_v) (yiq (ydr yhm ywO yn z_v))) yd)))))) (yc (yr (ybJ (yfM yeB yhs (ybJ (yfM yeB yhs (ybJ (ybr (ya (ybH ybQ yeE yn (ymH ycF yiG (T.Z 10) (ya z_v yd))) (ya yn yd)))) z_v)) (ybJ (yrb [] (ydP (ybJ (ybr (ya (ybk yz yS z_v yg) yd)))) (fun _ _ _ _ _ _=>z_v) (fun _ _ _ _ _ _=>(yu yoB yyc z_v yn))))))) (yc (yr (ybJ (yfM yeB yhs (ybJ (yfM yeB yhs (ybJ (ybr (ya (yP (ya yg (ya yn yd))) (ya (yP (ya yg (ya yn (ya z_v yd)))) yd)))) (ybJ (yfd [] (ygp (T.Z 7) (ya (ydT yI ycS (T.Z 5) (ya z_v yd)) yd)) (fun _ _ _ _ _ _=>(yP (ya (ybH yba ybT yg z_v) (ya yn yd)))))))) (ybk yz yS z_v yg)))) (yc (yr (ybH ybQ yeE (ybH ybQ yeE (ybH ybQ yeE (ybH ybQ yeE yn (ymH ycF yiG (T.Z 10) (ya z_v yd))) yn) (ymH ycF yiG (T.Z 10) (ya z_v yd))) yn)) (yc (yr (yrd (T.J 12) (ygY T) (T.C 15) (T.b 87) (ya (ybJ (ycT yM ybF (T.Z 6) (ya z_v yd))) (ya (ybJ (ybr (ya (ybJ (ybr (ya (yvp PySem.F.plainAttrs_str PySem.F.slot_str_join PySem.F.type_str_join ywa yzn yn (ya z_v yd)) yd))) (ya (ybJ (ybr (ya z_v yd))) yd)))) yd)))) (yc (yr (ybH ycE ydV (yQ (ybe T) (T.G 23) (T.k 99) (T.b 99) (ya z_v (ya yg yd))) (ydT yI ycS (T.Z 5) (ya z_v yd)))) (yc (yr (yQ (ygK T) (T.G 29) (T.k 105) (T.b 105) (ya z_v (ya z_v (ya z_v (ya z_v (ya (yP (ya z_v (ya z_v yd))) yd))))))) (yc (yH (yu yU ycq z_v yn) (yf (yr (yQ (ygK T) (T.G 29) (T.k 105) (T.b 105) (ya z_v (ya z_v (ya z_v (ya (yzU ykj yqp yg) (ya (yP (ya z_v (ya z_v yd))) yd)))))))) yl) (yf (yj (yhF (ydr yU ycq z_v yn) (yiq (yQ (yii T) (T.G 30) (T.k 106) (T.b 106) (ya z_v (ya z_v (ya (yP (ya z_v (ya z_v yd))) yd)))))))))))))))))))))))))))
def yuI (K:PySem.W.Frag):Sp:=fun vs H Q _=>∃ (a:Addr) (ns:List Int),vs=[.ref a]/\SqL K H a (ns.map V.int)/\ns.length<=63/\∀ H',Q (.bl true) H'
theorem yBj {A:Nat->Addr}:∀ vs H Q E,yuI K vs H Q E->spE ⟨K,A⟩ 1 ytX vs H Q E:=by
 rintro _ H Q E ⟨a,ns,rfl,hS,hl,q⟩
 obtain ⟨h',e⟩:=yBh (h:=[]) ns hl
 exact ⟨⟨H,H,[],[]⟩,[.scr ns],.bl true,h',rfl,⟨Same.refl _,rfl,List.nodup_nil,fun n d a e=>by simp at e⟩,⟨.ref a,[],rfl,⟨a,rfl,hS⟩,rfl⟩,rfl,e,fun v W' _ _ rv=>by rw [show v=_ from rv];exact q _⟩
end
structure FB (K:PySem.W.Frag) (r:FR) (p:Addr×FuncData):Prop where
 F:Fun K r.1 r.2.1 r.2.2.1 p.1 p.2
 b:Binds K p.2 r.ps []
theorem FB.of {K:PySem.W.Frag}{x q:Str}{s:Stmt}{k:Nat}{n:List Str}{f:Addr}{d:FuncData}(F:Fun K x q s f d) (b:Binds K d (n.take k) []):FB K (fRw x q s k n) (f,d):=⟨F,b⟩
def All2 {α β:Type}(R:α->β->Prop):List α->List β->Prop
 | r::rs,p::ps=>R r p/\All2 R rs ps
 | [],[]=>True
 | _,_=>False
theorem All2.get {α β:Type}{R:α->β->Prop}{d:α}{e:β}(h:R d e):∀ {rs:List α}{ps:List β},All2 R rs ps->∀ n:Nat,R (rs.getD n d) (ps.getD n e)
 | [],[],_,_=>h
 | _::_,_::_,a,0=>a.1
 | _::_,_::_,a,n+1=>All2.get h a.2 n
abbrev Ns1 (K:PySem.W.Frag) (x:Str) (f:Addr):Prop:=nsIn K mainGlobals x=some (some (.ref f))
structure TyR (K:PySem.W.Frag) (C:Addr):Prop where
 ha:findIn K (.ref C) "__class__" = some (some (.builtin "object.__class__"))
 hm:mroIn K C (.type "object")=some true
 ty:typeIn K (.ref C)=some (.type "type")
structure NS2 (K:PySem.W.Frag) (c d:Addr):Prop where
 sb:subIn K (.ref c) (.ref d)=some false
 ne:(c == d)=false
noncomputable def NSx (K:PySem.W.Frag) (pre:List Addr):List Addr->Prop
 | []=>True
 | c::cs=>AllP (NS2 K c) pre/\AllP (NS2 K c) cs/\NSx K (c::pre) cs
theorem NSx.get {K:PySem.W.Frag}{A:Nat->Addr}:∀ {cs pre:List Nat},NSx K (pre.map A) (cs.map A)->∀ i∈cs,∀ j,j∈pre\/j∈cs->i≠j->NS2 K (A i) (A j)
 | c::cs,pre,a,i,hi,j,hj,ne=>by
  rcases mem_cons.mp hi with rfl|hi
  .rcases hj with hj|hj
   .exact a.1.mem _ (List.mem_map_of_mem hj)
   .rcases mem_cons.mp hj with rfl|hj
    .exact absurd rfl ne
    .exact a.2.1.mem _ (List.mem_map_of_mem hj)
  .refine NSx.get (pre:=c::pre) a.2.2 i hi j ?_ ne
   rcases hj with hj|hj
   .exact .inl (mem_cons_of_mem _ hj)
   .rcases mem_cons.mp hj with rfl|hj
    .exact .inl mem_cons_self
    .exact .inr hj
theorem yxZ {K:PySem.W.Frag}{A:Nat->Addr}(CL:∀ k,Cls K (A k)) (hn:PySem.W.specialIn K (.builtin "object.__class__") "__get__" = some (some (.builtin "getset_descriptor.__get__"))) (htk:PySem.W.takesIn K (.builtin "object.__class__")=some true) (cs:List Nat) (ty:AllP (TyR K) (cs.map A)) (sb:NSx K [] (cs.map A)) :
  ∀ r∈tbO cs,∀ (H:Hp) (a dx:Addr) (fs:List (Str×V)),H a=some (.ins (A r.1) dx fs)->IsI K H (.ref a) (.ref (A r.2.1)) r.2.2:=by
 intro r hr H a dx fs e
 unfold tbO at hr
 obtain ⟨i,hi,hr⟩:=List.mem_flatMap.mp hr
 obtain ⟨j,hj,rfl⟩:=List.mem_map.mp hr
 have t:=ty.mem _ (List.mem_map_of_mem hi)
 have t':=ty.mem _ (List.mem_map_of_mem hj)
 refine ⟨_,_,.ins e (CL i) t.ha hn htk t.hm,rfl,?_⟩
 by_cases q:i=j
 .subst q
  show _=some (i == i)
  rw [beq_self_eq_true]
  exact ysO
 .have n:=NSx.get (pre:=[]) sb i hi j (.inr hj) q
  show _=some (i == j)
  rw [beq_eq_false_iff_ne.mpr q]
  exact ysQ n.ne t'.hm t'.ty n.sb
theorem zip_get {K:PySem.W.Frag}{c0:Str}{C0:Addr}:∀ {cs:List Str}{as:List Addr},AllP (fun p:Str×Addr=>Ns1 K p.1 p.2) ((c0::cs).zip (C0::as))->cs.length=as.length->∀ n:Nat,Ns1 K ((c0::cs).getD n c0) ((C0::as).getD n C0):=fun {cs as} h hl n=>by
 have h0:=h.1
 have:∀ (cs:List Str) (as:List Addr),AllP (fun p:Str×Addr=>Ns1 K p.1 p.2) (cs.zip as)->cs.length=as.length->∀ n:Nat,Ns1 K (cs.getD n c0) (as.getD n C0):=by
  intro cs
  induction cs with
  | nil=>intro as _ e n;cases as with|nil=>exact h0|cons _ _=>cases e
  | cons c cs ih=>intro as h e n;cases as with|nil=>cases e|cons a as=>cases n with|zero=>exact h.1|succ n=>exact ih as h.2 (by simpa using e) n
 exact this _ _ h (by simpa using hl) n
theorem all_mk {l:PySem.W.OpenLaw}{w:World}{K:PySem.W.Frag}{h:Heap}{mg:Str->Option Value}{fa C0 C1 C2 C3 C4 C5 C6 C7 C8 C9 C10 C11 C12 C13 C14 C15 f0 f1 f2 f3 f4 f5 f6 f7 f8 f9 f10 f11 f12 f13 f14 f15 f16 f17 f18 f19 f20 f21 f22 f23 f24 f25 f26 f27 f28 f29 f30 f31 f32 f33 f34 f35 f36 f37 f38 f39 f40 f41 f42 f43 f44 f45 f46 f47 f48 f49 f50 f51 f52 f53 f54 f55 f56 f57 f58 f59 f60 f61 f62 f63 f64 f65 f66 f67 f68 f69 f70 f71 f72 f73 f74 f75 f76 f77 f78 f79 f80 f81 f82 f83 f84 f85 f86 f87 f88 f89 f90 f91 f92 f93 f94 f95 f96 f97 f98 f99 f100 f101 f102 f103 f104 f105 f106 f107 u10:Addr}{d0 d1 d2 d3 d4 d5 d6 d7 d8 d9 d10 d11 d12 d13 d14 d15 d16 d17 d18 d19 d20 d21 d22 d23 d24 d25 d26 d27 d28 d29 d30 d31 d32 d33 d34 d35 d36 d37 d38 d39 d40 d41 d42 d43 d44 d45 d46 d47 d48 d49 d50 d51 d52 d53 d54 d55 d56 d57 d58 d59 d60 d61 d62 d63 d64 d65 d66 d67 d68 d69 d70 d71 d72 d73 d74 d75 d76 d77 d78 d79 d80 d81 d82 d83 d84 d85 d86 d87 d88 d89 d90 d91 d92 d93 d94 d95 d96 d97 d98 d99 d100 d101 d102 d103 d104 d105 d106 d107:FuncData}{u1 u2 u3 u4 u5 u6 u7 u8 u9:Tok}(X:K.In h) (G:h.Ns mainGlobals mg) (hfa:mg "law" = some (.ref fa))
  {qd10:Option Addr}{qn10:Nat}{qs10:Array (Option Value)}{qt10_0 qt10_1 qt10_2 qt10_3 qt10_4:Tok}
  (hC:Ns1 K "Part" C0/\Ns1 K "Let" C1/\Ns1 K "Reckon" C2/\Ns1 K "Take" C3/\Ns1 K "Put" C4/\Ns1 K "If" C5/\Ns1 K "Either" C6/\Ns1 K "Try" C7/\Ns1 K "Throw" C8/\Ns1 K "Wait" C9/\Ns1 K "Reader" C10/\Ns1 K "Log" C11/\Ns1 K "Run" C12/\Ns1 K "Doer" C13/\Ns1 K "Hand" C14/\Ns1 K "Hall" C15/\True)
  (cl:AllP (Cls K) [C0,C1,C2,C3,C4,C5,C6,C7,C8,C9,C10,C11,C12,C13,C14,C15])
  (hK:Mk K C1 f45/\Mk K C2 f46/\Mk K C3 f47/\Mk K C4 f48/\Mk K C6 f49/\Mk K C7 f50/\Mk K C8 f51/\Mk K C10 f68/\Mk K C11 f0/\Mk K C12 f28/\Mk K C13 f18/\Mk K C14 f44/\Mk K C15 f87/\True)
  (mk0:makesIn K C0=true)
  (io0:findIn K (.ref C0) "__init__" = some (some (.builtin "object.__init__")))
  (kp0:keepIn K (.ref C0)=true)
  (mk9:makesIn K C9=true)
  (io9:findIn K (.ref C9) "__init__" = some (some (.builtin "object.__init__")))
  (kp9:keepIn K (.ref C9)=true)
  (hM:Meth K C1 "long" f52/\Meth K C2 "long" f53/\Meth K C3 "long" f54/\Meth K C4 "long" f55/\Meth K C6 "long" f59/\Meth K C7 "long" f60/\Meth K C8 "long" f56/\Meth K C9 "long" f57/\Meth K C11 "write" f1/\Meth K C11 "own" f2/\Meth K C11 "begin" f3/\Meth K C11 "settle" f4/\Meth K C11 "drop" f5/\Meth K C11 "see" f6/\Meth K C11 "saw" f7/\Meth K C11 "wrote" f8/\Meth K C12 "held_in" f19/\Meth K C12 "hold" f20/\Meth K C12 "box_at" f21/\Meth K C12 "do_put" f23/\Meth K C12 "do_reckon" f22/\Meth K C12 "sees_at" f24/\Meth K C12 "take_own" f25/\Meth K C12 "take_seen" f26/\Meth K C12 "row" f29/\Meth K C12 "is_stale" f30/\Meth K C12 "taker_layer" f31/\Meth K C12 "is_looked_over" f32/\Meth K C12 "see_next" f33/\Meth K C12 "go" f38/\Meth K C12 "go_plain" f34/\Meth K C12 "lead" f35/\Meth K C12 "throw" f37/\Meth K C12 "leave" f36/\Meth K C14 "state" f39/\Meth K C14 "new_run" f40/\Meth K C14 "begin_anew" f41/\Meth K C14 "fall_asleep" f42/\Meth K C14 "go_on" f43/\Meth K C15 "boxes" f88/\Meth K C15 "hand_at" f89/\Meth K C15 "state" f90/\Meth K C15 "slots" f91/\Meth K C15 "saw" f92/\Meth K C15 "journal" f93/\Meth K C15 "wake_stale" f94/\Meth K C15 "end_deed" f95/\Meth K C15 "lay_down" f96/\Meth K C15 "looked_over_told" f97/\Meth K C15 "turn" f98/\Meth K C10 "ahead" f70/\Meth K C10 "taken" f71/\Meth K C10 "pass_over" f72/\Meth K C10 "slot_taken" f73/\Meth K C10 "name_taken" f74/\Meth K C10 "number_taken" f75/\Meth K C10 "list_taken" f78/\Meth K C10 "side_taken" f79/\Meth K C10 "part_taken" f80/\Meth K C10 "either_taken" f81/\Meth K C10 "try_taken" f82/\Meth K C10 "plain_taken" f77/\Meth K C10 "reckon_taken" f76/\True)
  (cf13:ytV K C13 "__init__" f18)
  (hG:Ns1 K "reckon" f9/\Ns1 K "is_whole" f10/\Ns1 K "is_number" f11/\Ns1 K "is_made_of" f12/\Ns1 K "number_of" f13/\Ns1 K "is_word" f14/\Ns1 K "is_slot" f15/\Ns1 K "slot_index" f16/\Ns1 K "is_name" f17/\Ns1 K "takes" f27/\Ns1 K "list_long" f58/\Ns1 K "plain_rows" f61/\Ns1 K "first_row" f62/\Ns1 K "rows_between" f63/\Ns1 K "list_rows" f64/\Ns1 K "part_rows" f65/\Ns1 K "sided_rows" f66/\Ns1 K "rows_of" f67/\Ns1 K "words_of" f69/\Ns1 K "read" f83/\Ns1 K "check_boxes" f84/\Ns1 K "rows_of_deeds" f85/\Ns1 K "rows_of_hands" f86/\Ns1 K "_law_cell_at" f99/\Ns1 K "_law_number_by" f100/\Ns1 K "_law_end_of" f101/\Ns1 K "_law_middle" f102/\Ns1 K "_law_told" f103/\Ns1 K "_law_other_goes" f104/\Ns1 K "_law_goes" f105/\Ns1 K "_law_journal" f106/\Ns1 K "law" f107/\True)
  (hF:All2 (FB K) fT [(f0,d0),(f1,d1),(f2,d2),(f3,d3),(f4,d4),(f5,d5),(f6,d6),(f7,d7),(f8,d8),(f9,d9),(f10,d10),(f11,d11),(f12,d12),(f13,d13),(f14,d14),(f15,d15),(f16,d16),(f17,d17),(f18,d18),(f19,d19),(f20,d20),(f21,d21),(f22,d22),(f23,d23),(f24,d24),(f25,d25),(f26,d26),(f27,d27),(f28,d28),(f29,d29),(f30,d30),(f31,d31),(f32,d32),(f33,d33),(f34,d34),(f35,d35),(f36,d36),(f37,d37),(f38,d38),(f39,d39),(f40,d40),(f41,d41),(f42,d42),(f43,d43),(f44,d44),(f45,d45),(f46,d46),(f47,d47),(f48,d48),(f49,d49),(f50,d50),(f51,d51),(f52,d52),(f53,d53),(f54,d54),(f55,d55),(f56,d56),(f57,d57),(f58,d58),(f59,d59),(f60,d60),(f61,d61),(f62,d62),(f63,d63),(f64,d64),(f65,d65),(f66,d66),(f67,d67),(f68,d68),(f69,d69),(f70,d70),(f71,d71),(f72,d72),(f73,d73),(f74,d74),(f75,d75),(f76,d76),(f77,d77),(f78,d78),(f79,d79),(f80,d80),(f81,d81),(f82,d82),(f83,d83),(f84,d84),(f85,d85),(f86,d86),(f87,d87),(f88,d88),(f89,d89),(f90,d90),(f91,d91),(f92,d92),(f93,d93),(f94,d94),(f95,d95),(f96,d96),(f97,d97),(f98,d98),(f99,d99),(f100,d100),(f101,d101),(f102,d102),(f103,d103),(f104,d104),(f105,d105),(f106,d106),(f107,d107)])
  (hN:(NoAttr K C11 "stack"/\True)/\(NoAttr K C11 "last_seen"/\True)/\(NoAttr K C12 "held"/\True)/\(NoAttr K C12 "width"/\NoAttr K C14 "width"/\True)/\(NoAttr K C12 "log"/\True)/\(NoAttr K C12 "rows"/\True)/\(NoAttr K C10 "at"/\NoAttr K C12 "at"/\True)/\(NoAttr K C12 "seen_stamps"/\True)/\(NoAttr K C12 "sides"/\True)/\(NoAttr K C14 "deeds"/\True)/\(NoAttr K C14 "nth"/\True)/\(NoAttr K C14 "sleeps"/\True)/\(NoAttr K C14 "before"/\True)/\(NoAttr K C14 "run"/\True)/\(NoAttr K C15 "numbers"/\True)/\(NoAttr K C15 "marks"/\True)/\(NoAttr K C15 "crew"/\True)/\(NoAttr K C15 "entries"/\True)/\(NoAttr K C10 "words"/\True)/\(NoAttr K C1 "slot"/\NoAttr K C2 "slot"/\NoAttr K C3 "slot"/\NoAttr K C4 "slot"/\NoAttr K C7 "slot"/\NoAttr K C8 "slot"/\True)/\(NoAttr K C1 "number"/\True)/\(NoAttr K C3 "place"/\NoAttr K C4 "place"/\True)/\(NoAttr K C6 "parts"/\NoAttr K C7 "parts"/\True)/\(NoAttr K C6 "others"/\NoAttr K C7 "others"/\True)/\(NoAttr K C7 "name"/\NoAttr K C8 "name"/\True)/\(NoAttr K C2 "word"/\True)/\(NoAttr K C2 "one"/\True)/\(NoAttr K C2 "other"/\True)/\True)
  (ty:AllP (TyR K) [C1,C2,C3,C4,C5,C6,C7,C8,C9])
  (sb:NSx K [] [C1,C2,C3,C4,C5,C6,C7,C8,C9])
  (hn:PySem.W.specialIn K (.builtin "object.__class__") "__get__" = some (some (.builtin "getset_descriptor.__get__")))
  (htk:PySem.W.takesIn K (.builtin "object.__class__")=some true)
  (hZ:AllP (fun b=>nsIn K mainGlobals b=some none) zT)
  (q1:nsIn K mainGlobals "FIGURES" = some (some (.str "0123456789" u1)))
  (q2:nsIn K mainGlobals "LETTERS" = some (some (.str "abcdefghijklmnopqrstuvwxyz" u2)))
  (q3:nsIn K mainGlobals "MOST_AROUND" = some (some (.int 8 u3)))
  (q4:nsIn K mainGlobals "MOST_BOXES" = some (some (.int 16 u4)))
  (q5:nsIn K mainGlobals "MOST_DEEDS" = some (some (.int 6 u5)))
  (q6:nsIn K mainGlobals "MOST_HANDS" = some (some (.int 8 u6)))
  (q7:nsIn K mainGlobals "MOST_ROWS" = some (some (.int 80 u7)))
  (q8:nsIn K mainGlobals "SLOTS" = some (some (.str "abcdefgh" u8)))
  (q9:nsIn K mainGlobals "WIDE" = some (some (.int 18446744073709551616 u9)))
  (q10:nsIn K mainGlobals "WORDS" = some (some (.ref u10)))
  (qk10:K.lookup u10=some ⟨.type "tuple",qd10,.seq #[.str "plus" qt10_0,.str "minus" qt10_1,.str "times" qt10_2,.str "less" qt10_3,.str "same" qt10_4] qn10,qs10⟩) :
  ∃ fd:FuncData,(∀ (s:Shared) (v:Value),BindsTo s fd ⟨[v],[]⟩ [("_law_script",v)])/\∀ base:Heap,K.In base->base.Ns mainGlobals mg->FnOk l.prog w K mg base CX0 98 fa fd ["_law_script"] (yuI K):=by
 let t:Ads:=⟨fun k=>[C0,C1,C2,C3,C4,C5,C6,C7,C8,C9,C10,C11,C12,C13,C14,C15].getD k C0,fun n=>[(f0,d0),(f1,d1),(f2,d2),(f3,d3),(f4,d4),(f5,d5),(f6,d6),(f7,d7),(f8,d8),(f9,d9),(f10,d10),(f11,d11),(f12,d12),(f13,d13),(f14,d14),(f15,d15),(f16,d16),(f17,d17),(f18,d18),(f19,d19),(f20,d20),(f21,d21),(f22,d22),(f23,d23),(f24,d24),(f25,d25),(f26,d26),(f27,d27),(f28,d28),(f29,d29),(f30,d30),(f31,d31),(f32,d32),(f33,d33),(f34,d34),(f35,d35),(f36,d36),(f37,d37),(f38,d38),(f39,d39),(f40,d40),(f41,d41),(f42,d42),(f43,d43),(f44,d44),(f45,d45),(f46,d46),(f47,d47),(f48,d48),(f49,d49),(f50,d50),(f51,d51),(f52,d52),(f53,d53),(f54,d54),(f55,d55),(f56,d56),(f57,d57),(f58,d58),(f59,d59),(f60,d60),(f61,d61),(f62,d62),(f63,d63),(f64,d64),(f65,d65),(f66,d66),(f67,d67),(f68,d68),(f69,d69),(f70,d70),(f71,d71),(f72,d72),(f73,d73),(f74,d74),(f75,d75),(f76,d76),(f77,d77),(f78,d78),(f79,d79),(f80,d80),(f81,d81),(f82,d82),(f83,d83),(f84,d84),(f85,d85),(f86,d86),(f87,d87),(f88,d88),(f89,d89),(f90,d90),(f91,d91),(f92,d92),(f93,d93),(f94,d94),(f95,d95),(f96,d96),(f97,d97),(f98,d98),(f99,d99),(f100,d100),(f101,d101),(f102,d102),(f103,d103),(f104,d104),(f105,d105),(f106,d106),(f107,d107)].getD n (f0,d0),u1,u2,u3,u4,u5,u6,u7,u8,u9,u10⟩
 have CL:∀ k,Cls K (t.A k):=fun k=>AllP.get cl.1 cl k
 have FF:∀ n,FB K (fR n) (t.fl n):=fun n=>All2.get hF.1 hF n
 have hC:AllP (fun p:Str×Addr=>Ns1 K p.1 p.2) (cT.zip [C0,C1,C2,C3,C4,C5,C6,C7,C8,C9,C10,C11,C12,C13,C14,C15]):=hC
 have hG:AllP (fun r:Str×Nat=>Ns1 K r.1 (t.a r.2)) gT:=hG
 have hK:AllP (fun r:Nat×Nat=>Mk K (t.A r.1) (t.a r.2)) kT:=hK
 have hM:AllP (fun r:Nat×Str×Nat=>Meth K (t.A r.1) r.2.1 (t.a r.2.2)) mT:=hM
 have hN:AllP (fun r:Str×List Nat=>AllP (fun k=>NoAttr K (t.A k) r.1) r.2) nT:=hN
 have T:Txt K mg t:=⟨fun n=>(FF n).F,fun n=>(FF n).b,fun n=>mg_of X G (AllP.get (p:=fun r:Str×Nat=>Ns1 K r.1 (t.a r.2)) hG.1 hG n),fun n=>mg_of X G (zip_get hC rfl n),fun n=>AllP.get (p:=fun r:Nat×Nat=>Mk K (t.A r.1) (t.a r.2)) hK.1 hK n,fun n=>AllP.get (p:=fun r:Nat×Str×Nat=>Meth K (t.A r.1) r.2.1 (t.a r.2.2)) hM.1 hM n,mk0,io0,kp0,mk9,io9,kp9,cf13,CL,fun n k hk=>⟨CL k,(AllP.get (p:=fun r:Str×List Nat=>AllP (fun k=>NoAttr K (t.A k) r.1) r.2) hN.1 hN n).mem k hk⟩,yxZ CL hn htk [1,2,3,4,5,6,7,8,9] ty sb,fun n=>PySem.W.mg_none_of X G (AllP.get (p:=fun b=>nsIn K mainGlobals b=some none) hZ.1 hZ n),mg_of X G q1,mg_of X G q2,mg_of X G q3,mg_of X G q4,mg_of X G q5,mg_of X G q6,mg_of X G q7,mg_of X G q8,mg_of X G q9,mg_of X G q10,⟨_,_,_,qk10,rfl,rfl,(by show 5<=sizeLine;decide),.cons ⟨_,rfl⟩ (.cons ⟨_,rfl⟩ (.cons ⟨_,rfl⟩ (.cons ⟨_,rfl⟩ (.cons ⟨_,rfl⟩ (.nil)))))⟩⟩
 have e:=hfa.symm.trans (T.G 31)
 have e:fa=f107:=by injection e with e;injection e
 subst e
 refine ⟨d107,?_,fun base _ _=>(yBi T).imp (yBj T)⟩
 obtain ⟨_,_,_,_,_,_,_,_,_,e,_⟩:=(FF 107).F.ex
 have e:d107=_:=e
 subst e
 exact fun s v=>.of_eq rfl
theorem walk {l:PySem.W.OpenLaw}{q:Program}{loose:List Str}{XP:(Str->Option Value)->Heap->Prop}{YP:World->Heap->Prop}{d:DefRec}{K:Params->PySem.W.Frag}(hn:l.most=some 63) (hdf:d.params.defaults=[])
  (hY:∀ (w:World) (h:Heap),YP w h->(K w.params).In h)
  (F:∀ (w:World) (mg:Str->Option Value) (fa:Addr) (h:Heap),(K w.params).In h->h.Ns mainGlobals mg->mg d.name=some (.ref fa) ->
   ∃ fd:FuncData,(∀ (s:Shared) (u:Value),BindsTo s fd ⟨[u],[]⟩ [("_law_script",u)])/\∀ base:Heap,(K w.params).In base->base.Ns mainGlobals mg->FnOk l.prog w (K w.params) mg base CX0 98 fa fd ["_law_script"] (yuI (K w.params))) :
  PySem.W.WalkO q loose XP YP l.row.toRowW d [] (fun f vs=>PySem.call f vs) :=
 L2.walk_of (n:=63) (k:=98) (x:="_law_script") (CX:=fun _=>CX0) (sp:=fun w=>yuI (K w.params)) hn (by decide) hdf ⟨rfl,by decide,by decide⟩ hY F (fun _ _ a ns hl _ hS=>⟨a,ns,rfl,hS,hl,fun _=>rfl⟩) fun _ _ _ _ _ z=>z
end My
local macro_rules | `(tactic| walk_at "ka")=>`(tactic| first|exact True.intro|k_is|decide|((first|refine And.intro ?_ ?_|refine' L2.Cls.mk ?_ ?_ ?_ ?_|refine' My.TyR.mk ?_ ?_ ?_|refine' My.NS2.mk ?_ ?_)<;>walk_at "ka"))
local macro_rules | `(tactic| walk_at "kr")=>`(tactic| first|exact True.intro|(refine And.intro ?_ ?_<;>walk_at "kr")|walk_at "kx")
local macro_rules | `(tactic| walk_at "kx")=>`(tactic| first|(refine' L2.Meth.mk ?a ?b ?c;(case a=>k_is);(case b=>k_is);(case c=>k_is))|(refine' L2.Mk.mk ?a ?b ?c ?d;(case a=>k_is);(case b=>k_is);(case c=>k_is);(case d=>k_is))|(unfold L2.NoAttr;k_is)|(unfold My.Ns1;k_is)|k_is|(dsimp only;k_is))
local macro_rules | `(tactic| walk_at "kf")=>`(tactic| first|exact True.intro|(refine' And.intro (My.FB.of (L2.fun_mk ?a ?b ?c) ?d) ?e;(case a=>k_is);(case b=>k_is);(case c=>k_is);(case d=>first|exact L2.Binds.all (My.ml1 fun _=>rfl)|exact L2.Binds.all (My.ml2 fun _ _=>rfl)|exact L2.Binds.all (My.ml3 fun _ _ _=>rfl)|exact L2.Binds.all (My.ml4 fun _ _ _ _=>rfl)|exact L2.Binds.all (My.ml5 fun _ _ _ _ _=>rfl));(case e=>walk_at "kf")))
local macro_rules | `(tactic| walk_at "k4")=>`(tactic| (refine' ⟨?a,?b,?c,?d⟩;(case a=>k_is);(case b=>k_is);(case c=>k_is);(case d=>k_is)))
open PySem PySem.W PyProof.Rows
set_option maxRecDepth 100000 in
set_option maxHeartbeats 0 in
theorem PySem.Challenge.cw_retryhall_k23_stale_begins_anew_holds : PySem.Challenge.rw_retryhall_k23_stale_begins_anew.Holds := by
 refine hD_ ?_
 k_fill
 refine My.walk (l:=PySem.Challenge.rw_retryhall_k23_stale_begins_anew) rfl rfl (fun w h Y=>PySem.W.kIn_of Y) ?F
 case F =>
  intro w mg fa h KX G hmg
  refine' My.all_mk KX G hmg ?hC ?cl ?hK ?mk0 ?io0 ?kp0 ?mk9 ?io9 ?kp9 ?hM ?cf13 ?hG ?hF ?hN ?ty ?sb ?hn ?htk ?hZ ?q1 ?q2 ?q3 ?q4 ?q5 ?q6 ?q7 ?q8 ?q9 ?q10 ?qk10
  (case hC=>walk_at "kr")
  (case cl=>walk_at "ka")
  (case hK=>walk_at "kr")
  (case mk0=>k_is)
  (case io0=>k_is)
  (case kp0=>k_is)
  (case mk9=>k_is)
  (case io9=>k_is)
  (case kp9=>k_is)
  (case hM=>walk_at "kr")
  (case cf13=>walk_at "k4")
  (case hG=>walk_at "kr")
  (case hF=>walk_at "kf")
  (case hN=>walk_at "kr")
  (case ty=>walk_at "ka")
  (case sb=>walk_at "ka")
  (case hn=>k_is)
  (case htk=>k_is)
  (case hZ=>walk_at "kr")
  (case q1=>k_is)
  (case q2=>k_is)
  (case q3=>k_is)
  (case q4=>k_is)
  (case q5=>k_is)
  (case q6=>k_is)
  (case q7=>k_is)
  (case q8=>k_is)
  (case q9=>k_is)
  (case q10=>k_is)
  (case qk10=>k_is)
