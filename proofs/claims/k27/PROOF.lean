import PyProof.Rows.All
import Wide.All
import OpenK.KLine
import KE.KIntText
import KE.KIsAll
import KE.KItemsList
import KE.KRevIter
import KE.KSortTup
import KE.LcSums
import KE.KPairComp
import Wide.FinOn
import Lean
import PyProof.EqAt
import PyProof.EqKinds
import PyProof.TupleCall
import PySem.Challenge.RW_retryhall_k27_slots_and_saw_on_the_way
set_option Elab.async false
set_option linter.all false
set_option maxRecDepth 100000
set_option maxHeartbeats 4000000
namespace My
open PySem PySem.W
def lvO:Obj->Option Obj
 |⟨_,_,.freed,_⟩=>none
 |o=>some o
abbrev PkO:=List (Nat×Option Obj)
noncomputable def pkO (l:List Obj):Nat->List Nat->PkO:=l.rec (motive:=fun _=>Nat->List Nat->PkO) (fun _ _=>[]) fun o _ f i t=>match t with|[]=>[]|a::t=>bif Nat.beq a i then (a,lvO o)::f (i+1) t else f (i+1) (a::t)
theorem pk_m:∀ {l:List Obj}{i t},∀ p∈pkO l i t,i<=p.1/\p.2=(l[p.1-i]?).bind lvO
 |[],_,_,_,h=>nomatch h
 |_::_,_,[],_,h=>nomatch h
 |o::l,i,a::t,p,h=>by
  have h:p∈bif Nat.beq a i then (a,lvO o)::pkO l (i+1) t else pkO l (i+1) (a::t):=h
  have H:∀ t,p∈pkO l (i+1) t->i<=p.1/\p.2=((o::l)[p.1-i]?).bind lvO:=fun t h=>by
   have u:=pk_m p h
   rw [show p.1-i=p.1-(i+1)+1 by omega]
   exact ⟨by omega,u.2⟩
  cases e:Nat.beq a i<;>rw [e] at h
  .exact H _ h
  .rcases List.mem_cons.mp h with rfl|h
   .cases Nat.eq_of_beq_eq_true e;simp
   .exact H _ h
noncomputable def kHk (K:Params->Frag) (t:List Nat):Hook:=⟨PkO,fun s=>pkO s.heap.objs.toList 0 t,fun w=>(K w.params).map fun p=>(p.1,some p.2),InK K,fun w s x a o e=>by
 obtain ⟨_,_,e,_⟩:=List.lookup_eq_some_iff.mp e
 have m:some o=_:=(pk_m (a,some o) (x ▸ List.mem_map.mpr ⟨(a,o),by simp [e],rfl⟩)).2
 rw [m]
 simp
 unfold Heap.get?
 cases s.heap.objs[a]? with
 |none=>rfl
 |some o=>obtain ⟨_,_,d,_⟩:=o;cases d<;>rfl,InK.keeps⟩
end My
local macro_rules|`(tactic|o_head $H)=>do
 let r:=H.raw[1]
 if r[0].getId.eraseMacroScopes != `kHook then Lean.Macro.throwUnsupported
 `(tactic|o_head (My.kHk $(⟨r[1][0]⟩) $(⟨r[1][1]⟩)))
namespace PySem.W.Fast
local macro_rules|`(command|universe $xs*)=>do return Lean.mkNullNode (<-(xs.flatMap fun x=>#[`hD_++x.getId,`PySem.Challenge++x.getId]).append ((Array.range 1421).map fun i=>`hD_++.mkSimple ("o_"++toString i)) |>.mapM fun n=>`(command|theorem $(Lean.mkIdent (.mkSimple ("tw"++toString n.hash))) : True:=True.intro))
universe heap_39 heap_46 heap_1421 tree_47 tree_70 tree_85 tree_100 tree_115 tree_130 tree_216 tree_280 tree_359 tree_368 tree_458 tree_516 tree_551 tree_587 tree_623 tree_659 tree_695 tree_731 tree_767 tree_803 tree_839 tree_889 tree_933 tree_1054 tree_1139 tree_1159 tree_1278 tree_1361 tree_1420 view_39 sts_49 sts_71 sts_86 sts_101 sts_116 sts_131 sts_217 sts_281 sts_360 sts_369 sts_459 sts_517 sts_552 sts_588 sts_624 sts_660 sts_696 sts_732 sts_768 sts_804 sts_840 sts_890 sts_934 sts_1143 sts_1160 sts_1365 env_41 pw_retryhall_k27_slots_and_saw_on_the_way rw_retryhall_k27_slots_and_saw_on_the_way
end PySem.W.Fast
set_option maxHeartbeats 0 in
open_top hD_ for PySem.Challenge.rw_retryhall_k27_slots_and_saw_on_the_way
open PySem.W (fnOf findIn keepIn subIn codeIn nsIn isFn mg_of plainGet hasDictIn makesIn instObj typeIn emptyDict mroIn kia_one)
local macro_rules | `(tactic| rfl')=>`(tactic| decide +kernel)
open List (mem_cons_self mem_cons_of_mem mem_append_left getElem?_set_self getElem?_set_ne mem_append_right length_cons map_cons length_map append_nil of_mem_zip replicate length length_take getElem?_append_right getElem?_replicate getElem?_append_left getElem?_map mem_of_getElem? length_append map_nil length_drop size_toArray length_set any_cons getElem_of_mem idxOf map_append lookup_cons prefix_refl getElem?_eq_none length_zip find?_cons zip_cons_cons getD map_map toArray getElem_mem mem_cons not_mem_nil getD_eq_getElem?_getD map_set append_assoc)
open Nat (lt_of_lt_of_le lt_irrefl ne_of_lt le_of_lt le_of_eq zero_le sub_self)
open Option (map_some isSome_map bind_some)
open Bool (and_eq_true)
open Int (zero_add)
open PySem.F (slot_dict_get plainAttrs_dict plainAttrs_list)
noncomputable section
namespace L2
open PySem PySem.Spec PyProof.Rows
abbrev Key:=Sum Int Str
def ykC:Key->Value->Bool
 | .inl k,v=>Value.isInt k v
 | .inr x,v=>Value.isStrOf x v
def yDt (w:World):Key->Int
 | .inl k=>hashInt k
 | .inr x=>hashStr w x
theorem yV:∀ {k:Key}{v:Value},ykC k v=true->(∃ i t,k=Sum.inl i/\v=Value.int i t)\/(∃ x t,k=Sum.inr x/\v=Value.str x t)
 | .inl i,v,h=>by
  obtain ⟨t,e⟩:=Value.isInt_shape (k:=i) (v:=v) h
  exact .inl ⟨i,t,rfl,e⟩
 | .inr x,v,h=>by
  obtain ⟨t,e⟩:=Value.isStrOf_shape (x:=x) (v:=v) h
  exact .inr ⟨x,t,rfl,e⟩
theorem ynW (i:Int) (t:Tok):ykC (.inl i) (.int i t)=true:=by simp [ykC,Value.isInt]
theorem ynX (x:Str) (t:Tok):ykC (.inr x) (.str x t)=true:=by simp [ykC,Value.isStrOf]
theorem yxl (a b:Int):decide ((Sum.inl a:Key)=Sum.inl b)=(a == b):=by
 by_cases e:a=b
 .subst e;simp
 .have h:¬ (Sum.inl a:Key)=Sum.inl b:=fun q=>e (Sum.inl.inj q)
  rw [decide_eq_false h]
  exact (beq_eq_false_iff_ne.mpr e).symm
theorem yxm (a b:Str):decide ((Sum.inr a:Key)=Sum.inr b)=decide (a=b):=by
 by_cases e:a=b
 .subst e;simp
 .have h:¬ (Sum.inr a:Key)=Sum.inr b:=fun q=>e (Sum.inr.inj q)
  rw [decide_eq_false h,decide_eq_false e]
theorem yxn (a:Int) (b:Str):decide ((Sum.inl a:Key)=Sum.inr b)=false:=decide_eq_false (fun q=>nomatch q)
theorem yxo (a:Str) (b:Int):decide ((Sum.inr a:Key)=Sum.inl b)=false:=decide_eq_false (fun q=>nomatch q)
noncomputable def ybX (prog:Program) (w:World):PySem.KeyKind prog w Key where
 is:=ykC
 hash:=yDt w
 inj:=fun v a b ha hb=>by
  rcases yV ha with ⟨i,t,rfl,rfl⟩|⟨x,t,rfl,rfl⟩
  .rcases yV hb with ⟨j,u,rfl,e⟩|⟨y,u,rfl,e⟩
   .injection e with e1 _;rw [e1]
   .exact nomatch e
  .rcases yV hb with ⟨j,u,rfl,e⟩|⟨y,u,rfl,e⟩
   .exact nomatch e
   .injection e with e1 _;rw [e1]
 byValue:=fun k v h=>by
  rcases yV h with ⟨i,t,rfl,rfl⟩|⟨x,t,rfl,rfl⟩<;>rfl
 pyHash:=fun hv h=>by
  rcases yV hv with ⟨i,t,rfl,rfl⟩|⟨x,t,rfl,rfl⟩
  .exact wpAny_pyHash_int h
  .exact wpAny_pyHash_str h
 eqBool:=fun hu hv h=>by
  rcases yV hu with ⟨i,t,rfl,rfl⟩|⟨x,t,rfl,rfl⟩
  .rcases yV hv with ⟨j,u,rfl,rfl⟩|⟨y,u,rfl,rfl⟩
   .rw [yxl] at h;exact wpAny_eqBool_int h
   .rw [yxn] at h;exact SeqAt.EqAt.int_str i t y u _ _ _ _ h
  .rcases yV hv with ⟨j,u,rfl,rfl⟩|⟨y,u,rfl,rfl⟩
   .rw [yxo] at h;exact SeqAt.EqAt.str_int x t j u _ _ _ _ h
   .rw [yxm] at h;exact wpAny_eqBool_str h
 «strs»:=fun k x t v h=>by
  rcases yV h with ⟨i,u,rfl,e⟩|⟨y,u,rfl,e⟩
  .exact nomatch e
  .injection e with e1 _
   subst e1
   cases v<;>rfl
theorem ykD (prog:Program) (w:World) (i:Int) (t:Tok):(ybX prog w).is (.inl i) (.int i t)=true:=ynW i t
theorem ykE (prog:Program) (w:World) (x:Str) (t:Tok):(ybX prog w).is (.inr x) (.str x t)=true:=ynX x t
end L2
namespace L2
open PySem PySem.Spec PyProof.Rows
inductive V where
 | non|bl (b:Bool)|int (i:Int)|str (x:Str)|byt (b:Array UInt8)|flt (b:UInt64)|ref (a:Addr)|ty (n:String)
 deriving DecidableEq
noncomputable def RelV:V->Value->Prop
 | .non,u=>u=Value.none
 | .bl b,u=>u=Value.bool b
 | .int i,u=>∃ t,u=Value.int i t
 | .str x,u=>∃ t,u=Value.str x t
 | .byt b,u=>∃ t,u=Value.bytes b t
 | .flt b,u=>∃ t,u=Value.float b t
 | .ref a,u=>u=Value.ref a
 | .ty n,u=>u=Value.type n
abbrev Vals:List V->List Value->Prop:=Paired RelV
theorem Vals.length {xs:List V}{us:List Value}(r:Vals xs us):xs.length=us.length:=Paired.length r
theorem Vals.get:∀ {xs:List V}{us:List Value}{i:Nat}{x:V},Vals xs us->xs[i]?=some x->∃ u,us[i]?=some u/\RelV x u
 | _,_,_,_,.nil,e=>by simp at e
 | _,_,0,_,.cons r _,e=>by simp at e;subst e;exact ⟨_,rfl,r⟩
 | _,_,i+1,x,.cons _ t,e=>by
  obtain ⟨u,h1,h2⟩:=Vals.get (i:=i) (x:=x) t (by simpa using e)
  exact ⟨u,by simpa using h1,h2⟩
theorem Vals.set {x:V}{u:Value}(r:RelV x u):∀ {xs:List V}{us:List Value}(i:Nat),Vals xs us->Vals (xs.set i x) (us.set i u)
 | _,_,_,.nil=>.nil
 | _,_,0,.cons _ t=>.cons r t
 | _,_,i+1,.cons q t=>.cons q (Vals.set r i t)
theorem Vals.append:∀ {xs ys:List V}{us ws:List Value},Vals xs us->Vals ys ws->Vals (xs++ys) (us++ws)
 | _,_,_,_,.nil,s=>s
 | _,_,_,_,.cons r t,s=>.cons r (Vals.append t s)
theorem Vals.take:∀ {xs:List V}{us:List Value}(n:Nat),Vals xs us->Vals (xs.take n) (us.take n)
 | _,_,0,_=>.nil
 | _,_,_+1,.nil=>.nil
 | _,_,n+1,.cons r t=>.cons r (Vals.take n t)
theorem Vals.drop:∀ {xs:List V}{us:List Value}(n:Nat),Vals xs us->Vals (xs.drop n) (us.drop n)
 | _,_,0,r=>r
 | _,_,_+1,.nil=>.nil
 | _,_,n+1,.cons _ t=>Vals.drop n t
def RelO:Option V->Option Value->Prop
 | some v,some u=>RelV v u
 | none,none=>True
 | _,_=>False
def KV {κ:Type}:List (κ×V)->List (κ×Value)->Prop:=Paired fun (p:κ×V) (q:κ×Value)=>p.1=q.1/\RelV p.2 q.2
def kV:Key->V
 | .inl i=>.int i
 | .inr x=>.str x
inductive HO where
 | lst (xs:List V)
 | tup (xs:List V)
 | dK (kvs:List (Key×V))|dT (kvs:List (List Key×V))
 | set (S:Int->Bool) (n:Nat)
 | ins (C dx:Addr) (fs:List (Str×V))
 | own (x:Addr)
 | xd (fs:List (Str×V))
 | met (f x:Addr)
 | rng (lo hi:Int)
 | frz (o:Obj) (u:HO)
 | tbl (ps:Array Value)
 | ext (φ:Heap->Prop)
abbrev Hp:=Addr->Option HO
def upd (H:Hp) (a:Addr) (o:HO):Hp:=fun b=>if b=a then some o else H b
theorem yu {H:Hp}{a:Addr}{o:HO}:upd H a o a=some o:=by unfold upd;rw [if_pos rfl]
theorem yy {H:Hp}{a b:Addr}{o:HO}(h:b≠a):upd H a o b=H b:=by unfold upd;rw [if_neg h]
theorem yAz {H:Hp}{a b:Addr}{o u:HO}(h:H a=some o) (h':H b=some u) (d:o≠u):a≠b:=by
 intro e;subst e;rw [h] at h';exact d (Option.some.inj h')
theorem yZ {H:Hp}{a b:Addr}{o:HO}(h:H a=some o) (h':H b=none):a≠b:=by
 intro e;subst e;rw [h] at h';cases h'
section
variable (P:Program) (w:World)
def ObjOk (H:Hp) (h:Heap) (a:Addr):HO->Prop
 | .lst xs=>xs.length<=sizeLine/\∃ (its:List Value) (n:Nat),Vals xs its/\h.get? a=some { cls:=.type "list",data:=.seq its.toArray n }
 | .tup xs=>xs.length<=sizeLine/\∃ its:List Value,Vals xs its/\IsTup h a its.toArray
 | .dK kvs=>kvs.length<=sizeLine/\(a == sysModules)=false/\∃ vs,KV kvs vs/\h.DictOf (ybX P w) a vs
 | .dT kvs=>kvs.length<=sizeLine/\(a == sysModules)=false/\∃ xs:List (List Key×Addr×Value),
   Paired (fun (p:List Key×V) (q:List Key×Addr×Value)=>p.1=q.1/\H q.2.1=some (.tup (p.1.map kV))/\RelV p.2 q.2.2) kvs xs /\
   ∃ o es ep,h.get? a=some o/\o.ExactDict/\o.data=.dict es ep/\es.toList=xs.map (entryOfKey (tupleKind (ybX P w)))/\(xs.map (·.1)).Nodup
 | .set S n=>h.SetOf (intKind P w) a S n
 | .ins C dx fs=>H dx=some (.own a)/\fs.length<=1000/\dx≠a/\h.get? a=some (instObj C dx) /\
   ∃ mA,h.Ns1 dx mA/\(∀ f,RelO (fs.lookup f) (mA f))/\PySem.Within mA (fs.map (·.1))
 | .own _=>∃ o,h.get? a=some o
 | .xd fs=>∃ mA,h.Ns1 a mA/\∀ f,RelO (fs.lookup f) (mA f)
 | .rng lo hi=>∃ t u v,h.get? a=some { cls:=.type "range",data:=.fields #[.int lo t,.int hi u,.int 1 v] }
 | .frz o u=>h.get? a=some o/\ObjOk H h a u
 | .tbl ps=>h.get? a=some { cls:=.none,data:=.fields ps }
 | .met f x=>h.get? a=some (PySem.W.methodObj (.ref f) (.ref x))
 | .ext φ=>φ h/\(∃ o,h.get? a=some o)/\∀ h1 h2:Heap,φ h1->(∀ o,h1.get? a=some o->h2.get? a=some o)->φ h2
def HOk (H:Hp) (h:Heap):Prop:=∀ a o,H a=some o->ObjOk P w H h a o
end
section
variable {P:Program}{w:World}{H H':Hp}{h h':Heap}{a:Addr}{o:HO}
theorem ObjOk.lt (x:ObjOk P w H h a o):a<h.objs.size:=by
 cases o with
 | lst xs=>obtain ⟨_,_,_,_,e⟩:=x;exact Heap.lt_size e
 | tup xs=>obtain ⟨_,_,_,p⟩:=x;exact p.lt
 | dK kvs=>obtain ⟨_,_,_,_,o,_,_,e,_⟩:=x;exact Heap.lt_size e
 | dT kvs=>obtain ⟨_,_,_,_,o,_,_,e,_⟩:=x;exact Heap.lt_size e
 | set S n=>obtain ⟨o,_,_,_,e,_⟩:=x;exact Heap.lt_size e
 | ins C dx fs=>obtain ⟨_,_,_,e,_⟩:=x;exact Heap.lt_size e
 | own y=>obtain ⟨_,e⟩:=x;exact Heap.lt_size e
 | xd fs=>obtain ⟨_,⟨_,_,_,e,_⟩,_⟩:=x;exact Heap.lt_size e
 | rng lo hi=>obtain ⟨_,_,_,e⟩:=x;exact Heap.lt_size e
 | frz ob u=>obtain ⟨e,_⟩:=x;exact Heap.lt_size e
 | tbl ps=>exact Heap.lt_size (show h.get? a=some _ from x)
 | met f y=>exact Heap.lt_size (show h.get? a=some _ from x)
 | ext φ=>obtain ⟨_,⟨_,e⟩,_⟩:=x;exact Heap.lt_size e
theorem Paired.mapP {α β:Type}{F G:α->β->Prop}:∀ {l₁:List α}{l₂:List β},Paired F l₁ l₂->(∀ a b,F a b->G a b)->Paired G l₁ l₂
 | _,_,.nil,_=>.nil
 | _,_,.cons r t,f=>.cons (f _ _ r) (Paired.mapP t f)
theorem ObjOk.stay (x:ObjOk P w H h a o) (k:∀ b u,(b=a\/H b=some (.own a))->h.get? b=some u->h'.get? b=some u)
  (ho:∀ b,H b=some (.own a)->H' b=some (.own a)) (ht:∀ b xs,H b=some (.tup xs)->H' b=some (.tup xs)):ObjOk P w H' h' a o:=by
 induction o with
 | lst xs=>obtain ⟨z,its,n,r,e⟩:=x;exact ⟨z,its,n,r,k _ _ (.inl rfl) e⟩
 | tup xs=>obtain ⟨z,its,r,ob,e,c⟩:=x;exact ⟨z,its,r,ob,k _ _ (.inl rfl) e,c⟩
 | dK kvs=>obtain ⟨z,y,vs,r,ob,es,ep,e,c⟩:=x;exact ⟨z,y,vs,r,ob,es,ep,k _ _ (.inl rfl) e,c⟩
 | dT kvs =>
  obtain ⟨z,y,xs,r,ob,es,ep,e,c⟩:=x
  exact ⟨z,y,xs,Paired.mapP r fun p q z=>⟨z.1,ht _ _ z.2.1,z.2.2⟩,ob,es,ep,k _ _ (.inl rfl) e,c⟩
 | set S n=>obtain ⟨ob,es,ep,t,e,c⟩:=x;exact ⟨ob,es,ep,t,k _ _ (.inl rfl) e,c⟩
 | ins C dx fs =>
  obtain ⟨d,z,ne,e,mA,⟨od,es,ep,e2,c⟩,r⟩:=x
  exact ⟨ho _ d,z,ne,k _ _ (.inl rfl) e,mA,⟨od,es,ep,k _ _ (.inr d) e2,c⟩,r⟩
 | own y=>obtain ⟨ob,e⟩:=x;exact ⟨ob,k _ _ (.inl rfl) e⟩
 | xd fs=>obtain ⟨mA,⟨od,es,ep,e,c⟩,r⟩:=x;exact ⟨mA,⟨od,es,ep,k _ _ (.inl rfl) e,c⟩,r⟩
 | rng lo hi=>obtain ⟨t,u,v,e⟩:=x;exact ⟨t,u,v,k _ _ (.inl rfl) e⟩
 | frz ob u ih=>obtain ⟨e,q⟩:=x;exact ⟨k _ _ (.inl rfl) e,ih q⟩
 | tbl ps =>
  have e:h.get? a=some { cls:=.none,data:=.fields ps }:=x
  show h'.get? a=some { cls:=.none,data:=.fields ps }
  exact k a _ (.inl rfl) e
 | met f y =>
  have e:h.get? a=some (PySem.W.methodObj (.ref f) (.ref y)):=x
  show h'.get? a=some (PySem.W.methodObj (.ref f) (.ref y))
  exact k a _ (.inl rfl) e
 | ext φ=>obtain ⟨p,⟨o,e⟩,st⟩:=x;exact ⟨st _ _ p fun o q=>k _ _ (.inl rfl) q,⟨o,k _ _ (.inl rfl) e⟩,st⟩
theorem HOk.lt (x:HOk P w H h) (e:H a=some o):a<h.objs.size:=(x a o e).lt
theorem HOk.fresh (x:HOk P w H h) (e:h.objs.size<=a):H a=none:=by
 cases q:H a with
 | none=>rfl
 | some u=>exact absurd (lt_of_lt_of_le (x.lt q) e) (lt_irrefl _)
theorem HOk.kept (x:HOk P w H h) (k:∀ b u,h.get? b=some u->h'.get? b=some u):HOk P w H h':=fun a o e =>
 (x a o e).stay (fun b u _ q=>k b u q) (fun _ q=>q) fun _ _ q=>q
theorem HOk.laid (x:HOk P w H h) (k:∀ b u,h.get? b=some u->h'.get? b=some u) (hp:h.objs.size<=a) (new:ObjOk P w (upd H a o) h' a o):HOk P w (upd H a o) h':=fun b u e=>by
 have hn:=x.fresh hp
 by_cases hb:b=a
 .subst hb;rw [yu] at e;cases e;exact new
 .rw [yy hb] at e
  exact (x b u e).stay (fun c v _ q=>k c v q) (fun c q=>by rw [yy (yZ q hn)];exact q) fun c xs q=>by rw [yy (yZ q hn)];exact q
end
def Rd (H:Hp) (a:Addr) (u:HO):Prop:=H a=some u\/∃ o,H a=some (.frz o u)
theorem Rd.ok {P:Program}{w:World}{H:Hp}{h:Heap}{a:Addr}{u:HO}(r:Rd H a u) (x:HOk P w H h):ObjOk P w H h a u:=by
 rcases r with r|⟨o,r⟩
 .exact x a u r
 .obtain ⟨_,q⟩:=x a _ r
  exact q
noncomputable def Mut:Option HO->Prop
 | some (.lst _)=>True
 | some (.dK _)=>True
 | some (.dT _)=>True
 | some (.set _ _)=>True
 | some (.ins _ _ _)=>True
 | some (.ext _)=>True
 | _=>False
section
variable {P:Program}{w:World}{H:Hp}{h h':Heap}{x e:Addr}{o':HO}
theorem HOk.write (ok:HOk P w H h) (mu:Mut (H x)) (he:e=x\/H e=some (.own x)) (k:∀ b u,b≠e->h.get? b=some u->h'.get? b=some u) (heo:∃ u,h'.get? e=some u)
  (new:ObjOk P w (upd H x o') h' x o'):HOk P w (upd H x o') h':=fun b u q=>by
 have nown:∀ c y,H c=some (.own y)->c≠x:=fun c y r z=>by subst z;rw [r] at mu;exact mu
 have ntup:∀ c xs,H c=some (.tup xs)->c≠x:=fun c xs r z=>by subst z;rw [r] at mu;exact mu
 by_cases hb:b=x
 .subst hb;rw [yu] at q;cases q;exact new
 .rw [yy hb] at q
  by_cases hbe:b=e
  .have q':H b=some (.own x):=by
    rcases he with z|z
    .exact absurd (hbe.trans z) hb
    .rw [hbe];exact z
   rw [q] at q';cases q'
   obtain ⟨v,hv⟩:=heo
   exact ⟨v,by rw [hbe];exact hv⟩
  .refine (ok b u q).stay (fun c v hc r=>k c v ?_ r) (fun c r=>by rw [yy (nown c b r)];exact r) fun c xs r=>by rw [yy (ntup c xs r)];exact r
   rcases hc with rfl|hc
   .exact hbe
   .rintro rfl
    rcases he with z|z
    .exact nown c b hc z
    .rw [hc] at z;cases z;exact hb rfl
end
structure Un (fs ex:List Addr) (H H':Hp) (h h':Heap):Prop where
 keep:∀ b o,h.get? b=some o->H b=none->b∉fs->b∉ex->h'.get? b=some o
 slot:∀ b o,h.get? b=some o->H b=none->b∈fs->b∉ex->∃ sl,h'.get? b=some { o with slots:=sl }
 free:∀ b o,h.get? b=some o->H b=none->b∉ex->H' b=none
 there:∀ b o,h.get? b=some o->b∉ex->∃ o',h'.get? b=some o'
 tups:∀ b xs,H b=some (.tup xs)->H' b=some (.tup xs)
 frzs:∀ b o u,H b=some (.frz o u)->H' b=some (.frz o u)
 tbls:∀ b ps,H b=some (.tbl ps)->∃ more,H' b=some (.tbl (ps++more))
section
variable {fs fs' ex ex':List Addr}{H H1 H2:Hp}{h h1 h2 h':Heap}{a x e:Addr}{o:HO}
theorem Un.any (u:Un fs ex H H1 h h1) {b:Addr}{ob:Obj}(q:h.get? b=some ob) (n:H b=none) (hx:b∉ex):∃ sl,h1.get? b=some { ob with slots:=sl }:=by
 by_cases hb:b∈fs
 .exact u.slot b ob q n hb hx
 .exact ⟨ob.slots,u.keep b ob q n hb hx⟩
theorem Un.kept (k:∀ b u,h.get? b=some u->h'.get? b=some u):Un fs ex H H h h' :=
 ⟨fun b ob q _ _ _=>k b ob q,fun b ob q _ _ _=>⟨ob.slots,k b ob q⟩,fun _ _ _ n _=>n,fun b ob q _=>⟨ob,k b ob q⟩,fun _ _ q=>q,fun _ _ _ q=>q,fun _ ps q=>⟨#[],by rw [q];simp⟩⟩
theorem Un.refl:Un fs ex H H h h:=Un.kept fun _ _ q=>q
theorem Un.laid (k:∀ b u,h.get? b=some u->h'.get? b=some u) (hp:h.objs.size<=a) (hn:H a=none):Un fs ex H (upd H a o) h h' where
 keep:=fun b u q _ _ _=>k b u q
 slot:=fun b u q _ _ _=>⟨u.slots,k b u q⟩
 free:=fun b u q n _=>by rw [yy (ne_of_lt (lt_of_lt_of_le (Heap.lt_size q) hp))];exact n
 there:=fun b u q _=>⟨u,k b u q⟩
 tups:=fun b xs q=>by rw [yy (yZ q hn)];exact q
 frzs:=fun b u xs q=>by rw [yy (yZ q hn)];exact q
 tbls:=fun b ps q=>⟨#[],by rw [yy (yZ q hn),q];simp⟩
theorem Un.write (mu:Mut (H x)) (he:e=x\/H e=some (.own x)) (k:∀ b u,b≠e->h.get? b=some u->h'.get? b=some u) (heo:∃ u,h'.get? e=some u):Un fs ex H (upd H x o) h h':=by
 have hx:∀ b,H b=none->b≠x:=fun b n z=>by subst z;rw [n] at mu;exact mu
 have hb:∀ b,H b=none->b≠e:=fun b n z=>by
  subst z
  rcases he with r|r
  .exact hx b n r
  .rw [n] at r;cases r
 have hm:∀ b u,H b=some u->¬ Mut (some u)->b≠x:=fun b u q nm z=>by subst z;rw [q] at mu;exact nm mu
 refine ⟨fun b u q n _ _=>k b u (hb b n) q,fun b u q n _ _=>⟨u.slots,k b u (hb b n) q⟩,fun b u q n _=>by rw [yy (hx b n)];exact n,fun b u q _=>?_,
  fun b xs q=>by rw [yy (hm b _ q fun z=>z)];exact q,fun b u xs q=>by rw [yy (hm b _ q fun z=>z)];exact q,fun b ps q=>⟨#[],by rw [yy (hm b _ q fun z=>z),q];simp⟩⟩
 by_cases hbe:b=e
 .subst hbe;exact heo
 .exact ⟨u,k b u hbe q⟩
end
def trk (h:Heap) (H:Hp):List Addr:=(List.range h.objs.size).filter fun a=>(H a).isSome
def yra (h:Heap) (H:Hp):Heap:=PySem.W.hideAll h (trk h H)
theorem ynY (h:Heap) (H:Hp):(yra h H).objs.size=h.objs.size:=PySem.W.hideAll_size _ _
theorem yrb {h:Heap}{H:Hp}{b:Addr}{o:Obj}(e:h.get? b=some o) (n:H b=none):(yra h H).get? b=some o :=
 PySem.W.hideAll_get _ e fun hm=>by
  have q:(H b).isSome=true:=(List.mem_filter.mp hm).2
  rw [n] at q;simp at q
theorem yuD {h:Heap}{H:Hp}{b:Addr}{o:Obj}(e:(yra h H).get? b=some o):h.get? b=some o/\H b=none:=by
 have e':h.get? b=some o:=PySem.W.of_hideAll (trk h H) e
 refine ⟨e',?_⟩
 cases q:H b with
 | none=>rfl
 | some x =>
  have hm:b∈trk h H:=List.mem_filter.mpr ⟨List.mem_range.mpr (Heap.lt_size e'),by simp [q]⟩
  have z:(yra h H).get? b=none:=PySem.W.hideAll_none (trk h H) hm
  rw [z] at e;cases e
noncomputable def yuE (g h:Heap) (L:Addr):List (Addr×Obj):=(List.range h.objs.size).filterMap fun a=>if a=L\/(g.get? a).isSome=true then none else (h.get? a).map fun o=>(a,o)
def rest (g h:Heap) (L d:Addr):List (Addr×Obj):=(yuE g h L).filter fun p=>decide (p.1≠d)
end L2
namespace L2
open PySem PySem.Spec PyProof.Rows
structure Mod (K:PySem.W.Frag) (mg:Str->Option Value) (base:Heap):Prop where
 kin:K.In base
 glob:base.Ns mainGlobals mg
 blt:∃ mb,base.Ns builtinsNs mb/\∀ x:Str,x≠"__name__"->mb x=bootBuiltins x
 nolimit:base.NoLimit
structure Cx where
 prog:Program
 w:World
 K:PySem.W.Frag
 mg:Str->Option Value
 base:Heap
 A:Around
 N:List Str
 s₀:Shared
 H₀:Hp
 env:Env
 outer:List Env
 stack:List Env
 ex:List Addr
 fn:Str->Bool
 calm:Bool
 pn:List (Addr×Obj)
 xe:Value->Shared->Prop
def frs (l:List Env):List Addr:=l.filterMap (·.frame)
abbrev Cx.fs (X:Cx):List Addr:=frs X.outer
noncomputable def Vis (sc:Scope) (x:Str):Prop:=sc.names.lookup x=some .local \/ sc.names.lookup x=some .cell\/sc.names.lookup x=some .free
def Loc (sc:Scope) (x:Str):Prop:=sc.names.lookup x=some .local \/ sc.names.lookup x=some .cell
noncomputable def Look (env:Env) (h:Heap) (m:Str->Option Value) (x:Str) (u:Value):Prop :=
 (env.kindOf x=some .local/\m x=some u)\/((env.kindOf x=some .cell\/env.kindOf x=some .free)/\∃ c,env.cells.lookup x=some c/\h.IsCell c (some u))
structure Cx.Ok (X:Cx):Prop where
 mod:Mod X.K X.mg X.base
 kind:X.env.scope.kind=.function
 glob:X.env.globals=mainGlobals
 blt:X.env.builtins=builtinsNs
 above:X.s₀.heap.objs.size<=X.env.locals
 inj:∀ x y c,X.env.cells.lookup x=some c->X.env.cells.lookup y=some c->x=y
 has:∀ x,(X.env.kindOf x=some .cell\/X.env.kindOf x=some .free)->∃ c,X.env.cells.lookup x=some c
 cab:∀ x c,X.fn x=true->X.env.cells.lookup x=some c->X.s₀.heap.objs.size<=c
 hd:X.calm=true->X.A.handled=none
 frames:X.A.frames=some X.stack
 stk:X.stack=X.outer\/(X.stack=X.env::X.outer/\X.env.frame=some X.env.locals)
 exf:∀ b∈X.ex,b≠X.env.locals/\∀ x c,X.env.cells.lookup x=some c->c≠b
 bs:∀ b o,X.base.get? b=some o->X.s₀.heap.get? b=some o/\X.H₀ b=none
 bsz:X.base.objs.size<=X.s₀.heap.objs.size
 noex:∀ b o,X.base.get? b=some o->b∉X.ex
 exfs:∀ b∈X.ex,b∉X.fs
 funs:X.s₀.heap.FunFrames X.base X.outer
 frf:∀ b∈X.fs,X.H₀ b=none
structure Inv (X:Cx) (pins:List (Addr×Obj)) (σ:List (Option V)) (H:Hp) (s:Shared):Prop where
 ok:X.Ok
 os:s.os=X.s₀.os
 bare:AllBare s.gens
 base:Un X.fs X.ex X.H₀ H X.s₀.heap s.heap
 loc:∃ m,s.heap.Ns X.env.locals m/\∀ (i:Nat) (x:Str) (v:V),X.N[i]?=some x->σ[i]?=some (some v)->Vis X.env.scope x->∃ u,RelV v u/\Look X.env s.heap m x u
 cell:∀ x c,X.env.cells.lookup x=some c->∃ v,s.heap.IsCell c v
 free:H X.env.locals=none
 freeC:∀ x c,X.env.cells.lookup x=some c->H c=none
 pin:∀ p∈X.pn++pins,s.heap.get? p.1=some p.2/\H p.1=none/\p.1≠X.env.locals/\p.1∉X.fs/\∀ v,p.2.data≠.cell v
 hok:HOk X.prog X.w H s.heap
 len:σ.length=X.N.length
section
variable {X:Cx}{pins:List (Addr×Obj)}{σ:List (Option V)}{H H':Hp}{s:Shared}{h':Heap}
theorem Cx.Ok.nofr (ok:X.Ok) {b:Addr}{o:Obj}(e:X.base.get? b=some o):b∉X.fs:=fun hb=>by
 have:=(ok.funs.mem hb).1
 rw [e] at this;cases this
theorem Inv.bs (I:Inv X pins σ H s):∀ b o,X.base.get? b=some o->s.heap.get? b=some o/\H b=none:=fun b o e =>
 ⟨I.base.keep b o (I.ok.bs b o e).1 (I.ok.bs b o e).2 (I.ok.nofr e) (I.ok.noex b o e),I.base.free b o (I.ok.bs b o e).1 (I.ok.bs b o e).2 (I.ok.noex b o e)⟩
theorem Inv.bk (I:Inv X pins σ H s):∀ b o,X.base.get? b=some o->s.heap.get? b=some o:=fun b o e=>(I.bs b o e).1
theorem Inv.mod (I:Inv X pins σ H s):Mod X.K X.mg X.base:=I.ok.mod
theorem Inv.kIn (I:Inv X pins σ H s):X.K.In s.heap:=I.ok.mod.kin.keeps I.bk
theorem Inv.lt (I:Inv X pins σ H s):X.env.locals<s.heap.objs.size:=let ⟨_,hn,_⟩:=I.loc;hn.lt
theorem Inv.sz (I:Inv X pins σ H s):X.s₀.heap.objs.size<=s.heap.objs.size:=Nat.le_trans I.ok.above (le_of_lt I.lt)
theorem Inv.nofs (I:Inv X pins σ H s) {a:Addr}(h:s.heap.objs.size<=a):a∉X.fs:=fun hb=>by
 obtain ⟨_,o,ho,_⟩:=I.ok.funs.mem hb
 exact absurd (lt_of_lt_of_le (Heap.lt_size ho) (Nat.le_trans I.sz h)) (lt_irrefl _)
theorem Inv.cne (I:Inv X pins σ H s):∀ x c,X.env.cells.lookup x=some c->c≠X.env.locals:=fun x c e z=>by
 obtain ⟨v,o,ho,hd⟩:=I.cell x c e
 obtain ⟨m,⟨o',es,ep,ho',hd',_⟩,_⟩:=I.loc
 rw [z,ho'] at ho;cases ho;rw [hd'] at hd;cases hd
theorem Inv.funs (I:Inv X pins σ H s):s.heap.FunFrames X.base X.outer:=by
 have all:∀ (l:List Env),(∀ b∈frs l,b∈X.fs)->X.s₀.heap.FunFrames X.base l->s.heap.FunFrames X.base l:=by
  intro l
  induction l with
  | nil=>intro _ _;trivial
  | cons env r ih =>
   intro hs hl
   obtain ⟨hk,⟨L,o,hf,hn,ho,hd⟩,hr⟩:=hl
   have hL:L∈X.fs:=hs L (by unfold frs;rw [List.filterMap_cons,hf];exact mem_cons_self)
   obtain ⟨sl,e⟩:=I.base.slot L o ho (I.ok.frf L hL) hL fun z=>I.ok.exfs L z hL
   exact ⟨hk,⟨L,_,hf,hn,e,hd⟩,ih (fun b hb=>hs b (by unfold frs;rw [List.filterMap_cons,hf];exact mem_cons_of_mem _ hb)) hr⟩
 exact all X.outer (fun _ hb=>hb) I.ok.funs
theorem Inv.stack (I:Inv X pins σ H s):s.heap.FunFrames X.base X.stack:=by
 rcases I.ok.stk with e|⟨e,hf⟩
 .rw [e];exact I.funs
 .rw [e]
  obtain ⟨m,hn,_⟩:=I.loc
  refine .cons (by rw [I.ok.kind];decide) hf hn ?_ I.funs
  exact Heap.get?_none_of_le (Nat.le_trans I.ok.bsz I.ok.above)
theorem Inv.stkSub (I:Inv X pins σ H s):∀ b∈frs X.stack,b∈X.env.locals::X.fs:=fun b hb=>by
 rcases I.ok.stk with e|⟨e,hf⟩
 .rw [e] at hb;exact mem_cons_of_mem _ hb
 .rw [e] at hb
  unfold frs at hb
  rw [List.filterMap_cons,hf] at hb
  exact hb
theorem Inv.stkFree (I:Inv X pins σ H s):∀ b∈frs X.stack,H b=none:=fun b hb=>by
 rcases mem_cons.mp (I.stkSub b hb) with e|hb
 .rw [e];exact I.free
 .obtain ⟨_,o,ho,_⟩:=I.ok.funs.mem hb
  exact I.base.free b o ho (I.ok.frf b hb) fun z=>I.ok.exfs b z hb
theorem Inv.step {g':Array GenState}{t':Nat}{d':Drawn}{ch:List Addr}(I:Inv X pins σ H s)
  (hch:∀ b∈ch,(b∈X.ex\/X.s₀.heap.objs.size<=b)/\b≠X.env.locals/\(∀ x c,X.env.cells.lookup x=some c->c≠b)/\∀ p∈X.pn++pins,p.1≠b)
  (keep:∀ b o,b≠X.env.locals->b∉X.fs->b∉ch->s.heap.get? b=some o->H b=none->h'.get? b=some o)
  (slot:∀ b o,b≠X.env.locals->b∈X.fs->b∉ch->s.heap.get? b=some o->H b=none->∃ sl,h'.get? b=some { o with slots:=sl }) (free:∀ b o,b∉ch->s.heap.get? b=some o->H b=none->H' b=none)
  (there:∀ b o,b∉ch->s.heap.get? b=some o->∃ o',h'.get? b=some o')
  (tups:∀ b xs,H b=some (.tup xs)->H' b=some (.tup xs)) (frzs:∀ b o u,H b=some (.frz o u)->H' b=some (.frz o u)) (tbls:∀ b ps,H b=some (.tbl ps)->∃ more,H' b=some (.tbl (ps++more)))
  (ns:∀ m,s.heap.Ns X.env.locals m->h'.Ns X.env.locals m) (hok:HOk X.prog X.w H' h') (hg:AllBare g') :
  Inv X pins σ H' { s with heap:=h',gens:=g',drawn:=d',toks:=t' }:=by
 have neL:∀ b o,X.s₀.heap.get? b=some o->b≠X.env.locals:=fun b o e=>ne_of_lt (lt_of_lt_of_le (Heap.lt_size e) I.ok.above)
 have neC:∀ b o,X.s₀.heap.get? b=some o->b∉X.ex->b∉ch:=fun b o e hx hb=>by
  rcases (hch b hb).1 with z|z
  .exact hx z
  .exact absurd (lt_of_lt_of_le (Heap.lt_size e) z) (lt_irrefl _)
 have cellK:∀ x c,X.env.cells.lookup x=some c->∀ v,s.heap.IsCell c v->h'.IsCell c v:=fun x c e v ⟨o,ho,hd⟩=>by
  have nch:c∉ch:=fun z=>(hch c z).2.2.1 x c e rfl
  by_cases hc:c∈X.fs
  .obtain ⟨sl,q⟩:=slot c o (I.cne x c e) hc nch ho (I.freeC x c e)
   exact ⟨_,q,hd⟩
  .exact ⟨o,keep c o (I.cne x c e) hc nch ho (I.freeC x c e),hd⟩
 refine ⟨I.ok,I.os,hg,⟨fun b o e n hb hx=>?_,fun b o e n hb hx=>?_,fun b o e n hx=>?_,fun b o e hx=>?_,fun b xs e=>tups b xs (I.base.tups b xs e),fun b o xs e=>frzs b o xs (I.base.frzs b o xs e),fun b ps e=>?_⟩,?_,fun x c e=>?_,?_,fun x c e=>?_,fun p hp=>?_,hok,I.len⟩
 .exact keep b o (neL b o e) hb (neC b o e hx) (I.base.keep b o e n hb hx) (I.base.free b o e n hx)
 .obtain ⟨sl,e1⟩:=I.base.slot b o e n hb hx
  obtain ⟨sl',e2⟩:=slot b _ (neL b o e) hb (neC b o e hx) e1 (I.base.free b o e n hx)
  exact ⟨sl',e2⟩
 .obtain ⟨o',e1⟩:=I.base.there b o e hx
  exact free b o' (neC b o e hx) e1 (I.base.free b o e n hx)
 .obtain ⟨o',e1⟩:=I.base.there b o e hx
  exact there b o' (neC b o e hx) e1
 .obtain ⟨m1,e1⟩:=I.base.tbls b ps e
  obtain ⟨m2,e2⟩:=tbls b _ e1
  exact ⟨m1++m2,by rw [e2,Array.append_assoc]⟩
 .obtain ⟨m,hn,hl⟩:=I.loc
  refine ⟨m,ns m hn,fun i x v e1 e2 e3=>?_⟩
  obtain ⟨u,r,l⟩:=hl i x v e1 e2 e3
  refine ⟨u,r,?_⟩
  rcases l with l|⟨k,c,e,z⟩
  .exact .inl l
  .exact .inr ⟨k,c,e,cellK x c e _ z⟩
 .obtain ⟨v,z⟩:=I.cell x c e
  exact ⟨v,cellK x c e v z⟩
 .obtain ⟨m,⟨o,_,_,ho,_⟩,_⟩:=I.loc
  exact free _ o (fun z=>(hch _ z).2.1 rfl) ho I.free
 .obtain ⟨v,o,ho,hd⟩:=I.cell x c e
  exact free c o (fun z=>(hch c z).2.2.1 x c e rfl) ho (I.freeC x c e)
 .obtain ⟨e,n,ne,nf,d⟩:=I.pin p hp
  have nch:p.1∉ch:=fun z=>(hch p.1 z).2.2.2 p hp rfl
  exact ⟨keep p.1 p.2 ne nf nch e n,free p.1 p.2 nch e n,ne,nf,d⟩
theorem Inv.un {t':Nat}(I:Inv X pins σ H s) (u:Un X.fs [] H H' s.heap h') (hok:HOk X.prog X.w H' h'):Inv X pins σ H' { s with heap:=h',toks:=t' }:=by
 obtain ⟨m,⟨o,es,ep,ho,r⟩,_⟩:=id I.loc
 obtain ⟨sl,hL⟩:=u.any ho I.free (by simp)
 exact I.step (g':=s.gens) (d':=s.drawn) (ch:=[]) (fun _ z=>nomatch z) (fun b o _ hb _ e n=>u.keep b o e n hb (by simp)) (fun b o _ hb _ e n=>u.slot b o e n hb (by simp)) (fun b o _ e n=>u.free b o e n (by simp)) (fun b o _ e=>u.there b o e (by simp)) u.tups u.frzs u.tbls (fun m' hm=>by
  obtain ⟨o',es',ep',ho',r'⟩:=hm
  rw [ho] at ho';cases ho'
  exact ⟨_,es',ep',hL,r'⟩) hok I.bare
theorem Inv.call {g':Array GenState}{t':Nat}{d':Drawn}{ch:List Addr}(I:Inv X pins σ H s) (u:Un (frs X.stack) ch H H' s.heap h') (hok:HOk X.prog X.w H' h') (hg:AllBare g')
  (hch:∀ b∈ch,(b∈X.ex\/X.s₀.heap.objs.size<=b)/\b≠X.env.locals/\(∀ x c,X.env.cells.lookup x=some c->c≠b)/\∀ p∈X.pn++pins,p.1≠b) :
  Inv X pins σ H' { s with heap:=h',gens:=g',drawn:=d',toks:=t' }:=by
 obtain ⟨m,⟨o,es,ep,ho,r⟩,_⟩:=id I.loc
 obtain ⟨sl,hL⟩:=u.any ho I.free fun z=>(hch _ z).2.1 rfl
 exact I.step (ch:=ch) hch (fun b o hL hb hc e n=>u.keep b o e n (fun z=>(mem_cons.mp (I.stkSub b z)).elim hL hb) hc) (fun b o _ _ hc e n=>u.any e n hc) (fun b o hc e n=>u.free b o e n hc) (fun b o hc e=>u.there b o e hc) u.tups u.frzs u.tbls (fun m' hm=>by
  obtain ⟨o',es',ep',ho',r'⟩:=hm
  rw [ho] at ho';cases ho'
  exact ⟨_,es',ep',hL,r'⟩) hok hg
theorem Inv.turned {t':Nat}{it:Addr}(I:Inv X pins σ H s) (k:∀ b o,b≠it->s.heap.get? b=some o->h'.get? b=some o) (hn:H it=none) (hL:it≠X.env.locals)
  (h1:it∈X.ex\/X.s₀.heap.objs.size<=it) (h2:∀ x c,X.env.cells.lookup x=some c->c≠it) (h3:∀ p∈X.pn++pins,p.1≠it):Inv X pins σ H { s with heap:=h',toks:=t' }:=by
 have nit:∀ b u,H b=some u->b≠it:=fun b u e z=>by rw [z,hn] at e;cases e
 refine I.step (g':=s.gens) (d':=s.drawn) (ch:=[it]) (fun b hb=>?_) (fun b o _ _ hc e _=>k b o (fun z=>hc (by simp [z])) e) (fun b o _ _ hc e _=>⟨o.slots,k b o (fun z=>hc (by simp [z])) e⟩) (fun _ _ _ _ n=>n)
  (fun b o hc e=>⟨o,k b o (fun z=>hc (by simp [z])) e⟩) (fun _ _ e=>e) (fun _ _ _ e=>e) (fun b ps e=>⟨#[],by rw [e];simp⟩) (fun m hm=>?_) (fun b u e=>?_) I.bare
 .have e:b=it:=by simpa using hb
  subst e
  exact ⟨h1,hL,h2,h3⟩
 .obtain ⟨o,es,ep,ho,r⟩:=hm
  exact ⟨o,es,ep,k _ o (Ne.symm hL) ho,r⟩
 .refine (I.hok b u e).stay (fun c v hc q=>k c v ?_ q) (fun _ q=>q) fun _ _ q=>q
  rcases hc with z|z
  .rw [z];exact nit b u e
  .exact nit c _ z
theorem Inv.tok (I:Inv X pins σ H s) (t:Nat):Inv X pins σ H { s with toks:=t }:=I.un (h':=s.heap) (t':=t) Un.refl I.hok
theorem Inv.kept {t':Nat}(I:Inv X pins σ H s) (k:∀ b u,s.heap.get? b=some u->h'.get? b=some u):Inv X pins σ H { s with heap:=h',toks:=t' }:=I.un (Un.kept k) (I.hok.kept k)
theorem Inv.laid {a:Addr}{o:HO}{t':Nat}(I:Inv X pins σ H s) (k:∀ b u,s.heap.get? b=some u->h'.get? b=some u) (hp:s.heap.objs.size<=a) (new:ObjOk X.prog X.w (upd H a o) h' a o) :
  Inv X pins σ (upd H a o) { s with heap:=h',toks:=t' }:=I.un (Un.laid k hp (I.hok.fresh hp)) (I.hok.laid k hp new)
theorem Inv.write {x e:Addr}{o:HO}{t':Nat}(I:Inv X pins σ H s) (mu:Mut (H x)) (he:e=x\/H e=some (.own x)) (k:∀ b u,b≠e->s.heap.get? b=some u->h'.get? b=some u) (heo:∃ u,h'.get? e=some u)
  (new:ObjOk X.prog X.w (upd H x o) h' x o):Inv X pins σ (upd H x o) { s with heap:=h',toks:=t' }:=I.un (Un.write mu he k heo) (I.hok.write mu he k heo new)
theorem Inv.pins_of {pins':List (Addr×Obj)}(I:Inv X pins σ H s) (h:∀ p∈pins',s.heap.get? p.1=some p.2/\H p.1=none/\p.1≠X.env.locals/\p.1∉X.fs/\∀ v,p.2.data≠.cell v):Inv X pins' σ H s :=
 ⟨I.ok,I.os,I.bare,I.base,I.loc,I.cell,I.free,I.freeC,fun p hp=>(List.mem_append.mp hp).elim (fun z=>I.pin p (mem_append_left _ z)) (h p),I.hok,I.len⟩
theorem ylP {N:List Str}(hN:N.Nodup) {i j:Nat}{x:Str}(a:N[i]?=some x) (b:N[j]?=some x):i=j:=by
 obtain ⟨h1,e1⟩:=List.getElem?_eq_some_iff.mp a
 obtain ⟨h2,e2⟩:=List.getElem?_eq_some_iff.mp b
 exact (List.getElem_inj hN).mp (e1.trans e2.symm)
theorem ynZ {M:Model}{A:Around}{E:Value->Shared->Prop}{i:Nat}{x:Str}{v:V}{u:Value}{Q:Unit->Shared->Prop}(I:Inv X pins σ H s) (hN:X.N.Nodup) (hi:X.N[i]?=some x) (hx:Loc X.env.scope x) (r:RelV v u)
  (h:∀ s',Inv X pins (σ.set i (some v)) H s'->(∃ a,Heap.SameBut a s.heap s'.heap/\(a=X.env.locals\/X.env.cells.lookup x=some a))->Q () s') (hf:X.fn x=true\/X.env.scope.names.lookup x=some .local:=by first|exact .inl rfl|exact .inr rfl|assumption):wpAny M A (storeName X.env x u) Q E s:=by
 obtain ⟨m,hn,hl⟩:=id I.loc
 have hcls:(X.env.scope.kind == .class || (X.env.scope.kind == .module && X.env.locals != X.env.globals))=false:=by rw [I.ok.kind];rfl
 have hiσ:i<σ.length:=by rw [I.len];exact (List.getElem?_eq_some_iff.mp hi).1
 have cne:=I.cne
 have tracked:∀ {a:Addr}{h':Heap},(∃ o,s.heap.get? a=some o/\H a=none)->Heap.SameBut a s.heap h'->HOk X.prog X.w H h':=fun {a h'} ha hs b ob e=>by
  obtain ⟨_,_,hfree⟩:=ha
  refine (I.hok b ob e).stay (fun c w' hc q=>(hs.2 c ?_).trans q) (fun _ q=>q) fun _ _ q=>q
  rintro rfl
  rcases hc with rfl|hc
  .rw [hfree] at e;cases e
  .rw [hfree] at hc;cases hc
 rcases hx with hk|hk
 .refine wpAny_storeName_local hk hn (fun h' hn' hs=>?_) hcls
  obtain ⟨oL,_,_,hoL,_⟩:=id hn
  refine h _ ⟨I.ok,I.os,I.bare,⟨fun b o e n hb hx=>?_,fun b o e n hb hx=>?_,I.base.free,fun b o e hx=>?_,I.base.tups,I.base.frzs,I.base.tbls⟩,⟨_,hn',fun j y v' e1 e2 e3=>?_⟩,fun y c e=>?_,I.free,I.freeC,fun p hp=>?_,tracked ⟨oL,hoL,I.free⟩ hs,by simpa using I.len⟩ ⟨_,hs,.inl rfl⟩
  .exact (hs.2 b (ne_of_lt (lt_of_lt_of_le (Heap.lt_size e) I.ok.above))).trans (I.base.keep b o e n hb hx)
  .obtain ⟨sl,e1⟩:=I.base.slot b o e n hb hx
   exact ⟨sl,(hs.2 b (ne_of_lt (lt_of_lt_of_le (Heap.lt_size e) I.ok.above))).trans e1⟩
  .obtain ⟨o',e1⟩:=I.base.there b o e hx
   exact ⟨o',(hs.2 b (ne_of_lt (lt_of_lt_of_le (Heap.lt_size e) I.ok.above))).trans e1⟩
  .by_cases hj:j=i
   .subst hj
    rw [hi] at e1;cases e1
    rw [getElem?_set_self hiσ] at e2
    cases e2
    exact ⟨u,r,.inl ⟨hk,by simp⟩⟩
   .rw [getElem?_set_ne (Ne.symm hj)] at e2
    obtain ⟨u',r',q⟩:=hl j y v' e1 e2 e3
    refine ⟨u',r',?_⟩
    rcases q with ⟨k,e⟩|⟨k,c,e,z⟩
    .refine .inl ⟨k,?_⟩
     have:y≠x:=fun e=>hj (ylP hN e1 (e ▸ hi))
     simp [this,e]
    .exact .inr ⟨k,c,e,z.sameBut hs (cne y c e)⟩
  .obtain ⟨w',z⟩:=I.cell y c e
   exact ⟨w',z.sameBut hs (cne y c e)⟩
  .obtain ⟨e,n,ne,nf,d⟩:=I.pin p hp
   exact ⟨(hs.2 p.1 ne).trans e,n,ne,nf,d⟩
 .have hfn:X.fn x=true:=by
   rcases hf with z|z
   .exact z
   .rw [z] at hk;cases hk
  obtain ⟨c,hc⟩:=I.ok.has x (.inl hk)
  obtain ⟨w',z⟩:=I.cell x c hc
  refine wpAny_storeName_cell I.ok.kind hk hc z (fun h' hc' hs=>?_)
  obtain ⟨oc,hoc,hocd⟩:=id z
  refine h { s with heap:=h' } ⟨I.ok,I.os,I.bare,⟨fun b o e n hb hx=>?_,fun b o e n hb hx=>?_,I.base.free,fun b o e hx=>?_,I.base.tups,I.base.frzs,I.base.tbls⟩,⟨m,hn.sameBut hs (Ne.symm (cne x c hc)),fun j y v' e1 e2 e3=>?_⟩,fun y c' e=>?_,I.free,I.freeC,fun p hp=>?_,tracked ⟨oc,hoc,I.freeC x c hc⟩ hs,by simpa using I.len⟩ ⟨c,hs,.inr hc⟩
  .exact (hs.2 b (ne_of_lt (lt_of_lt_of_le (Heap.lt_size e) (I.ok.cab x c hfn hc)))).trans (I.base.keep b o e n hb hx)
  .obtain ⟨sl,e1⟩:=I.base.slot b o e n hb hx
   exact ⟨sl,(hs.2 b (ne_of_lt (lt_of_lt_of_le (Heap.lt_size e) (I.ok.cab x c hfn hc)))).trans e1⟩
  .obtain ⟨o',e1⟩:=I.base.there b o e hx
   exact ⟨o',(hs.2 b (ne_of_lt (lt_of_lt_of_le (Heap.lt_size e) (I.ok.cab x c hfn hc)))).trans e1⟩
  .by_cases hj:j=i
   .subst hj
    rw [hi] at e1;cases e1
    rw [getElem?_set_self hiσ] at e2
    cases e2
    exact ⟨u,r,.inr ⟨.inl hk,c,hc,hc'⟩⟩
   .rw [getElem?_set_ne (Ne.symm hj)] at e2
    obtain ⟨u',r',q⟩:=hl j y v' e1 e2 e3
    refine ⟨u',r',?_⟩
    rcases q with q|⟨k,c',e,z'⟩
    .exact .inl q
    .refine .inr ⟨k,c',e,z'.sameBut hs ?_⟩
     rintro rfl
     exact hj (ylP hN e1 (I.ok.inj _ _ _ e hc ▸ hi))
  .by_cases hcc:c'=c
   .subst hcc;exact ⟨_,hc'⟩
   .obtain ⟨w2,z2⟩:=I.cell y c' e
    exact ⟨w2,z2.sameBut hs hcc⟩
  .obtain ⟨e,n,ne,nf,d⟩:=I.pin p hp
   refine ⟨(hs.2 p.1 ?_).trans e,n,ne,nf,d⟩
   intro q
   rw [q,hoc] at e
   have q':oc=p.2:=Option.some.inj e
   exact d w' (by rw [<- q'];exact hocd)
theorem ylQ {M:Model}{A:Around}{E:Value->Shared->Prop}{i:Nat}{x:Str}{v:V}{u:Value}{Q:Unit->Shared->Prop}(I:Inv X pins σ H s) (hN:X.N.Nodup) (hi:X.N[i]?=some x) (hx:Loc X.env.scope x) (r:RelV v u)
  (h:∀ s',Inv X pins (σ.set i (some v)) H s'->Q () s') (hf:X.fn x=true\/X.env.scope.names.lookup x=some .local:=by first|exact .inl rfl|exact .inr rfl|assumption):wpAny M A (storeName X.env x u) Q E s :=
 ynZ I hN hi hx r (fun s' I' _=>h s' I') hf
theorem Inv.call' {s':Shared}{ch:List Addr}(I:Inv X pins σ H s) (ho:s'.os=s.os) (u:Un (frs X.stack) ch H H' s.heap s'.heap) (hok:HOk X.prog X.w H' s'.heap) (hg:AllBare s'.gens)
  (hch:∀ b∈ch,(b∈X.ex\/X.s₀.heap.objs.size<=b)/\b≠X.env.locals/\(∀ x c,X.env.cells.lookup x=some c->c≠b)/\∀ p∈X.pn++pins,p.1≠b):Inv X pins σ H' s':=by
 obtain ⟨h',g',d',t',o'⟩:=s'
 have e:o'=s.os:=ho
 subst e
 exact I.call (g':=g') (t':=t') (d':=d') u hok hg hch
end
abbrev XK:=Value->Option Addr->Hp->Prop
abbrev St:=List (Option V)
abbrev VK:=V->Hp->Prop
abbrev TE:=St->Hp->VK->Prop
abbrev TT:=St->Hp->(Bool->Hp->Prop)->Prop
abbrev TA:=St->Hp->(List V->Hp->Prop)->Prop
structure Ends where
 nx:St->Hp->Prop
 rt:VK
 bk:St->Hp->Prop:=fun _ _=>False
 ct:St->Hp->Prop:=fun _ _=>False
abbrev TS:=Ends->St->Hp->Prop
def EP (X:Cx) (pins:List (Addr×Obj)) (σ:St) (Q:VK) (u:Value) (s':Shared):Prop:=∃ v H',Inv X pins σ H' s'/\RelV v u/\Q v H'
noncomputable def TP (X:Cx) (pins:List (Addr×Obj)) (σ:St) (Q:Bool->Hp->Prop) (b:Bool) (s':Shared):Prop:=∃ H',Inv X pins σ H' s'/\Q b H'
def AP (X:Cx) (pins:List (Addr×Obj)) (σ:St) (Q:List V->Hp->Prop) (us:List Value) (s':Shared):Prop:=∃ vs H',Inv X pins σ H' s'/\Vals vs us/\Q vs H'
def SP (X:Cx) (pins:List (Addr×Obj)) (D:Ends) (f:Flow) (s':Shared):Prop :=
 match f with
 | .next=>∃ σ' H',Inv X pins σ' H' s'/\D.nx σ' H'
 | .brk=>∃ σ' H',Inv X pins σ' H' s'/\D.bk σ' H'
 | .cont=>∃ σ' H',Inv X pins σ' H' s'/\D.ct σ' H'
 | .ret u=>∃ v σ' H',Inv X pins σ' H' s'/\RelV v u/\D.rt v H'
def PE (X:Cx) (e:Expr) (t:TE):Prop :=
 ∀ (pins:List (Addr×Obj)) (s:Shared) (σ:St) (H:Hp) (Q:VK),Inv X pins σ H s->t σ H Q->wpAny (model X.prog X.w) X.A (eval e X.env) (EP X pins σ Q) X.xe s
def PT (X:Cx) (e:Expr) (t:TT):Prop :=
 ∀ (pins:List (Addr×Obj)) (s:Shared) (σ:St) (H:Hp) (Q:Bool->Hp->Prop),Inv X pins σ H s->t σ H Q->wpAny (model X.prog X.w) X.A (isTrue e X.env (eval e X.env)) (TP X pins σ Q) X.xe s
def PW (X:Cx) (e:Expr) (t:TT):Prop :=
 ∀ (whole:Sem Value) (pins:List (Addr×Obj)) (s:Shared) (σ:St) (H:Hp) (Q:Bool->Hp->Prop),Inv X pins σ H s->t σ H Q->wpAny (model X.prog X.w) X.A (isTrue e X.env whole) (TP X pins σ Q) X.xe s
theorem PW.pt {X:Cx}{e:Expr}{t:TT}(h:PW X e t):PT X e t:=h _
def PA (X:Cx) (es:List Expr) (t:TA):Prop :=
 ∀ (pos:Pos) (pins:List (Addr×Obj)) (s:Shared) (σ:St) (H:Hp) (Q:List V->Hp->Prop),Inv X pins σ H s->t σ H Q->wpAny (model X.prog X.w) X.A (spliced (backTo pos (starEach es X.env))) (AP X pins σ Q) X.xe s
def PS (X:Cx) (st:Stmt) (t:TS):Prop :=
 ∀ (pins:List (Addr×Obj)) (s:Shared) (σ:St) (H:Hp) (D:Ends),Inv X pins σ H s->t D σ H->wpAny (model X.prog X.w) X.A (exec st X.env) (SP X pins D) X.xe s
def PSs (X:Cx) (st:List Stmt) (t:TS):Prop :=
 ∀ (pins:List (Addr×Obj)) (s:Shared) (σ:St) (H:Hp) (D:Ends),Inv X pins σ H s->t D σ H->wpAny (model X.prog X.w) X.A (execs st X.env) (SP X pins D) X.xe s
theorem thn {α:Type}{t:Sem α}{Q Q':α->Shared->Prop}{M:Model}{A:Around}{E:Value->Shared->Prop}{s:Shared}(h:wpAny M A t Q E s) (hQ:∀ a s,Q a s->Q' a s):wpAny M A t Q' E s:=wpAny_mono h hQ fun _ _ x=>x
end L2
namespace L2
open PySem PySem.Spec PyProof.Rows
section
variable {X:Cx}
def ynP (i:Nat):TE:=fun σ H Q=>∃ v,σ[i]?=some (some v)/\Q v H
def tC (v:V):TE:=fun _ H Q=>Q v H
theorem yhA {i:Nat}{x:Str}{pos:Pos}(hN:X.N[i]?=some x) (hv:Vis X.env.scope x) (hd:(x == ("__debug__":Str))=false:=by decide) (hcd:(x == ("__classdict__":Str))=false:=by decide):PE X (.Name x pos) (ynP i):=by
 intro pins s σ H Q I h
 obtain ⟨v,e,h⟩:=h
 obtain ⟨m,hn,hl⟩:=I.loc
 obtain ⟨u,r,l⟩:=hl i x v hN e hv
 have fin:EP X pins σ Q u s:=⟨v,H,I,r,h⟩
 rcases l with ⟨hk,hm⟩|⟨hk,c,hc,hcell⟩
 .exact wpAny_Name (wpAny_loadName_local I.ok.kind hk hn hm fin) hd
 .rcases hk with hk|hk
  .exact wpAny_Name (wpAny_loadName_cell I.ok.kind hk hc hcell fin) hd
  .exact wpAny_Name (wpAny_loadName_free I.ok.kind hk hc hcell fin hcd) hd
theorem yxp {i j pos}:PE X (.Constant (.int i) j pos) (tC (.int i)):=fun _ _ _ H _ I h=>wpAny_Constant_int ⟨.int i,H,I.tok _,⟨_,rfl⟩,h⟩
theorem yAA {b j pos}:PE X (.Constant (.bool b) j pos) (tC (.bl b)):=fun _ _ _ H _ I h=>Constant_bool ⟨.bl b,H,I,rfl,h⟩
theorem yxq {j pos}:PE X (.Constant .none j pos) (tC .non):=fun _ _ _ H _ I h=>Constant_none ⟨.non,H,I,rfl,h⟩
theorem yxr {x j pos}:PE X (.Constant (.str x) j pos) (tC (.str x)):=fun _ _ _ H _ I h=>Calls.Constant_str ⟨.str x,H,I.tok _,⟨_,rfl⟩,h⟩
def Gl (X:Cx) (x:Str):Prop:=X.env.kindOf x=some .globalImplicit
theorem yhX {E:Value->Shared->Prop}{pins:List (Addr×Obj)}{s:Shared}{σ:St}{H:Hp}{x:Str}{u:Value}{pos:Pos}{Q:Value->Shared->Prop}(I:Inv X pins σ H s) (hg:Gl X x) (hm:X.mg x=some u) (h:Q u s)
  (hd:(x == ("__debug__":Str))=false:=by decide):wpAny (model X.prog X.w) X.A (eval (.Name x pos) X.env) Q E s :=
 Calls.Name_function_global I.ok.kind hg (Calls.loadGlobal_global (by rw [I.ok.glob];exact I.mod.glob.keeps I.bk) hm h) hd
theorem yiU {E:Value->Shared->Prop}{pins:List (Addr×Obj)}{s:Shared}{σ:St}{H:Hp}{x:Str}{u:Value}{pos:Pos}{Q:Value->Shared->Prop}(I:Inv X pins σ H s) (hg:Gl X x) (hm:X.mg x=none) (hv:bootBuiltins x=some u) (h:Q u s)
  (hn:x≠"__name__":=by decide) (hd:(x == ("__debug__":Str))=false:=by decide):wpAny (model X.prog X.w) X.A (eval (.Name x pos) X.env) Q E s:=by
 obtain ⟨mb,h1,h2⟩:=I.mod.blt
 exact Calls.Name_function_global I.ok.kind hg (Calls.loadGlobal_builtin (by rw [I.ok.glob];exact I.mod.glob.keeps I.bk) hm (by rw [I.ok.blt];exact h1.keeps I.bk) ((h2 x hn).trans hv) h) hd
theorem ykF {x:Str}{v:V}{u:Value}{pos:Pos}(hg:Gl X x) (hm:X.mg x=some u) (r:RelV v u) (hd:(x == ("__debug__":Str))=false:=by decide):PE X (.Name x pos) (tC v) :=
 fun _ _ _ H _ I h=>yhX I hg hm ⟨v,H,I,r,h⟩ hd
theorem yuF {x:Str}{v:V}{u:Value}{pos:Pos}(hg:Gl X x) (hm:X.mg x=none) (hv:bootBuiltins x=some u) (r:RelV v u) (hn:x≠"__name__":=by decide) (hd:(x == ("__debug__":Str))=false:=by decide):PE X (.Name x pos) (tC v) :=
 fun _ _ _ H _ I h=>yiU I hg hm hv ⟨v,H,I,r,h⟩ hn hd
variable {a b:Expr}{ta tb:TE}{pos:Pos}
def PC (X:Cx) (op:CmpOp) (a b:Expr) (t:TE):Prop :=
 ∀ (pins:List (Addr×Obj)) (s:Shared) (σ:St) (H:Hp) (Q:VK),Inv X pins σ H s->t σ H Q ->
  wpAny (model X.prog X.w) X.A (eval a X.env) (fun v s₁=>wpAny (model X.prog X.w) X.A (eval b X.env) (fun u s₂=>wpAny (model X.prog X.w) X.A (compareOp op v u) (EP X pins σ Q) X.xe s₂) X.xe s₁) X.xe s
theorem yrc (b:Expr) {op:CmpOp}(h:op≠.In) (h2:op≠.NotIn):behindInMarks op b=false:=by
 have e1:(op == CmpOp.In)=false:=by cases op<;>first|rfl|exact absurd rfl h
 have e2:(op == CmpOp.NotIn)=false:=by cases op<;>first|rfl|exact absurd rfl h2
 cases b<;>simp [behindInMarks,e1,e2]
def tB (t:TE):TT:=fun σ H Q=>t σ H fun x H1=>∃ c,x=.bl c/\Q c H1
theorem ytp {op:CmpOp}{t:TE}(h:PC X op a b t) (h1:behindInMarks op b=false:=by first|exact yrc _ (by decide) (by decide)|rfl):PT X (.Compare a [op] [b] pos) (tB t):=by
 intro pins s σ H Q I hw
 refine wpAny_isTrue_Compare1 (thn (h pins s σ H _ I hw) fun v s1 h1=>thn h1 fun u s2 h2=>thn h2 fun c s3 ⟨x,H1,I1,r1,q1⟩=>?_) h1
 obtain ⟨d,rfl,q⟩:=q1
 cases r1
 exact wpAny_truthy_bool ⟨H1,I1,q⟩
theorem yxs {e:Expr}{t:TE}(h:PE X e t) (he:∀ whole,isTrue e X.env whole=(do let v <- whole;standAt e.pos;holding [v] (truthy v)):=by intro _;rfl):PT X e (tB t):=by
 intro pins s σ H Q I hw
 refine isTrue_plain (thn (h pins s σ H _ I hw) fun v s1 ⟨x,H1,I1,r1,q1⟩=>?_) (he _)
 obtain ⟨d,rfl,q⟩:=q1
 cases r1
 exact wpAny_truthy_bool ⟨H1,I1,q⟩
variable {tA tB':TT}{rest:List Expr}
def yCG (t u:TT):TT:=fun σ H Q=>t σ H fun c H1=>if c=true then u σ H1 Q else Q false H1
def tOr (t u:TT):TT:=fun σ H Q=>t σ H fun c H1=>if c=true then Q true H1 else u σ H1 Q
def yAB (t:TT):TT:=fun σ H Q=>t σ H fun c H1=>Q (!c) H1
theorem yuG (ha:PT X a tA):PW X (.BoolOp .And [a] pos) tA:=by
 intro wh pins s σ H Q I h
 refine isTrue_and (thn (ha pins s σ H Q I h) fun c s1 e=>?_)
 cases c with
 | true=>exact isTrue_and_nil e
 | false=>exact e
theorem yxt (ha:PT X a tA):PW X (.BoolOp .Or [a] pos) tA:=by
 intro wh pins s σ H Q I h
 refine isTrue_or (thn (ha pins s σ H Q I h) fun c s1 e=>?_)
 cases c with
 | false=>exact isTrue_or_nil e
 | true=>exact e
theorem yxu (ha:PT X a tA) (hb:PW X (.BoolOp .And (b::rest) pos) tB'):PW X (.BoolOp .And (a::b::rest) pos) (yCG tA tB'):=by
 intro wh pins s σ H Q I h
 refine isTrue_and (thn (ha pins s σ H _ I h) fun c s1 ⟨H1,I1,q1⟩=>?_)
 cases c with
 | true=>exact hb wh pins s1 σ H1 Q I1 q1
 | false=>exact ⟨H1,I1,q1⟩
theorem yAC (ha:PT X a tA) (hb:PW X (.BoolOp .Or (b::rest) pos) tB'):PW X (.BoolOp .Or (a::b::rest) pos) (tOr tA tB'):=by
 intro wh pins s σ H Q I h
 refine isTrue_or (thn (ha pins s σ H _ I h) fun c s1 ⟨H1,I1,q1⟩=>?_)
 cases c with
 | true=>exact ⟨H1,I1,q1⟩
 | false=>exact hb wh pins s1 σ H1 Q I1 q1
theorem yxv (ha:PT X a tA):PT X (.UnaryOp .Not a pos) (yAB tA):=by
 intro pins s σ H Q I h
 exact isTrue_not (ha pins s σ H (fun c H1=>Q (!c) H1) I h)
def yxw (ta tb:TE):TE:=fun σ H Q=>ta σ H fun x H1=>∃ c,x=.bl c/\if c=true then tb σ H1 Q else Q (.bl false) H1
def yxx (ta:TE):TE:=fun σ H Q=>ta σ H fun x H1=>∃ c,x=.bl c/\Q (.bl (!c)) H1
theorem yxy {op} {t:TE}(h:PE X a t):PE X (.BoolOp op [a] pos) t:=fun pins s σ H Q I hw=>BoolOp_one (h pins s σ H Q I hw)
theorem yxz (ha:PE X a ta) (hb:PE X (.BoolOp .And (b::rest) pos) tb):PE X (.BoolOp .And (a::b::rest) pos) (yxw ta tb):=by
 intro pins s σ H Q I h
 refine BoolOp_and (thn (ha pins s σ H _ I h) fun v s1 ⟨x,H1,I1,r1,q1⟩=>?_)
 obtain ⟨c,rfl,q1⟩:=q1
 cases r1
 refine wpAny_truthy_bool ?_
 cases c with
 | true=>exact hb pins s1 σ H1 Q I1 q1
 | false=>exact ⟨.bl false,H1,I1,rfl,q1⟩
theorem yxA (ha:PE X a ta):PE X (.UnaryOp .Not a pos) (yxx ta):=by
 intro pins s σ H Q I h
 refine UnaryOp_ (thn (ha pins s σ H _ I h) fun v s1 ⟨x,H1,I1,r1,q1⟩=>?_)
 obtain ⟨c,rfl,q1⟩:=q1
 cases r1
 exact not_of (wpAny_truthy_bool ⟨.bl (!c),H1,I1,rfl,q1⟩)
def tIf (t:TT) (ta tb:TE):TE:=fun σ H Q=>t σ H fun c H1=>if c=true then ta σ H1 Q else tb σ H1 Q
theorem yrd {c:Expr}(hc:PT X c tA) (ha:PE X a ta) (hb:PE X b tb):PE X (.IfExp c a b pos) (tIf tA ta tb):=by
 intro pins s σ H Q I h
 refine wpAny_IfExp (thn (hc pins s σ H _ I h) fun d s1 ⟨H1,I1,q1⟩=>?_)
 cases d with
 | true=>exact ha pins s1 σ H1 Q I1 q1
 | false=>exact hb pins s1 σ H1 Q I1 q1
end
end L2
namespace L2
open PySem PySem.Spec PyProof.Rows
def SqL (K:PySem.W.Frag) (H:Hp) (a:Addr) (xs:List V):Prop :=
 Rd H a (.lst xs) \/
  ∃ (o:Obj) (its:Array Value) (n:Nat),K.lookup a=some o/\o.cls=.type "list"/\o.dict=none/\o.data=.seq its n/\its.size<=sizeLine/\Vals xs its.toList
def SqT (K:PySem.W.Frag) (H:Hp) (a:Addr) (xs:List V):Prop :=
 Rd H a (.tup xs) \/
  ∃ (o:Obj) (its:Array Value) (n:Nat),K.lookup a=some o/\o.cls=.type "tuple"/\o.data=.seq its n/\its.size<=sizeLine/\Vals xs its.toList
noncomputable def yDu:Value->Option V
 | .none=>some .non
 | .bool b=>some (.bl b)
 | .int i _=>some (.int i)
 | .str x _=>some (.str x)
 | .bytes b _=>some (.byt b)
 | .float b _=>some (.flt b)
 | .ref a=>some (.ref a)
 | .type n=>some (.ty n)
 | _=>none
theorem RelV.abs {x:V}{u:Value}(r:RelV x u):yDu u=some x:=by
 cases x with
 | non=>cases r;rfl
 | bl _=>cases r;rfl
 | int _=>obtain ⟨t,rfl⟩:=r;rfl
 | str _=>obtain ⟨t,rfl⟩:=r;rfl
 | byt _=>obtain ⟨t,rfl⟩:=r;rfl
 | flt _=>obtain ⟨t,rfl⟩:=r;rfl
 | ref _=>cases r;rfl
 | ty _=>cases r;rfl
theorem RelV.inj {x y:V}{u:Value}(r:RelV x u) (q:RelV y u):x=y:=Option.some.inj (r.abs.symm.trans q.abs)
theorem Vals.inj:∀ {xs ys:List V}{us:List Value},Vals xs us->Vals ys us->xs=ys
 | _,_,_,.nil,.nil=>rfl
 | _,_,_,.cons r t,.cons r' t'=>by rw [r.inj r',Vals.inj t t']
section
variable {X:Cx}{pins:List (Addr×Obj)}{σ:St}{H:Hp}{s:Shared}{a:Addr}{xs ys:List V}
theorem SqL.of {K:PySem.W.Frag}(h:H a=some (.lst xs)):SqL K H a xs:=.inl (.inl h)
theorem SqT.of {K:PySem.W.Frag}(h:H a=some (.tup xs)):SqT K H a xs:=.inl (.inl h)
theorem Inv.list (I:Inv X pins σ H s) (h:SqL X.K H a xs):∃ its:List Value,Vals xs its/\PlainL s.heap a its.toArray/\xs.length<=sizeLine:=by
 rcases h with h|⟨o,its,n,hk,hc,hd,hs,hz,r⟩
 .obtain ⟨z,its,n,r,e⟩:=h.ok I.hok
  exact ⟨its,r,⟨_,n,e,rfl,rfl,rfl⟩,z⟩
 .refine ⟨its.toList,r,⟨o,n,I.kIn a o hk,hc,hd,by simpa using hs⟩,?_⟩
  have e:=r.length
  simp only [Array.length_toList] at e
  omega
theorem Inv.tuple (I:Inv X pins σ H s) (h:SqT X.K H a xs):∃ its:List Value,Vals xs its/\IsTup s.heap a its.toArray/\xs.length<=sizeLine:=by
 rcases h with h|⟨o,its,n,hk,hc,hs,hz,r⟩
 .obtain ⟨z,its,r,p⟩:=h.ok I.hok
  exact ⟨its,r,p,z⟩
 .refine ⟨its.toList,r,⟨o,I.kIn a o hk,hc,n,by simpa using hs⟩,?_⟩
  have e:=r.length
  simp only [Array.length_toList] at e
  omega
theorem Inv.list_inj (I:Inv X pins σ H s) (h:SqL X.K H a xs) (h':SqL X.K H a ys):xs=ys:=by
 obtain ⟨its,r,⟨o,n,e,_,_,d⟩,_⟩:=I.list h
 obtain ⟨its',r',⟨o',n',e',_,_,d'⟩,_⟩:=I.list h'
 rw [e] at e';cases e'
 rw [d] at d'
 injection d' with d1 _
 have:its=its':=by simpa using congrArg Array.toList d1
 subst this
 exact r.inj r'
theorem Inv.tuple_inj (I:Inv X pins σ H s) (h:SqT X.K H a xs) (h':SqT X.K H a ys):xs=ys:=by
 obtain ⟨its,r,⟨o,e,_,n,d⟩,_⟩:=I.tuple h
 obtain ⟨its',r',⟨o',e',_,n',d'⟩,_⟩:=I.tuple h'
 rw [e] at e';cases e'
 rw [d] at d'
 injection d' with d1 _
 have:its=its':=by simpa using congrArg Array.toList d1
 subst this
 exact r.inj r'
end
abbrev Cx.wish (X:Cx) (E:Value->Shared->Prop):Cx:={ X with xe:=E }
abbrev Cx.nox (X:Cx):Cx:=X.wish fun _ _=>False
theorem Cx.Ok.wish {X:Cx}(ok:X.Ok) (E:Value->Shared->Prop):(X.wish E).Ok :=
 ⟨ok.mod,ok.kind,ok.glob,ok.blt,ok.above,ok.inj,ok.has,ok.cab,ok.hd,ok.frames,ok.stk,ok.exf,ok.bs,ok.bsz,ok.noex,ok.exfs,ok.funs,ok.frf⟩
theorem Cx.Ok.unwish {X:Cx}{E:Value->Shared->Prop}(ok:(X.wish E).Ok):X.Ok :=
 ⟨ok.mod,ok.kind,ok.glob,ok.blt,ok.above,ok.inj,ok.has,ok.cab,ok.hd,ok.frames,ok.stk,ok.exf,ok.bs,ok.bsz,ok.noex,ok.exfs,ok.funs,ok.frf⟩
section
variable {X:Cx}{pins:List (Addr×Obj)}{σ:St}{H:Hp}{s:Shared}{E:Value->Shared->Prop}
theorem Inv.wish (I:Inv X pins σ H s) (E:Value->Shared->Prop):Inv (X.wish E) pins σ H s:=⟨I.ok.wish E,I.os,I.bare,I.base,I.loc,I.cell,I.free,I.freeC,I.pin,I.hok,I.len⟩
theorem Inv.unwish (I:Inv (X.wish E) pins σ H s):Inv X pins σ H s:=⟨I.ok.unwish,I.os,I.bare,I.base,I.loc,I.cell,I.free,I.freeC,I.pin,I.hok,I.len⟩
theorem SP.unwish {D:Ends}{f:Flow}{s':Shared}(h:SP (X.wish E) pins D f s'):SP X pins D f s':=by
 cases f with
 | next=>obtain ⟨σ',H',I,q⟩:=h;exact ⟨σ',H',I.unwish,q⟩
 | brk=>obtain ⟨σ',H',I,q⟩:=h;exact ⟨σ',H',I.unwish,q⟩
 | cont=>obtain ⟨σ',H',I,q⟩:=h;exact ⟨σ',H',I.unwish,q⟩
 | ret u=>obtain ⟨v,σ',H',I,r,q⟩:=h;exact ⟨v,σ',H',I.unwish,r,q⟩
theorem PSs.nox {st:List Stmt}{t:TS}(h:PSs X.nox st t):PSs X st t:=fun pins s σ H D I hw =>
 wpAny_mono (h pins s σ H D (I.wish _) hw) (fun _ _ q=>q.unwish) fun _ _ z=>False.elim z
end
section
variable {X:Cx}{st:Stmt}{rest:List Stmt}{t u:TS}{e:Expr}{te:TE}{pos:Pos}
def yxB:TS:=fun D σ H=>D.nx σ H
def yAD (t u:TS):TS:=fun D σ H=>t { D with nx:=u D } σ H
theorem yuH:PSs X [] yxB:=fun _ _ σ H _ I h=>wpAny_execs_nil ⟨σ,H,I,h⟩
theorem ylR (h1:PS X st t) (h2:PSs X rest u):PSs X (st::rest) (yAD t u):=by
 intro pins s σ H D I h
 refine wpAny_execs_cons (thn (h1 pins s σ H { D with nx:=u D } I h) fun f s1 q=>?_)
 cases f with
 | next =>
  obtain ⟨σ',H',I',q⟩:=q
  exact h2 pins s1 σ' H' D I' q
 | ret v=>exact q
 | brk=>exact q
 | cont=>exact q
theorem yoa (h1:PS X st t):PSs X [st] t:=by
 intro pins s σ H D I h
 refine wpAny_execs_cons (thn (h1 pins s σ H D I h) fun f s1 q=>?_)
 cases f with
 | next=>exact wpAny_execs_nil q
 | ret v=>exact q
 | brk=>exact q
 | cont=>exact q
theorem Inv.quiet {pins:List (Addr×Obj)}{σ:St}{H:Hp}{s:Shared}(I:Inv X pins σ H s):interactive X.env=false:=by simp [interactive,I.ok.kind]
def yob (te:TE):TS:=fun D σ H=>te σ H fun _ H1=>D.nx σ H1
theorem yhY (he:PE X e te) (hs:swapsWith e none pos.line X.env=pure false:=by rfl):PS X (.Expr e pos) (yob te):=by
 intro pins s σ H D I h
 exact wpAny_Expr_any (thn (he pins s σ H _ I h) fun v s1 ⟨x,H1,I1,r1,q1⟩=>⟨σ,H1,I1,q1⟩) I.quiet hs
def yCH (te:TE):TS:=fun D σ H=>te σ H D.rt
theorem yxC (he:PE X e te):PS X (.Return (some e) pos) (yCH te):=by
 intro pins s σ H D I h
 exact wpAny_Return_some (thn (he pins s σ H _ I h) fun v s1 ⟨x,H1,I1,r1,q1⟩=>⟨x,σ,H1,I1,r1,q1⟩)
def yCI (c:TT) (t u:TS):TS:=fun D σ H=>c σ H fun b H1=>if b=true then t D σ H1 else u D σ H1
theorem yAE {c:Expr}{a b:List Stmt}{tc:TT}(hc:PT X c tc) (ha:PSs X a t) (hb:PSs X b u):PS X (.If c a b pos) (yCI tc t u):=by
 intro pins s σ H D I h
 refine wpAny_If (thn (hc pins s σ H _ I h) fun d s1 ⟨H1,I1,q1⟩=>?_)
 cases d with
 | true=>exact ha pins s1 σ H1 D I1 q1
 | false=>exact hb pins s1 σ H1 D I1 q1
def ytq:TS:=fun _ _ _=>False
theorem yre:PS X st ytq:=fun _ _ _ _ _ _ h=>h.elim
end
abbrev TG:=V->St->Hp->(St->Hp->Prop)->Prop
abbrev TGs:=List V->St->Hp->(St->Hp->Prop)->Prop
def PG (X:Cx) (target:Expr) (t:TG):Prop :=
 ∀ (pins:List (Addr×Obj)) (s:Shared) (σ:St) (H:Hp) (v:V) (u:Value) (Q:St->Hp->Prop),Inv X pins σ H s->RelV v u->t v σ H Q ->
  wpAny (model X.prog X.w) X.A (assign target X.env u) (fun _ s'=>∃ σ' H',Inv X pins σ' H' s'/\Q σ' H') X.xe s
def PGs (X:Cx) (ts:List Expr) (t:TGs):Prop :=
 ∀ (pins:List (Addr×Obj)) (s:Shared) (σ:St) (H:Hp) (vs:List V) (us:List Value) (Q:St->Hp->Prop),Inv X pins σ H s->Vals vs us->t vs σ H Q ->
  wpAny (model X.prog X.w) X.A (assignInOrder ((assignEach ts X.env).map (·.2)) us) (fun _ s'=>∃ σ' H',Inv X pins σ' H' s'/\Q σ' H') X.xe s
abbrev yAF:=V->V->V->Hp->(Hp->Prop)->Prop
def yCJ (X:Cx) (t:yAF):Prop :=
 ∀ (pins:List (Addr×Obj)) (s:Shared) (σ:St) (H:Hp) (o i v:V) (ov iv u:Value) (Q:Hp->Prop),Inv X pins σ H s->RelV o ov->RelV i iv->RelV v u->t o i v H Q ->
  wpAny (model X.prog X.w) X.A (setItem ov iv u) (fun _ s'=>∃ H',Inv X pins σ H' s'/\Q H') X.xe s
section
variable {X:Cx}{pos:Pos}
def ymZ (i:Nat):TG:=fun v σ H Q=>Q (σ.set i (some v)) H
theorem yhZ {i:Nat}{x:Str}(hN:X.N.Nodup) (hi:X.N[i]?=some x) (hx:Loc X.env.scope x) (hf:X.fn x=true\/X.env.scope.names.lookup x=some .local:=by first|exact .inl rfl|exact .inr rfl|assumption):PG X (.Name x pos) (ymZ i):=by
 intro pins s σ H v u Q I r h
 exact wpAny_assign_Name (ylQ I hN hi hx r (fun s' I'=>⟨_,H,I',h⟩) hf)
def yCK:TGs:=fun vs σ H Q=>vs=[]/\Q σ H
def yxD (t:TG) (u:TGs):TGs:=fun vs σ H Q=>∃ v r,vs=v::r/\t v σ H fun σ' H'=>u r σ' H' Q
theorem yuI:PGs X [] yCK:=by
 intro pins s σ H vs us Q I r h
 obtain ⟨e,h⟩:=h
 subst e
 cases r
 exact assignInOrder_nil ⟨σ,H,I,h⟩
theorem yrf {e:Expr}{es:List Expr}{t:TG}{u:TGs}(h1:PG X e t) (h2:PGs X es u)
  (hs:(assignEach (e::es) X.env).map (·.2)=assign e X.env::(assignEach es X.env).map (·.2):=by rfl):PGs X (e::es) (yxD t u):=by
 intro pins s σ H vs us Q I r h
 obtain ⟨v,vr,e1,h⟩:=h
 subst e1
 cases r with
 | cons r rr =>
  rw [hs]
  refine assignInOrder_cons (thn (h1 pins s σ H _ _ _ I r h) fun _ s1 ⟨σ1,H1,I1,q1⟩=>?_)
  exact h2 pins s1 σ1 H1 _ _ Q I1 rr q1
def yCL (K:PySem.W.Frag) (n:Nat) (t:TGs):TG:=fun v σ H Q=>∃ a xs,v=.ref a/\SqT K H a xs/\xs.length=n/\t xs σ H Q
theorem yxE {es:List Expr}{k:Nat}{t:TGs}{n:Nat}(hc:X.calm=true) (h:PGs X es t)
  (hn:(assignEach es X.env).length=n:=by rfl) (hst:(assignEach es X.env).findIdx? (·.1)=none:=by rfl):PG X (.Tuple es k pos) (yCL X.K n t):=by
 intro pins s σ H v u Q I r hw
 obtain ⟨a,xs,e1,hq,hl,hw⟩:=hw
 subst e1
 cases r
 obtain ⟨its,rv,ht,hz⟩:=I.tuple hq
 refine assign_Tuple_tuple (I.ok.hd hc) ht (by simp [hn,<- hl,rv.length]) hst fun h' hx=>?_
 have I1:Inv X pins σ H { s with heap:=h' }:=I.kept (t':=s.toks) fun b o e=>hx b o (ne_of_lt (Heap.lt_size e)) e
 exact h pins _ σ H xs _ Q I1 (by simpa using rv) hw
def yCM (to ti:TE) (t:yAF):TG:=fun v σ H Q=>to σ H fun o H1=>ti σ H1 fun i H2=>t o i v H2 fun H3=>Q σ H3
theorem yxF {o i:Expr}{to ti:TE}{t:yAF}(ho:PE X o to) (hi:PE X i ti) (hs:yCJ X t)
  (ha:∀ v,assign (.Subscript o i pos) X.env v=(do
   let ov <- holding [v] (eval o X.env)
   let iv <- holding [v,ov] (eval i X.env)
   standAt pos
   holding [v,ov,iv] (setItem ov iv v)
   release [v,ov,iv] []):=by intro _;rfl):PG X (.Subscript o i pos) (yCM to ti t):=by
 intro pins s σ H v u Q I r h
 rw [ha]
 refine wpAny_bind (wpAny_holding (thn (ho pins s σ H _ I h) fun ov s1 ⟨x,H1,I1,r1,q1⟩=>?_))
 refine wpAny_bind (wpAny_holding (thn (hi pins s1 σ H1 _ I1 q1) fun iv s2 ⟨y,H2,I2,r2,q2⟩=>?_))
 refine wpAny_bind (wpAny_standAt (wpAny_bind (wpAny_holding (thn (hs pins s2 σ H2 x y v ov iv u _ I2 r1 r2 r q2) fun _ s3 ⟨H3,I3,q3⟩=>?_))))
 exact wpAny_release ⟨σ,H3,I3,q3⟩
def ytr (te:TE) (g:TG):TS:=fun D σ H=>te σ H fun x H1=>g x σ H1 D.nx
theorem yts {tg e:Expr}{te:TE}{g:TG}(he:PE X e te) (hg:PG X tg g) (hs:swapsWithSole [tg] e pos.line X.env=pure false:=by rfl) (hw:swappedStores [tg] e X.env=pure none:=by rfl)
  (h1:(assignEach [tg] X.env).map (·.2)=[assign tg X.env]:=by rfl):PS X (.Assign [tg] e pos) (ytr te g):=by
 intro pins s σ H D I h
 refine wpAny_Assign_stores (thn (he pins s σ H _ I h) fun v s1 ⟨x,H1,I1,r1,q1⟩=>?_) hs hw
 rw [h1]
 exact thn (hg pins s1 σ H1 x v _ I1 r1 q1) fun _ s2 q=>q
theorem ytt {i:Nat}{x:Str}{e:Expr}{te:TE}{pos':Pos}(hN:X.N.Nodup) (hi:X.N[i]?=some x) (hx:Loc X.env.scope x) (he:PE X e te) (hs:swapsWith e (some (.Name x pos')) pos.line X.env=pure false:=by rfl) (hf:X.fn x=true\/X.env.scope.names.lookup x=some .local:=by first|exact .inl rfl|exact .inr rfl|assumption) :
  PS X (.Assign [.Name x pos'] e pos) (ytr te (ymZ i)):=by
 intro pins s σ H D I h
 refine wpAny_Assign_Name (thn (he pins s σ H _ I h) fun v s1 ⟨y,H1,I1,r1,q1⟩=>?_) hs
 exact ylQ I1 hN hi hx r1 (fun s2 I2=>⟨_,H1,I2,q1⟩) hf
end
section
variable {X:Cx}{pos:Pos}
noncomputable def ytu (c:TT) (tb:TS):TS:=fun D σ H=>∃ W:Nat->St->Hp->Prop,(∃ m,W m σ H)/\∀ m σ H,W m σ H ->
 c σ H fun b H1=>if b=true then ∃ N:St->Hp->Prop,(∀ σ' H',N σ' H'->∃ m',m'<m/\W m' σ' H')/\tb { D with nx:=N,ct:=N,bk:=D.nx } σ H1 else D.nx σ H1
theorem yrg {c:Expr}{body:List Stmt}{tc:TT}{tb:TS}(hp:PassesOwn (model X.prog X.w) X.A X.env X.xe) (hc:PT X c tc) (hb:PSs X body tb):PS X (.While c body [] pos) (ytu tc tb):=by
 intro pins s σ H D I h
 obtain ⟨W,⟨m0,w0⟩,turn⟩:=h
 refine wpAny_While (codeAny_whileLoop (fun n s'=>∃ σ' H',Inv X pins σ' H' s'/\W n σ' H') ?_ m0 ⟨σ,H,I,w0⟩)
 rintro n s1 ⟨σ1,H1,I1,w1⟩
 refine wpAny_passesOwn hp (thn (hc pins s1 σ1 H1 _ I1 (turn n σ1 H1 w1)) fun b s2 ⟨H2,I2,q2⟩=>?_)
 cases b with
 | true =>
  obtain ⟨N,hN,q2⟩:=q2
  rw [if_pos rfl]
  refine wpAny_passesOwn hp (thn (hb pins s2 σ1 H2 _ I2 q2) fun f s3 q3=>?_)
  cases f with
  | next =>
   obtain ⟨σ3,H3,I3,n3⟩:=q3
   obtain ⟨m',hm,w3⟩:=hN σ3 H3 n3
   exact ⟨m',hm,σ3,H3,I3,w3⟩
  | cont =>
   obtain ⟨σ3,H3,I3,n3⟩:=q3
   obtain ⟨m',hm,w3⟩:=hN σ3 H3 n3
   exact ⟨m',hm,σ3,H3,I3,w3⟩
  | brk=>exact q3
  | ret v=>exact q3
 | false =>
  rw [if_neg Bool.false_ne_true]
  exact wpAny_execs_nil ⟨σ1,H2,I2,q2⟩
end
structure It where
 go:Nat->Hp->Prop
 yld:Nat->Hp->V->Hp->Prop
 stop:Nat->Hp->Prop
noncomputable def yna (X:Cx) (pins:List (Addr×Obj)) (H:Hp) (b:Addr):Prop :=
 H b=none/\b≠X.env.locals/\b∉X.fs/\(b∈X.ex\/X.s₀.heap.objs.size<=b)/\(∀ x c,X.env.cells.lookup x=some c->c≠b)/\∀ p∈X.pn++pins,p.1≠b
theorem Inv.fpOk {X:Cx}{pins:List (Addr×Obj)}{σ:St}{H H':Hp}{s:Shared}{b:Addr}(I:Inv X pins σ H s) (hb:s.heap.objs.size<=b) (hn:H' b=none):yna X pins H' b:=by
 refine ⟨hn,Nat.ne_of_gt (lt_of_lt_of_le I.lt hb),I.nofs hb,.inr (Nat.le_trans I.sz hb),fun x c e z=>?_,fun p hp z=>?_⟩
 .obtain ⟨v,q⟩:=I.cell x c e
  exact absurd (lt_of_lt_of_le q.lt (by rw [z];exact hb)) (lt_irrefl _)
 .exact absurd (lt_of_lt_of_le (Heap.lt_size (I.pin p hp).1) (by rw [z];exact hb)) (lt_irrefl _)
structure Turn (P:Program) (w:World) (K:PySem.W.Frag) (tg:Expr) (J:It) (fp:List Addr) (it:Addr) (tn:Nat->Heap->Prop):Prop where
 mem:it∈fp
 obj:∀ i h,tn i h->∀ b∈fp,∃ o,h.get? b=some o/\∀ v,o.data≠.cell v
 keep:∀ i h h',tn i h->(∀ b∈fp,∀ o,h.get? b=some o->h'.get? b=some o)->tn i h'
 item:∀ (X:Cx),X.prog=P->X.w=w->X.K=K->X.calm=true->∀ (i:Nat) (pins:List (Addr×Obj)) (s:Shared) (σ:St) (H:Hp) (E:Value->Shared->Prop),Inv X pins σ H s->(∀ b∈fp,yna X pins H b)->tn i s.heap->J.go i H ->
  wpAny (model P w) X.A (pyNext (.ref it)) (fun r s1=>∃ u,r=some u /\
   wpAny (model P w) X.A (letOwnedTupleGo tg (.ref it) u) (fun _ s2=>∃ x H',Inv X pins σ H' s2/\RelV x u/\J.yld i H x H'/\tn (i+1) s2.heap/\∀ b∈fp,H' b=none) E s1) E s
 done:∀ (X:Cx),X.prog=P->X.w=w->X.K=K->X.calm=true->∀ (i:Nat) (pins:List (Addr×Obj)) (s:Shared) (σ:St) (H:Hp) (E:Value->Shared->Prop),Inv X pins σ H s->(∀ b∈fp,yna X pins H b)->tn i s.heap->J.stop i H ->
  wpAny (model P w) X.A (pyNext (.ref it)) (fun r s1=>r=none/\Inv X pins σ H s1) E s
 self:∀ (A:Around) (i:Nat) (s:Shared) (Q:Value->Shared->Prop) (E:Value->Shared->Prop),tn i s.heap->Q (.ref it) s->wpAny (model P w) A (pyIter (.ref it)) Q E s
abbrev TI:=St->Hp->(It->Hp->Prop)->Prop
def PIE (X:Cx) (pins:List (Addr×Obj)) (σ:St) (tg:Expr) (R:It->Hp->Prop) (itv:Value) (s2:Shared):Prop :=
 ∃ (it:Addr) (fp:List Addr) (tn:Nat->Heap->Prop) (J:It) (H':Hp),itv=.ref it/\Inv X pins σ H' s2/\Turn X.prog X.w X.K tg J fp it tn/\tn 0 s2.heap/\(∀ b∈fp,yna X pins H' b)/\R J H'
def PI (X:Cx) (tg iter:Expr) (wi:TI):Prop :=
 ∀ (pins:List (Addr×Obj)) (s:Shared) (σ:St) (H:Hp) (R:It->Hp->Prop),Inv X pins σ H s->wi σ H R ->
  wpAny (model X.prog X.w) X.A (eval iter X.env) (fun v s1=>wpAny (model X.prog X.w) X.A (pyIter v) (PIE X pins σ tg R) X.xe s1) X.xe s
theorem ynb {M:Model}{A:Around}{E:Value->Shared->Prop}{s:Shared}{tg:Expr}{it:Addr}{u:Value}{o:Obj}{n:String}{vs:Array Value}{Q:Unit->Shared->Prop}(ho:s.heap.get? it=some o) (hc:o.cls=.type n) (hd:o.data=.fields vs)
    (hn:["enumerate","zip","dict_itemiterator","dict_reverseitemiterator","odict_iterator","itertools.zip_longest","itertools.pairwise"].contains n=false) (hQ:Q () s):wpAny M A (letOwnedTupleGo tg (.ref it) u) Q E s:=by
  unfold letOwnedTupleGo
  cases tg<;>first
    | exact wpAny_pure hQ
    | (cases u<;>first
        | exact wpAny_pure hQ
        | (refine wpAny_bind (wpAny_load ho ?_)
           rw [hc,hd]
           show wpAny M A (if (["enumerate","zip","dict_itemiterator","dict_reverseitemiterator","odict_iterator","itertools.zip_longest","itertools.pairwise"].contains n && vs[0]? == some (rawInt _))=true then _ else _) Q E s
           rw [if_neg (by intro h;rw [hn,Bool.false_and] at h;cases h)]
           exact wpAny_pure hQ))
def Itl (K:PySem.W.Frag) (a:Addr):It :=
 ⟨fun i H=>∃ xs x,SqL K H a xs/\xs[i]?=some x,fun i H x H'=>H'=H/\∀ xs,SqL K H a xs->xs[i]?=some x,fun i H=>∃ xs,SqL K H a xs/\xs.length<=i⟩
def Itt (K:PySem.W.Frag) (a:Addr):It :=
 ⟨fun i H=>∃ xs x,SqT K H a xs/\xs[i]?=some x,fun i H x H'=>H'=H/\∀ xs,SqT K H a xs->xs[i]?=some x,fun i H=>∃ xs,SqT K H a xs/\xs.length<=i⟩
def Itr (lo:Int) (n:Nat):It:=⟨fun i _=>i<n,fun i H x H'=>H'=H/\x=.int (lo+i),fun i _=>n<=i⟩
theorem yoc {P:Program}{w:World}{K:PySem.W.Frag}{tg:Expr}(a it:Addr):Turn P w K tg (Itl K a) [it] it (fun i h=>h.IsListIter it a i) where
 mem:=by simp
 obj:=fun i h st b hb=>by
  have e:b=it:=by simpa using hb
  subst e
  obtain ⟨o,e,c,d⟩:=st
  exact ⟨o,e,fun v z=>by rw [d] at z;cases z⟩
 keep:=fun i h h' st k=>st.at fun o e=>k it (by simp) o e
 item:=by
  intro X hP hw hK hc i pins s σ H E I hf st hg
  subst hP hw hK
  obtain ⟨xs,x,hq,hx⟩:=hg
  obtain ⟨its,rv,p,hz⟩:=I.list hq
  obtain ⟨u,hu,ru⟩:=rv.get hx
  obtain ⟨f0,f1,f2,f3,f4,f5⟩:=hf it (by simp)
  refine wpAny_pyNext_list_item st p.isList (x:=u) (by simpa using hu) fun h' st' sb=>?_
  have I1:Inv X pins σ H { s with heap:=h' }:=I.turned (t':=s.toks) (fun b o hb e=>(sb.2 b hb).trans e) f0 f1 f3 f4 f5
  obtain ⟨o,e,c,d⟩:=id st'
  exact ⟨u,rfl,ynb (s:={ s with heap:=h' }) e c d (by decide) ⟨x,H,I1,ru,⟨rfl,fun ys hy=>by rw [I.list_inj hy hq];exact hx⟩,st',fun b hb=>(hf b hb).1⟩⟩
 done:=by
  intro X hP hw hK hc i pins s σ H E I hf st hg
  subst hP hw hK
  obtain ⟨xs,hq,hx⟩:=hg
  obtain ⟨its,rv,p,hz⟩:=I.list hq
  obtain ⟨f0,f1,f2,f3,f4,f5⟩:=hf it (by simp)
  have hl:=rv.length
  exact wpAny_pyNext_list_end (I.ok.hd hc) st p.isList (by simp;omega) fun h' eb=>⟨rfl,I.turned (t':=s.toks) (fun b o hb e=>eb b o hb e) f0 f1 f3 f4 f5⟩
 self:=fun _ _ _ _ _ st h=>wpAny_pyIter_listiter st h
theorem ync {P:Program}{w:World}{K:PySem.W.Frag}{tg:Expr}(a it:Addr):Turn P w K tg (Itt K a) [it] it (fun i h=>h.IsTupleIter it a i) where
 mem:=by simp
 obj:=fun i h st b hb=>by
  have e:b=it:=by simpa using hb
  subst e
  obtain ⟨o,e,c,d⟩:=st
  exact ⟨o,e,fun v z=>by rw [d] at z;cases z⟩
 keep:=fun i h h' st k=>st.at fun o e=>k it (by simp) o e
 item:=by
  intro X hP hw hK hc i pins s σ H E I hf st hg
  subst hP hw hK
  obtain ⟨xs,x,hq,hx⟩:=hg
  obtain ⟨its,rv,p,hz⟩:=I.tuple hq
  obtain ⟨u,hu,ru⟩:=rv.get hx
  obtain ⟨f0,f1,f2,f3,f4,f5⟩:=hf it (by simp)
  refine wpAny_pyNext_tuple_item st (show s.heap.IsTuple a its.toArray from p) (x:=u) (by simpa using hu) fun h' st' sb=>?_
  have I1:Inv X pins σ H { s with heap:=h' }:=I.turned (t':=s.toks) (fun b o hb e=>(sb.2 b hb).trans e) f0 f1 f3 f4 f5
  obtain ⟨o,e,c,d⟩:=id st'
  exact ⟨u,rfl,ynb (s:={ s with heap:=h' }) e c d (by decide) ⟨x,H,I1,ru,⟨rfl,fun ys hy=>by rw [I.tuple_inj hy hq];exact hx⟩,st',fun b hb=>(hf b hb).1⟩⟩
 done:=by
  intro X hP hw hK hc i pins s σ H E I hf st hg
  subst hP hw hK
  obtain ⟨xs,hq,hx⟩:=hg
  obtain ⟨its,rv,p,hz⟩:=I.tuple hq
  obtain ⟨f0,f1,f2,f3,f4,f5⟩:=hf it (by simp)
  have hl:=rv.length
  exact wpAny_pyNext_tuple_end (I.ok.hd hc) st (show s.heap.IsTuple a its.toArray from p) (by simp;omega) fun h' eb=>⟨rfl,I.turned (t':=s.toks) (fun b o hb e=>eb b o hb e) f0 f1 f3 f4 f5⟩
 self:=fun _ _ _ _ _ st h=>wpAny_pyIter_tupleiter st h
theorem ynd {P:Program}{w:World}{K:PySem.W.Frag}{tg:Expr}(it:Addr) (lo:Int) (n:Nat):Turn P w K tg (Itr lo n) [it] it (fun i h=>IsRangeIter h it (lo+(i:Nat)*1) ((n:Int)-(i:Nat)) 1) where
 mem:=by simp
 obj:=fun i h st b hb=>by
  have e:b=it:=by simpa using hb
  subst e
  exact ⟨_,st,fun v z=>by
   have z':Data.fields _=Data.cell v:=z
   cases z'⟩
 keep:=fun i h h' st k=>k it (by simp) _ st
 item:=by
  intro X hP hw hK hc i pins s σ H E I hf st hg
  subst hP hw hK
  obtain ⟨f0,f1,f2,f3,f4,f5⟩:=hf it (by simp)
  have W:=Walks.range (prog:=X.prog) (w:=X.w) (I.ok.hd hc) it lo 1 n
  refine W.item i s _ _ hg st fun v h' tk hv st' kk=>?_
  obtain ⟨t,rfl⟩:=hv
  have I1:Inv X pins σ H { s with heap:=h',toks:=tk }:=I.turned (fun b o hb e=>kk b o (by simpa using hb) e) f0 f1 f3 f4 f5
  refine ⟨_,rfl,ynb (s:={ s with heap:=h',toks:=tk }) (n:="range_iterator") st' rfl rfl (by decide) ⟨.int (lo+i),H,I1,⟨t,?_⟩,⟨rfl,rfl⟩,st',fun b hb=>(hf b hb).1⟩⟩
  rw [Int.mul_one]
 done:=by
  intro X hP hw hK hc i pins s σ H E I hf st hg
  subst hP hw hK
  obtain ⟨f0,f1,f2,f3,f4,f5⟩:=hf it (by simp)
  exact wpAny_pyNext_range_end (I.ok.hd hc) st (by have:n<=i:=hg;omega) fun h' eb=>⟨rfl,I.turned (t':=s.toks) (fun b o hb e=>eb b o hb e) f0 f1 f3 f4 f5⟩
 self:=fun _ _ _ _ _ st h=>wpAny_pyIter_rangeiter st h
end L2
namespace L2
open PySem PySem.Spec PyProof.Rows
section
variable {X:Cx}{tg:Expr}
def yuJ (K:PySem.W.Frag) (tl:TE):TI:=fun σ H R=>tl σ H fun x H1=>∃ a,x=.ref a/\(∃ xs,SqL K H1 a xs)/\R (Itl K a) H1
def yCN (K:PySem.W.Frag) (tl:TE):TI:=fun σ H R=>tl σ H fun x H1=>∃ a,x=.ref a/\(∃ xs,SqT K H1 a xs)/\R (Itt K a) H1
theorem yod {l:Expr}{tl:TE}(hl:PE X l tl):PI X tg l (yuJ X.K tl):=by
 intro pins s σ H R I h
 refine thn (hl pins s σ H _ I h) fun v s1 ⟨x,H1,I1,r1,q1⟩=>?_
 obtain ⟨a,e,⟨xs,hq⟩,q⟩:=q1
 subst e
 cases r1
 obtain ⟨its,rv,p,hz⟩:=I1.list hq
 refine wpAny_pyIter_list p.isList ?_
 refine ⟨s1.heap.objs.size,[s1.heap.objs.size],_,_,H1,rfl,I1.kept (t':=s1.toks) fun b o e=>Heap.get?_push_of_some _ e,yoc a _,⟨_,Heap.get?_push_size _ rfl,rfl,rfl⟩,fun b hb=>?_,q⟩
 have e:b=s1.heap.objs.size:=by simpa using hb
 subst e
 exact I1.fpOk (Nat.le_refl _) (I1.hok.fresh (Nat.le_refl _))
theorem yxG {l:Expr}{tl:TE}(hl:PE X l tl):PI X tg l (yCN X.K tl):=by
 intro pins s σ H R I h
 refine thn (hl pins s σ H _ I h) fun v s1 ⟨x,H1,I1,r1,q1⟩=>?_
 obtain ⟨a,e,⟨xs,hq⟩,q⟩:=q1
 subst e
 cases r1
 obtain ⟨its,rv,p,hz⟩:=I1.tuple hq
 refine wpAny_pyIter_tuple (show s1.heap.IsTuple a its.toArray from p) ?_
 refine ⟨s1.heap.objs.size,[s1.heap.objs.size],_,_,H1,rfl,I1.kept (t':=s1.toks) fun b o e=>Heap.get?_push_of_some _ e,ync a _,⟨_,Heap.get?_push_size _ rfl,rfl,rfl⟩,fun b hb=>?_,q⟩
 have e:b=s1.heap.objs.size:=by simpa using hb
 subst e
 exact I1.fpOk (Nat.le_refl _) (I1.hok.fresh (Nat.le_refl _))
theorem yrh {pins:List (Addr×Obj)}{σ:St}{H:Hp}{s:Shared}{R:It->Hp->Prop}{E:Value->Shared->Prop}{lo hi:Int}{t u v:Tok}{tk:Nat}(I:Inv X pins σ H s) (h1:-(2 ^ 62)<=lo) (h2:lo<2 ^ 62) (h3:-(2 ^ 62)<=hi) (h4:hi<2 ^ 62)
  (q:R (Itr lo (hi-lo).toNat) H):wpAny (model X.prog X.w) X.A (pyIter (.ref s.heap.objs.size)) (PIE X pins σ tg R) E { s with heap:=s.heap.push { cls:=.type "range",data:=.fields #[.int lo t,.int hi u,.int 1 v] },toks:=tk }:=by
 refine wpAny_pyIter_range (IsRange.new ..) (small_one h1 h2 h3 h4) ?_
 have I1:Inv X pins σ H { s with heap:=s.heap.push { cls:=.type "range",data:=.fields #[.int lo t,.int hi u,.int 1 v] },toks:=tk }:=I.kept fun b o e=>Heap.get?_push_of_some _ e
 refine ⟨(s.heap.push { cls:=.type "range",data:=.fields #[.int lo t,.int hi u,.int 1 v] }).objs.size,[(s.heap.push { cls:=.type "range",data:=.fields #[.int lo t,.int hi u,.int 1 v] }).objs.size],_,_,H,rfl,
  I1.kept (t':=tk) fun b o e=>Heap.get?_push_of_some _ e,ynd _ lo (hi-lo).toNat,?_,fun b hb=>?_,q⟩
 .have e1:lo+((0:Nat):Int)*1=lo:=by simp
  have e2:(((hi-lo).toNat:Nat):Int)-((0:Nat):Int)=Builtin.Range.rangeSize lo hi 1:=by rw [rangeSize_one];split<;>omega
  show IsRangeIter _ _ (lo+((0:Nat):Int)*1) ((((hi-lo).toNat:Nat):Int)-((0:Nat):Int)) 1
  rw [e1,e2]
  exact Heap.get?_push_size _ rfl
 .have e:b=(s.heap.push { cls:=.type "range",data:=.fields #[.int lo t,.int hi u,.int 1 v] }).objs.size:=by simpa using hb
  subst e
  exact I1.fpOk (Nat.le_refl _) (I1.hok.fresh (Nat.le_refl _))
def yxH (ta:TA):TI:=fun σ H R=>ta σ H fun vs H1=>∃ j:Int,vs=[.int j]/\-(2 ^ 62)<=j/\j<2 ^ 62/\R (Itr 0 j.toNat) H1
theorem yoe {a:Expr}{ta:TA}{p pos:Pos}(hg:Gl X "range") (hm:X.mg "range" = none) (ha:PA X [a] ta) (hs:starEach [a] X.env=[(false,eval a X.env)]:=by rfl):PI X tg (.Call (.Name "range" p) [a] [] pos) (yxH ta):=by
 intro pins s σ H R I h
 refine Call_ (yiU I hg hm boot_range (PyProof.Rows.callWith_type1 (thn (ha pos pins s σ H _ I h) fun us s1 ⟨vs,H1,I1,r1,q1⟩=>?_) hs rfl))
 obtain ⟨j,e,q1,q2,q⟩:=q1
 subst e
 cases r1 with
 | cons r rr =>
  cases rr
  obtain ⟨t,rfl⟩:=r
  exact call_range_1 (yrh I1 (by omega) (by omega) q1 q2 (by simpa using q))
noncomputable def yxI (wi:TI) (g:TG) (tb:TS):TS:=fun D σ H=>wi σ H fun J H1=>∃ W:Nat->Nat->St->Hp->Prop,(∃ m,W 0 m σ H1)/\∀ i m σ H,W i m σ H ->
 (J.stop i H/\D.nx σ H)\/(J.go i H/\∃ N:St->Hp->Prop,(∀ σ' H',N σ' H'->∃ m',m'<m/\W (i+1) m' σ' H')/\∀ x H',J.yld i H x H'->g x σ H' fun σ2 H2=>tb { D with nx:=N,ct:=N,bk:=D.nx } σ2 H2)
def ylS (fp:List Addr) (h:Heap):List (Addr×Obj):=fp.filterMap fun b=>(h.get? b).map fun o=>(b,o)
theorem yby {fp:List Addr}{h:Heap}{b:Addr}{o:Obj}(hb:b∈fp) (e:h.get? b=some o):(b,o)∈ylS fp h:=List.mem_filterMap.mpr ⟨b,hb,by rw [e];rfl⟩
theorem yof {fp:List Addr}{h:Heap}{p:Addr×Obj}(hp:p∈ylS fp h):p.1∈fp/\h.get? p.1=some p.2:=by
 obtain ⟨b,hb,e⟩:=List.mem_filterMap.mp hp
 cases q:h.get? b with
 | none=>rw [q] at e;cases e
 | some o =>
  rw [q] at e
  have e':(b,o)=p:=Option.some.inj e
  subst e'
  exact ⟨hb,q⟩
theorem Inv.pinned {pins:List (Addr×Obj)}{σ:St}{H:Hp}{s:Shared}{fp:List Addr}(I:Inv X pins σ H s) (hf:∀ b∈fp,yna X pins H b) (ho:∀ b∈fp,∃ o,s.heap.get? b=some o/\∀ v,o.data≠.cell v):Inv X (pins++ylS fp s.heap) σ H s :=
 I.pins_of fun p hp=>(List.mem_append.mp hp).elim (fun z=>I.pin p (mem_append_right _ z)) fun z=>by
  obtain ⟨hb,e⟩:=yof z
  obtain ⟨f0,f1,f2,_⟩:=hf p.1 hb
  obtain ⟨o,e',d⟩:=ho p.1 hb
  rw [e] at e';cases e'
  exact ⟨e,f0,f1,f2,d⟩
theorem Inv.unpinned {pins pl:List (Addr×Obj)}{σ:St}{H:Hp}{s:Shared}(I:Inv X (pins++pl) σ H s):Inv X pins σ H s:=I.pins_of fun p hp=>I.pin p (mem_append_right _ (mem_append_left _ hp))
theorem ylT {iter:Expr}{body:List Stmt}{wi:TI}{g:TG}{tb:TS}{pos:Pos}(hp:PassesOwn (model X.prog X.w) X.A X.env X.xe) (hc:X.calm=true) (hi:PI X tg iter wi) (hg:PG X tg g) (hb:PSs X body tb)
  (hs:∀ x,foldedSetIterable iter X.env x=pure x:=by intro _;rfl):PS X (.For tg iter body [] pos) (yxI wi g tb):=by
 intro pins s σ H D I h
 refine wpAny_For (thn (hi pins s σ H _ I h) fun v s1 h1=>thn h1 fun itv s2 h2=>?_) hs
 obtain ⟨it,fp,tn,J,H2,e,I2,T,st2,f2,W,⟨m0,w0⟩,turn⟩:=h2
 subst e
 have stat:∀ {H':Hp},(∀ b∈fp,H' b=none)->∀ b∈fp,yna X pins H' b:=fun hn b hb=>⟨hn b hb,(f2 b hb).2⟩
 refine codeAny_forLoop_any (fun n s'=>∃ i σ' H',Inv X pins σ' H' s'/\tn i s'.heap/\(∀ b∈fp,H' b=none)/\W i n σ' H') ?_ m0 ⟨0,σ,H2,I2,st2,fun b hb=>(f2 b hb).1,w0⟩
 rintro n s3 ⟨i,σ3,H3,I3,st3,fr3,w3⟩
 rcases turn i n σ3 H3 w3 with ⟨stop,qn⟩|⟨go,N,hN,step⟩
 .refine wpAny_passesOwn hp (thn (T.done X rfl rfl rfl hc i pins s3 σ3 H3 X.xe I3 (stat fr3) st3 stop) fun r s4 ⟨hr,I4⟩=>?_)
  subst hr
  exact wpAny_execs_nil ⟨σ3,H3,I4,qn⟩
 .refine wpAny_passesOwn hp (thn (T.item X rfl rfl rfl hc i pins s3 σ3 H3 X.xe I3 (stat fr3) st3 go) fun r s4 ⟨u,hr,h4⟩=>?_)
  subst hr
  refine wpAny_passesOwn hp (thn h4 fun _ s5 ⟨x,H5,I5,r5,y5,st5,fr5⟩=>?_)
  have I5':=I5.pinned (stat fr5) (T.obj _ _ st5)
  refine wpAny_passesOwn hp (thn (hg _ s5 σ3 H5 x u _ I5' r5 (step x H5 y5)) fun _ s6 ⟨σ6,H6,I6,q6⟩=>?_)
  refine wpAny_passesOwn hp (thn (hb _ s6 σ6 H6 _ I6 q6) fun f s7 q7=>?_)
  have again:∀ {σ7:St}{H7:Hp},Inv X (pins++ylS fp s5.heap) σ7 H7 s7->N σ7 H7->∃ m,m<n/\∃ i σ' H',Inv X pins σ' H' s7/\tn i s7.heap/\(∀ b∈fp,H' b=none)/\W i m σ' H':=fun {σ7 H7} I7 n7=>by
   obtain ⟨m',hm,w7⟩:=hN σ7 H7 n7
   refine ⟨m',hm,i+1,σ7,H7,I7.unpinned,T.keep _ _ _ st5 fun b hb o e=>(I7.pin (b,o) (mem_append_right _ (mem_append_right _ (yby hb e)))).1,fun b hb=>?_,w7⟩
   obtain ⟨o,e,d⟩:=T.obj _ _ st5 b hb
   exact (I7.pin (b,o) (mem_append_right _ (mem_append_right _ (yby hb e)))).2.1
  cases f with
  | next=>obtain ⟨σ7,H7,I7,n7⟩:=q7;exact again I7 n7
  | cont=>obtain ⟨σ7,H7,I7,n7⟩:=q7;exact again I7 n7
  | brk=>obtain ⟨σ7,H7,I7,q7⟩:=q7;exact ⟨σ7,H7,I7.unpinned,q7⟩
  | ret v=>obtain ⟨x7,σ7,H7,I7,r7,q7⟩:=q7;exact ⟨x7,σ7,H7,I7.unpinned,r7,q7⟩
end
end L2
namespace L2
open PySem PySem.Spec PyProof.Rows
abbrev R2:=V->V->Hp->VK->Prop
def OpR (X:Cx) (f:Value->Value->Sem Value) (r:R2):Prop :=
 ∀ (pins:List (Addr×Obj)) (s:Shared) (σ:St) (H:Hp) (x y:V) (v u:Value) (Q:VK),Inv X pins σ H s->RelV x v->RelV y u->r x y H Q ->
  wpAny (model X.prog X.w) X.A (f v u) (EP X pins σ Q) X.xe s
def UnR (X:Cx) (f:Value->Sem Value) (r:V->Hp->VK->Prop):Prop :=
 ∀ (pins:List (Addr×Obj)) (s:Shared) (σ:St) (H:Hp) (x:V) (v:Value) (Q:VK),Inv X pins σ H s->RelV x v->r x H Q ->
  wpAny (model X.prog X.w) X.A (f v) (EP X pins σ Q) X.xe s
def CallR (X:Cx) (f:Value) (r:List V->Hp->VK->Prop):Prop :=
 ∀ (pins:List (Addr×Obj)) (s:Shared) (σ:St) (H:Hp) (xs:List V) (us:List Value) (Q:VK),Inv X pins σ H s->Vals xs us->r xs H Q ->
  wpAny (model X.prog X.w) X.A (call f us) (EP X pins σ Q) X.xe s
def tOp (r:R2) (ta tb:TE):TE:=fun σ H Q=>ta σ H fun x H1=>tb σ H1 fun y H2=>r x y H2 Q
def tUn (r:V->Hp->VK->Prop) (ta:TE):TE:=fun σ H Q=>ta σ H fun x H1=>r x H1 Q
def rI (C:Int->Int->Prop) (g:Int->Int->V):R2:=fun x y H Q=>∃ i j,x=.int i/\y=.int j/\C i j/\Q (g i j) H
def rI0 (g:Int->Int->V):R2:=fun x y H Q=>∃ i j,x=.int i/\y=.int j/\Q (g i j) H
def rU (g:Int->V):V->Hp->VK->Prop:=fun x H Q=>∃ i,x=.int i/\Q (g i) H
section
variable {X:Cx}{a b c:Expr}{ta tb tc:TE}{pos:Pos}
theorem yAG (ha:PE X a ta) (hb:PE X b tb) {pins:List (Addr×Obj)}{s:Shared}{σ:St}{H:Hp}{R:V->V->Hp->Prop}(I:Inv X pins σ H s)
  (h:ta σ H fun x H1=>tb σ H1 fun y H2=>R x y H2) {Q:Value->Shared->Prop}{f:Value->Value->Sem Value}
  (hf:∀ v u s2 x y H2,Inv X pins σ H2 s2->RelV x v->RelV y u->R x y H2->wpAny (model X.prog X.w) X.A (f v u) Q X.xe s2) :
  wpAny (model X.prog X.w) X.A (eval a X.env) (fun v s₁=>wpAny (model X.prog X.w) X.A (eval b X.env) (fun u s₂=>wpAny (model X.prog X.w) X.A (f v u) Q X.xe s₂) X.xe s₁) X.xe s:=by
 refine thn (ha pins s σ H _ I h) fun v s1 ⟨x,H1,I1,r1,q1⟩=>?_
 refine thn (hb pins s1 σ H1 _ I1 q1) fun u s2 ⟨y,H2,I2,r2,q2⟩=>?_
 exact hf v u s2 x y H2 I2 r1 r2 q2
theorem yxJ {op:Operator}{r:R2}(ho:OpR X (binaryOp op) r) (ha:PE X a ta) (hb:PE X b tb):PE X (.BinOp a op b pos) (tOp r ta tb):=by
 intro pins s σ H Q I h
 exact wpAny_BinOp (yAG ha hb I h fun v u s2 x y H2 I2 rx ry q=>ho pins s2 σ H2 x y v u Q I2 rx ry q)
theorem yAH {op:UnaryOp}{r:V->Hp->VK->Prop}(ho:UnR X (unaryOp op) r) (ha:PE X a ta):PE X (.UnaryOp op a pos) (tUn r ta):=by
 intro pins s σ H Q I h
 exact UnaryOp_ (thn (ha pins s σ H _ I h) fun v s1 ⟨x,H1,I1,r1,q1⟩=>ho pins s1 σ H1 x v Q I1 r1 q1)
theorem opI {f:Value->Value->Sem Value}{C:Int->Int->Prop}{g:Int->Int->Int}
  (rule:∀ (i j:Int) (t u:Tok) (s:Shared) (Q:Value->Shared->Prop) (E:Value->Shared->Prop),C i j->Q (.int (g i j) s.toks) { s with toks:=s.toks+1 }->wpAny (model X.prog X.w) X.A (f (.int i t) (.int j u)) Q E s) :
  OpR X f (rI C fun i j=>.int (g i j)):=by
 intro pins s σ H x y v u Q I rx ry h
 obtain ⟨i,j,rfl,rfl,hc,q⟩:=h
 obtain ⟨t,rfl⟩:=rx
 obtain ⟨t',rfl⟩:=ry
 exact rule i j t t' s _ _ hc ⟨.int (g i j),H,I.tok _,⟨_,rfl⟩,q⟩
theorem yCO {f:Value->Value->Sem Value}{g:Int->Int->Int}
  (rule:∀ (i j:Int) (t u:Tok) (s:Shared) (Q:Value->Shared->Prop) (E:Value->Shared->Prop),Q (.int (g i j) s.toks) { s with toks:=s.toks+1 }->wpAny (model X.prog X.w) X.A (f (.int i t) (.int j u)) Q E s) :
  OpR X f (rI0 fun i j=>.int (g i j)):=by
 intro pins s σ H x y v u Q I rx ry h
 obtain ⟨i,j,rfl,rfl,q⟩:=h
 obtain ⟨t,rfl⟩:=rx
 obtain ⟨t',rfl⟩:=ry
 exact rule i j t t' s _ _ ⟨.int (g i j),H,I.tok _,⟨_,rfl⟩,q⟩
theorem yAI {f:Value->Value->Sem Value}{g:Int->Int->Bool}
  (rule:∀ (i j:Int) (t u:Tok) (s:Shared) (Q:Value->Shared->Prop) (E:Value->Shared->Prop),Q (.bool (g i j)) s->wpAny (model X.prog X.w) X.A (f (.int i t) (.int j u)) Q E s) :
  OpR X f (rI0 fun i j=>.bl (g i j)):=by
 intro pins s σ H x y v u Q I rx ry h
 obtain ⟨i,j,rfl,rfl,q⟩:=h
 obtain ⟨t,rfl⟩:=rx
 obtain ⟨t',rfl⟩:=ry
 exact rule i j t t' s _ _ ⟨.bl (g i j),H,I,rfl,q⟩
def yCP (i j:Int):Prop:=0<j/\j<1073741824
def yAJ (i j:Int):Prop:=0<=j/\j<=1000000/\i.natAbs<2 ^ 64
def CMul (i j:Int):Prop:=(-(2 ^ 64)<i/\i<2 ^ 64)\/(-(2 ^ 64)<j/\j<2 ^ 64)
theorem CMul.ok {i j:Int}(h:CMul i j):IntMulOk i j:=by
 rcases h with ⟨h1,h2⟩|⟨h1,h2⟩
 .exact .of_left (intBits_le_64 h1 h2)
 .exact .of_right (intBits_le_64 h1 h2)
theorem ydv:OpR X (binaryOp .Add) (rI0 fun i j=>.int (i+j)):=yCO fun _ _ _ _ _ _ _ q=>add_int q
theorem ylU:OpR X (binaryOp .Sub) (rI0 fun i j=>.int (i-j)):=yCO fun _ _ _ _ _ _ _ q=>sub_int q
theorem yiV:OpR X (binaryOp .Mult) (rI CMul fun i j=>.int (i*j)):=opI fun _ _ _ _ _ _ _ hc q=>mul_int q hc.ok
theorem yfD:OpR X (binaryOp .FloorDiv) (rI yCP fun i j=>.int (i/j)):=opI fun i j _ _ _ _ _ hc q=>by
 have h1:(0:Int)<j:=hc.1
 have h2:j<1073741824:=hc.2
 exact floordiv_int (by omega) (by rw [Int.fdiv_eq_ediv_of_nonneg i (by omega)];exact q) (.inl (PyProof.noPylong_small (by omega)))
theorem ybI:OpR X (binaryOp .Mod) (rI (fun _ j=>0<j) fun i j=>.int (i%j)):=opI fun i j _ _ _ _ _ hc q=>by
 have h1:(0:Int)<j:=hc
 exact mod_int' (by omega) (by rw [Int.fmod_eq_emod_of_nonneg i (by omega)];exact q)
theorem yiW:OpR X (binaryOp .Pow) (rI yAJ fun i j=>.int (i ^ j.toNat)):=opI fun _ _ _ _ _ _ _ hc q=>pow_int_small hc.1 hc.2.1 hc.2.2 q
theorem unI {f:Value->Sem Value}{g:Int->Int}
  (rule:∀ (i:Int) (t:Tok) (s:Shared) (Q:Value->Shared->Prop) (E:Value->Shared->Prop),Q (.int (g i) s.toks) { s with toks:=s.toks+1 }->wpAny (model X.prog X.w) X.A (f (.int i t)) Q E s) :
  UnR X f (rU fun i=>.int (g i)):=by
 intro pins s σ H x v Q I rx h
 obtain ⟨i,rfl,q⟩:=h
 obtain ⟨t,rfl⟩:=rx
 exact rule i t s _ _ ⟨.int (g i),H,I.tok _,⟨_,rfl⟩,q⟩
theorem yxK:UnR X (unaryOp .USub) (rU fun i=>.int (-i)):=unI fun _ _ _ _ _ q=>neg_int q
end
noncomputable def ytv:V->V->Bool
 | .non,.non=>true|.non,.int _=>true|.int _,.non=>true|.non,.bl _=>true|.bl _,.non=>true|.non,.str _=>true|.str _,.non=>true
 | .int _,.int _=>true|.bl _,.bl _=>true|.str _,.str _=>true|.byt _,.byt _=>true
 | .int _,.str _=>true|.str _,.int _=>true|.bl _,.str _=>true|.str _,.bl _=>true
 | _,_=>false
def rEq:R2:=fun x y H Q=>ytv x y=true/\Q (.bl (decide (x=y))) H
def rNe:R2:=fun x y H Q=>ytv x y=true/\Q (.bl (!decide (x=y))) H
theorem yog {i j:Int}:decide (V.int i=V.int j)=(i == j):=by
 rw [Bool.eq_iff_iff]
 simp
theorem ytw {i j:Bool}:decide (V.bl i=V.bl j)=(i == j):=by
 rw [Bool.eq_iff_iff]
 simp
theorem yoh {i j:Str}:decide (V.str i=V.str j)=(i == j):=by
 rw [Bool.eq_iff_iff]
 simp
theorem yoi {i j:Array UInt8}:decide (V.byt i=V.byt j)=(i.toList == j.toList):=by
 rw [Bool.eq_iff_iff]
 cases i
 cases j
 simp
section
variable {X:Cx}{a b c:Expr}{ta tb tc:TE}{pos:Pos}
theorem ybb {pins:List (Addr×Obj)}{σ:St}{H:Hp}{s:Shared}{Q:VK}{k k':Bool}(I:Inv X pins σ H s) (q:Q (.bl k) H) (e:k=k'):EP X pins σ Q (.bool k') s:=by
 subst e
 exact ⟨.bl k,H,I,rfl,q⟩
theorem yU:OpR X (compareOp .Eq) rEq:=by
 intro pins s σ H x y v u Q I rx ry h
 obtain ⟨hs,q⟩:=h
 cases x with
 | non =>
  cases rx
  cases y with
  | non=>cases ry;exact PySem.EqNone.eq_none_none (ybb I q (by simp))
  | bl j=>cases ry;exact PySem.EqNone.eq_none_bool (ybb I q (by simp))
  | int j=>obtain ⟨t',rfl⟩:=ry;exact PySem.EqNone.eq_none_int (ybb I q (by simp))
  | str j=>obtain ⟨t',rfl⟩:=ry;exact PySem.EqNone.eq_none_str (ybb I q (by simp))
  | _=>exact absurd (show false=true from hs) Bool.false_ne_true
 | bl i =>
  cases rx
  cases y with
  | non=>cases ry;exact PySem.EqNone.eq_bool_none (ybb I q (by simp))
  | bl j=>cases ry;exact eq_bool (ybb I q ytw)
  | str j=>obtain ⟨t',rfl⟩:=ry;exact PySem.EqMixed.eq_bool_str (ybb I q (by simp))
  | _=>exact absurd (show false=true from hs) Bool.false_ne_true
 | int i =>
  obtain ⟨t,rfl⟩:=rx
  cases y with
  | non=>cases ry;exact PySem.EqNone.eq_int_none (ybb I q (by simp))
  | int j=>obtain ⟨t',rfl⟩:=ry;exact eq_int (ybb I q yog)
  | str j=>obtain ⟨t',rfl⟩:=ry;exact PySem.EqMixed.eq_int_str (ybb I q (by simp))
  | _=>exact absurd (show false=true from hs) Bool.false_ne_true
 | str i =>
  obtain ⟨t,rfl⟩:=rx
  cases y with
  | non=>cases ry;exact PySem.EqNone.eq_str_none (ybb I q (by simp))
  | bl j=>cases ry;exact PySem.EqMixed.eq_str_bool (ybb I q (by simp))
  | int j=>obtain ⟨t',rfl⟩:=ry;exact PySem.EqMixed.eq_str_int (ybb I q (by simp))
  | str j=>obtain ⟨t',rfl⟩:=ry;exact eq_str (ybb I q yoh)
  | _=>exact absurd (show false=true from hs) Bool.false_ne_true
 | byt i =>
  obtain ⟨t,rfl⟩:=rx
  cases y with
  | byt j=>obtain ⟨t',rfl⟩:=ry;exact PySem.W.eq_bytes (ybb I q yoi)
  | _=>exact absurd (show false=true from hs) Bool.false_ne_true
 | _=>cases y<;>exact absurd (show false=true from hs) Bool.false_ne_true
theorem yne:OpR X (compareOp .NotEq) rNe:=by
 intro pins s σ H x y v u Q I rx ry h
 obtain ⟨hs,q⟩:=h
 cases x with
 | non =>
  cases rx
  cases y with
  | non=>cases ry;exact PySem.EqNone.ne_none_none (ybb I q (by simp))
  | bl j=>cases ry;exact PySem.EqNone.ne_none_bool (ybb I q (by simp))
  | int j=>obtain ⟨t',rfl⟩:=ry;exact PySem.EqNone.ne_none_int (ybb I q (by simp))
  | str j=>obtain ⟨t',rfl⟩:=ry;exact PySem.EqNone.ne_none_str (ybb I q (by simp))
  | _=>exact absurd (show false=true from hs) Bool.false_ne_true
 | bl i =>
  cases rx
  cases y with
  | non=>cases ry;exact PySem.EqNone.ne_bool_none (ybb I q (by simp))
  | bl j=>cases ry;exact ne_bool (ybb I q (congrArg not ytw))
  | str j=>obtain ⟨t',rfl⟩:=ry;exact PySem.EqMixed.ne_bool_str (ybb I q (by simp))
  | _=>exact absurd (show false=true from hs) Bool.false_ne_true
 | int i =>
  obtain ⟨t,rfl⟩:=rx
  cases y with
  | non=>cases ry;exact PySem.EqNone.ne_int_none (ybb I q (by simp))
  | int j=>obtain ⟨t',rfl⟩:=ry;exact ne_int (ybb I q (congrArg not yog))
  | str j=>obtain ⟨t',rfl⟩:=ry;exact PySem.EqMixed.ne_int_str (ybb I q (by simp))
  | _=>exact absurd (show false=true from hs) Bool.false_ne_true
 | str i =>
  obtain ⟨t,rfl⟩:=rx
  cases y with
  | non=>cases ry;exact PySem.EqNone.ne_str_none (ybb I q (by simp))
  | bl j=>cases ry;exact PySem.EqMixed.ne_str_bool (ybb I q (by simp))
  | int j=>obtain ⟨t',rfl⟩:=ry;exact PySem.EqMixed.ne_str_int (ybb I q (by simp))
  | str j=>obtain ⟨t',rfl⟩:=ry;exact ne_str (ybb I q (congrArg not yoh))
  | _=>exact absurd (show false=true from hs) Bool.false_ne_true
 | byt i =>
  obtain ⟨t,rfl⟩:=rx
  cases y with
  | byt j=>obtain ⟨t',rfl⟩:=ry;exact PySem.W.ne_bytes (ybb I q (congrArg not yoi))
  | _=>exact absurd (show false=true from hs) Bool.false_ne_true
 | _=>cases y<;>exact absurd (show false=true from hs) Bool.false_ne_true
theorem yhn:OpR X (compareOp .Lt) (rI0 fun i j=>.bl (decide (i<j))):=yAI fun _ _ _ _ _ _ _ q=>lt_int q
theorem yiX:OpR X (compareOp .LtE) (rI0 fun i j=>.bl (decide (i<=j))):=yAI fun _ _ _ _ _ _ _ q=>le_int q
theorem yuK:OpR X (compareOp .Gt) (rI0 fun i j=>.bl (decide (j<i))):=yAI fun _ _ _ _ _ _ _ q=>gt_int q
theorem yoj:OpR X (compareOp .In) (fun x y H Q=>∃ i j,x=.str i/\y=.str j/\Q (.bl (!(Builtin.Str.occurrences j i 0 j.length 1).isEmpty)) H):=by
 intro pins s σ H x y v u Q I rx ry h
 obtain ⟨i,j,rfl,rfl,q⟩:=h
 obtain ⟨t,rfl⟩:=rx
 obtain ⟨t',rfl⟩:=ry
 exact in_str (ybb I q rfl)
theorem ylV:OpR X (compareOp .Is) (fun x y H Q=>y=.non/\Q (.bl (decide (x=.non))) H):=by
 intro pins s σ H x y v u Q I rx ry h
 obtain ⟨rfl,q⟩:=h
 cases ry
 refine is_none_gen (ybb I q ?_)
 cases x<;>first
  | (cases rx;rfl)
  | (obtain ⟨t,rfl⟩:=rx;rfl)
theorem yuL:OpR X (compareOp .IsNot) (fun x y H Q=>y=.non/\Q (.bl (!decide (x=.non))) H):=by
 intro pins s σ H x y v u Q I rx ry h
 obtain ⟨rfl,q⟩:=h
 cases ry
 refine isnot_none_gen (ybb I q ?_)
 cases x<;>first
  | (cases rx;rfl)
  | (obtain ⟨t,rfl⟩:=rx;rfl)
theorem yhB (b:Expr) {op:CmpOp}(h:op≠.In:=by decide) (h2:op≠.NotIn:=by decide):behindInMarks op b=false:=by
 have e1:(op == CmpOp.In)=false:=by cases op<;>first|rfl|exact absurd rfl h
 have e2:(op == CmpOp.NotIn)=false:=by cases op<;>first|rfl|exact absurd rfl h2
 cases b<;>simp [behindInMarks,e1,e2]
theorem yuM {op:CmpOp}{r:R2}(ho:OpR X (compareOp op) r) (ha:PE X a ta) (hb:PE X b tb) (hm:behindInMarks op b=false):PE X (.Compare a [op] [b] pos) (tOp r ta tb):=by
 intro pins s σ H Q I h
 exact wpAny_Compare1 (yAG ha hb I h fun v u s2 x y H2 I2 rx ry q=>ho pins s2 σ H2 x y v u Q I2 rx ry q) hm
def yuN (t:TE):TT:=fun σ H Q=>t σ H fun x H'=>∃ k,x=.bl k/\Q k H'
theorem yuO {op:CmpOp}{r:R2}(ho:OpR X (compareOp op) r) (ha:PE X a ta) (hb:PE X b tb) (hm:behindInMarks op b=false):PT X (.Compare a [op] [b] pos) (yuN (tOp r ta tb)):=by
 intro pins s σ H Q I h
 refine wpAny_isTrue_Compare1 (thn (ha pins s σ H _ I h) fun v s1 ⟨x,H1,I1,r1,q1⟩=>thn (hb pins s1 σ H1 _ I1 q1) fun u s2 ⟨y,H2,I2,r2,q2⟩ =>
  thn (ho pins s2 σ H2 x y v u _ I2 r1 r2 q2) fun c s3 ⟨z,H3,I3,r3,k,e,q3⟩=>?_) hm
 subst e
 cases r3
 exact wpAny_truthy_bool ⟨H3,I3,q3⟩
noncomputable def yok (r r':R2) (ta tb tc:TE):TE:=fun σ H Q=>ta σ H fun x H1=>tb σ H1 fun y H2=>r x y H2 fun z H3=>∃ k,z=.bl k /\
 (if k=true then tc σ H3 fun w' H4=>r' y w' H4 Q else Q (.bl false) H3)
theorem yri {op op':CmpOp}{r r':R2}(ho:OpR X (compareOp op) r) (ho':OpR X (compareOp op') r') (ha:PE X a ta) (hb:PE X b tb) (hc:PE X c tc)
  (hm:lastMarks [op,op'] [b,c]=false:=by with_unfolding_all rfl):PE X (.Compare a [op,op'] [b,c] pos) (yok r r' ta tb tc):=by
 intro pins s σ H Q I h
 refine Compare_chain (thn (ha pins s σ H _ I h) fun v s1 ⟨x,H1,I1,r1,q1⟩=>chain_link (thn (hb pins s1 σ H1 _ I1 q1) fun u s2 ⟨y,H2,I2,r2,q2⟩ =>
  thn (ho pins s2 σ H2 x y v u _ I2 r1 r2 q2) fun d s3 ⟨z,H3,I3,r3,k,e,q3⟩=>?_)) hm
 subst e
 cases r3
 refine wpAny_truthy_bool ?_
 cases k with
 | false=>exact ite_ff ⟨.bl false,H3,I3,rfl,q3⟩
 | true=>exact ite_tt (chain_last (thn (hc pins s3 σ H3 _ I3 q3) fun w' s4 ⟨z',H4,I4,r4,q4⟩=>ho' pins s4 σ H4 y z' u w' Q I4 r2 r4 q4))
theorem yrj {op op':CmpOp}{r r':R2}(ho:OpR X (compareOp op) r) (ho':OpR X (compareOp op') r') (ha:PE X a ta) (hb:PE X b tb) (hc:PE X c tc)
  (hm:lastMarks [op,op'] [b,c]=false:=by with_unfolding_all rfl):PT X (.Compare a [op,op'] [b,c] pos) (yuN (yok r r' ta tb tc)):=by
 intro pins s σ H Q I h
 refine isTrue_chain (thn (ha pins s σ H _ I h) fun v s1 ⟨x,H1,I1,r1,q1⟩=>test_link (thn (hb pins s1 σ H1 _ I1 q1) fun u s2 ⟨y,H2,I2,r2,q2⟩ =>
  thn (ho pins s2 σ H2 x y v u _ I2 r1 r2 q2) fun d s3 ⟨z,H3,I3,r3,k,e,q3⟩=>?_)) hm
 subst e
 cases r3
 refine wpAny_truthy_bool ?_
 cases k with
 | false =>
  obtain ⟨k',e',q'⟩:=q3
  cases e'
  exact ite_ff ⟨H3,I3,q'⟩
 | true =>
  refine ite_tt (test_last (thn (hc pins s3 σ H3 _ I3 q3) fun w' s4 ⟨z',H4,I4,r4,q4⟩=>thn (ho' pins s4 σ H4 y z' u w' _ I4 r2 r4 q4) fun d' s5 ⟨z2,H5,I5,r5,k2,e2,q5⟩=>?_))
  subst e2
  cases r5
  exact wpAny_truthy_bool ⟨H5,I5,q5⟩
theorem yhC:(sizeLine:Nat)<2 ^ 63:=by rw [sizeLine_eq];decide
theorem vals1 {x:V}{us:List Value}(r:Vals [x] us):∃ u,us=[u]/\RelV x u:=by
 cases r with
 | cons r1 r2=>cases r2;exact ⟨_,rfl,r1⟩
theorem vals2 {x y:V}{us:List Value}(r:Vals [x,y] us):∃ u w',us=[u,w']/\RelV x u/\RelV y w':=by
 cases r with
 | cons r1 r2 =>
  cases r2 with
  | cons r3 r4=>cases r4;exact ⟨_,_,rfl,r1,r3⟩
theorem yiY:CallR X (.type "int") (fun xs H Q=>(∃ i,xs=[.int i]/\Q (.int i) H)\/∃ k,xs=[.bl k]/\Q (.int (if k then 1 else 0)) H):=by
 intro pins s σ H xs us Q I r h
 rcases h with ⟨i,rfl,q⟩|⟨k,rfl,q⟩
 .obtain ⟨u,rfl,t,rfl⟩:=vals1 r
  exact call_int_int ⟨.int i,H,I,⟨_,rfl⟩,q⟩
 .obtain ⟨u,rfl,r1⟩:=vals1 r
  cases r1
  exact call_int_bool ⟨.int (if k then 1 else 0),H,I.tok _,⟨_,rfl⟩,q⟩
theorem call_str_int:CallR X (.type "str") (fun xs H Q=>∃ i,xs=[.int i]/\i.natAbs.log2<1920/\Q (.str (toString i)) H):=by
 intro pins s σ H xs us Q I r h
 obtain ⟨i,rfl,hz,q⟩:=h
 obtain ⟨u,rfl,t,rfl⟩:=vals1 r
 exact PySem.P.str_of_int hz ⟨.str _,H,I.tok _,⟨_,rfl⟩,q⟩
end
end L2
namespace L2
open PySem PySem.Spec PyProof.Rows
structure ObjM (h:Heap) (x dx C:Addr) (mA:Str->Option Value):Prop where
 obj:h.get? x=some (instObj C dx)
 ns:h.Ns1 dx mA
 ne:dx≠x
theorem yol {h:Heap}{dx:Addr}{mA:Str->Option Value}(n:h.Ns1 dx mA):∃ od,h.get? dx=some od/\∀ name,PySem.W.lookIn name od=some (mA name):=by
 obtain ⟨o,es,ep,ho,hd,hk,_,hm⟩:=n
 refine ⟨o,ho,fun name=>?_⟩
 have e:=hm name
 unfold nsFind findBy at e
 rw [<- Array.find?_toList] at e
 unfold PySem.W.lookIn
 rw [hd]
 dsimp only
 split
 .rename_i y q
  rw [q] at e
  exact congrArg some e
 .rename_i q
  rw [q] at e
  have a:es.toList.any (·.refKey)=false:=by
   rw [List.any_eq_false]
   intro y hy
   obtain ⟨z,t,hkey⟩:=hk y (Array.mem_toList_iff.mp hy)
   simp [DictEntry.refKey,hkey]
  have a':¬ es.toList.any (·.refKey)=true:=by rw [a];exact Bool.false_ne_true
  rw [if_neg a']
  exact congrArg some e
theorem ObjM.look {h:Heap}{x dx C:Addr}{mA:Str->Option Value}(I:ObjM h x dx C mA):∃ od,PySem.W.InstAt h x (instObj C dx) C (some od)/\∀ name,PySem.W.lookIn name od=some (mA name) :=
 let ⟨od,ho,hl⟩:=yol I.ns
 ⟨od,⟨I.obj,rfl,rfl,ho⟩,hl⟩
section
variable {prog:Program}{w:World}{A:Around}{E:Value->Shared->Prop}{s:Shared}{K:PySem.W.Frag}{x dx C f:Addr}{mA:Str->Option Value}{name:Str}{v:Value}
theorem yuP {expr:Bool}{Q:Value->Shared->Prop}(X:K.In s.heap) (I:ObjM s.heap x dx C mA) (hg:plainGet K C name=true) (hh:hasDictIn K C=true)
  (ha:findIn K (.ref C) name=some none) (hv:mA name=some v) (hv':PySem.W.handedIn v=true) (h:Q v { s with toks:=s.toks+1 }) :
  wpAny (model prog w) A (getAttr (.ref x) name expr) Q E s:=by
 obtain ⟨od,J,hl⟩:=I.look
 exact PySem.W.get_value X J (PySem.W.plainGet_of hg).1 (PySem.W.findObj_own hh ha rfl (by rw [hl,hv])) hv' h
theorem yrk {pl:Sem Bool}{Q:Value×List Value->Shared->Prop}(X:K.In s.heap) (I:ObjM s.heap x dx C mA) (hg:plainGet K C name=true)
  (hf:findIn K (.ref C) name=some (some (.ref f))) (ht:isFn K (.ref f)=true) (hv:mA name=none) (h:Q (.ref f,[.ref x]) s) :
  wpAny (model prog w) A (getMethod (.ref x) name pl) Q E s:=by
 obtain ⟨od,J,hl⟩:=I.look
 exact PySem.W.method_fn X J (PySem.W.plainGet_of hg).1 (PySem.W.plainGet_of hg).2 hf (beq_iff_eq.mp ht) (by show (PySem.W.lookIn name od).map (·.isSome)=some false;rw [hl,hv];rfl) h
theorem yuQ {ns:List Str}{Q:Unit->Shared->Prop}(X:K.In s.heap) (I:ObjM s.heap x dx C mA)
  (hs:findIn K (.ref C) "__setattr__" = some (some (.builtin "object.__setattr__"))) (hp:PySem.W.plainOver K C=true) (ht:PySem.W.takerIn K C name=some none) (hh:hasDictIn K C=true)
  (hw:PySem.Within mA ns) (hsz:ns.length<=sizeLine)
  (h:∀ h',ObjM h' x dx C (fun y=>if y=name then some v else mA y)->Heap.SameBut dx s.heap h'->Q () { s with heap:=h',toks:=s.toks+2 }) :
  wpAny (model prog w) A (setAttr (.ref x) name v) Q E s:=by
 obtain ⟨od,J,hl⟩:=I.look
 refine PySem.W.set_plain X J hs (PySem.W.osa_open (s:={ s with toks:=s.toks+1 }) (r:=none) X J hp ht fun b=>?_)
 obtain ⟨cd,hc,hd'⟩:=PySem.W.any_some hh
 have hx:s.heap.get? x=some ⟨.ref C,some dx,.plain,#[]⟩:=I.obj
 refine wpAny_bind (wpAny_pure (wpAny_bind (wpAny_bind (wpAny_loadPart hx (wpAny_bind (PySem.W.Looks.here (s:={ s with toks:=s.toks+1 }) (PySem.W.looks_clsIn X hc) ?_))))))
 rw [hd']
 refine wpAny_pure (a:=some dx) (wpAny_bind (wpAny_pure (wpAny_bind ?_)))
 refine wpAny_nsSet1 (s:={ s with toks:=s.toks+1 }) I.ns fun h' hn2 hs2=>?_
 obtain ⟨oD,esD,epD,hoD,hdD,hcD⟩:=hn2.count (PySem.Within.cons name v hw)
 refine wpAny_bind (wpAny_lookBehind hoD (by rw [hdD];exact pastItsLine_dict (Nat.le_trans hcD (by rw [length_cons];omega))) ?_)
 exact wpAny_pure (h _ ⟨(hs2.2 _ (Ne.symm I.ne)).trans I.obj,hn2,I.ne⟩ hs2)
theorem yrl {R:Result->Shared->Prop}{vs:List Value}{kw:List (Str×Value)}(X:K.In s.heap) (hm:makesIn K C=true)
  (hi:findIn K (.ref C) "__init__" = some (some (.ref f))) (hf:typeIn K (.ref f)=some (.type "function"))
  (h:codeAny (model prog w) (A.under (.builtin "type.__call__" ⟨.ref C::vs,kw⟩)) (.call (.ref f) ⟨.ref (s.heap.objs.size+1)::vs,kw⟩) (PySem.W.InitBack (s.heap.objs.size+1) R)
   { s with heap:=(s.heap.push emptyDict).push (instObj C s.heap.objs.size) }) :
  codeAny (model prog w) A (.call (.ref C) ⟨vs,kw⟩) R s:=by
 obtain ⟨hh,g,d,t,os⟩:=s
 exact PySem.W.make_core (PySem.W.makes_of X hm) (PySem.W.looks_findIn X hi) (fun self=>PySem.W.bind_fn X self hf) (.inl rfl) h
end
def yeT (f:Str) (v:V):List (Str×V)->List (Str×V)
 | []=>[(f,v)]
 | (g,x)::r=>if g=f then (g,v)::r else (g,x)::yeT f v r
theorem ygA (f g:Str) (v:V):∀ fs:List (Str×V),(yeT f v fs).lookup g=if g=f then some v else fs.lookup g
 | []=>by
  show List.lookup g [(f,v)]=_
  by_cases h:g=f
  .have hb:(g == f)=true:=beq_iff_eq.mpr h
   simp only [List.lookup,hb,if_pos h]
  .have hb:(g == f)=false:=beq_eq_false_iff_ne.mpr h
   simp only [List.lookup,hb,if_neg h]
 | (k,x)::r=>by
  have ih:=ygA f g v r
  rw [show yeT f v ((k,x)::r)=(if k=f then (k,v)::r else (k,x)::yeT f v r) from rfl]
  by_cases hk:k=f
  .rw [if_pos hk]
   by_cases h:g=k
   .have hb:(g == k)=true:=beq_iff_eq.mpr h
    simp only [List.lookup,hb,if_pos (h.trans hk)]
   .have hb:(g == k)=false:=beq_eq_false_iff_ne.mpr h
    simp only [List.lookup,hb,if_neg (fun e:g=f=>h (e.trans hk.symm))]
  .rw [if_neg hk]
   by_cases h:g=k
   .have hb:(g == k)=true:=beq_iff_eq.mpr h
    simp only [List.lookup,hb,if_neg (fun e:g=f=>hk (h.symm.trans e))]
   .have hb:(g == k)=false:=beq_eq_false_iff_ne.mpr h
    simp only [List.lookup,hb]
    exact ih
theorem ygB (f:Str) (v:V):∀ fs:List (Str×V),f∈(yeT f v fs).map (·.1)/\∀ g,g∈fs.map (·.1)->g∈(yeT f v fs).map (·.1)
 | []=>⟨by simp [yeT],fun g h=>by simp at h⟩
 | (k,x)::r=>by
  obtain ⟨i1,i2⟩:=ygB f v r
  rw [show yeT f v ((k,x)::r)=(if k=f then (k,v)::r else (k,x)::yeT f v r) from rfl]
  by_cases hk:k=f
  .rw [if_pos hk]
   subst hk
   exact ⟨by simp,fun g h=>by simpa using h⟩
  .rw [if_neg hk]
   refine ⟨?_,fun g h=>?_⟩
   .rw [map_cons]
    exact mem_cons_of_mem _ i1
   .rw [map_cons] at h ⊢
    rcases mem_cons.mp h with e|e
    .exact mem_cons.mpr (.inl e)
    .exact mem_cons_of_mem _ (i2 g e)
theorem ygC (f:Str) (v:V):∀ fs:List (Str×V),(yeT f v fs).length<=fs.length+1
 | []=>by simp [yeT]
 | (k,x)::r=>by
  have ih:=ygC f v r
  rw [show yeT f v ((k,x)::r)=(if k=f then (k,v)::r else (k,x)::yeT f v r) from rfl]
  by_cases hk:k=f
  .rw [if_pos hk,length_cons,length_cons];omega
  .rw [if_neg hk,length_cons,length_cons];omega
theorem RelO.some_of {v:V}{o:Option Value}(r:RelO (some v) o):∃ u,o=some u/\RelV v u:=by
 cases o with
 | none=>exact (show False from r).elim
 | some u=>exact ⟨u,rfl,r⟩
theorem RelO.none_of {o:Option Value}(r:RelO none o):o=none:=by
 cases o with
 | none=>rfl
 | some u=>exact (show False from r).elim
theorem yom {v:V}{u:Value}(r:RelV v u):PySem.W.handedIn u=true:=by
 cases v with
 | non=>cases (show u=Value.none from r);rfl
 | bl b=>cases (show u=Value.bool b from r);rfl
 | int i=>obtain ⟨t,e⟩:=(show ∃ t,u=Value.int i t from r);cases e;rfl
 | str x=>obtain ⟨t,e⟩:=(show ∃ t,u=Value.str x t from r);cases e;rfl
 | byt b=>obtain ⟨t,e⟩:=(show ∃ t,u=Value.bytes b t from r);cases e;rfl
 | flt b=>obtain ⟨t,e⟩:=(show ∃ t,u=Value.float b t from r);cases e;rfl
 | ref a=>cases (show u=Value.ref a from r);rfl
 | ty n=>cases (show u=Value.type n from r);rfl
section
variable {P:Program}{w:World}{H H':Hp}{h h':Heap}{a C dx:Addr}{fs fs':List (Str×V)}
theorem yia (hok:HOk P w H h) (e:H a=some (.ins C dx fs)):∃ mA,ObjM h a dx C mA/\(∀ f,RelO (fs.lookup f) (mA f))/\PySem.Within mA (fs.map (·.1))/\fs.length<=1000/\H dx=some (.own a):=by
 obtain ⟨d,z,ne,ob,mA,n,r,q⟩:=(show ObjOk P w H h a (.ins C dx fs) from hok a _ e)
 exact ⟨mA,⟨ob,n,ne⟩,r,q,z,d⟩
end
structure Cls (K:PySem.W.Frag) (C:Addr):Prop where
 pg:plainGet K C Str.empty=true
 hd:hasDictIn K C=true
 po:PySem.W.plainOver K C=true
 sa:findIn K (.ref C) "__setattr__" = some (some (.builtin "object.__setattr__"))
theorem Cls.get {K:PySem.W.Frag}{C:Addr}(c:Cls K C) (f:Str):plainGet K C f=true:=c.pg
def NoAttr (K:PySem.W.Frag) (C:Addr) (f:Str):Prop:=findIn K (.ref C) f=some none
theorem NoAttr.taker {K:PySem.W.Frag}{C:Addr}{f:Str}(n:NoAttr K C f):PySem.W.takerIn K C f=some none:=by
 unfold PySem.W.takerIn
 rw [show findIn K (.ref C) f=some none from n]
 rfl
structure Meth (K:PySem.W.Frag) (C:Addr) (m:Str) (f:Addr):Prop where
 at_:findIn K (.ref C) m=some (some (.ref f))
 fn:isFn K (.ref f)=true
 kp:keepIn K (.ref f)=true
section
variable {X:Cx}{pins:List (Addr×Obj)}{σ:St}{H:Hp}{s:Shared}{a C dx:Addr}{fs:List (Str×V)}{f:Str}{v:V}{A:Around}{E:Value->Shared->Prop}
theorem ynf {b:Bool}{Q:Value->Shared->Prop}(I:Inv X pins σ H s) (e:H a=some (.ins C dx fs)) (c:Cls X.K C) (n:NoAttr X.K C f) (l:fs.lookup f=some v)
  (h:∀ u s',Inv X pins σ H s'->RelV v u->Q u s'):wpAny (model X.prog X.w) A (getAttr (.ref a) f b) Q E s:=by
 obtain ⟨mA,O,r,_,_,_⟩:=yia I.hok e
 obtain ⟨u,hu,ru⟩:=RelO.some_of (v:=v) (o:=mA f) (by rw [<- l];exact r f)
 exact yuP I.kIn O (c.get f) c.hd n hu (yom ru) (h u _ (I.tok _) ru)
theorem yfE {m:Str}{g:Addr}{pl:Sem Bool}{Q:Value×List Value->Shared->Prop}(I:Inv X pins σ H s) (e:H a=some (.ins C dx fs)) (c:Cls X.K C) (k:Meth X.K C m g) (l:fs.lookup m=none)
  (h:Q (.ref g,[.ref a]) s):wpAny (model X.prog X.w) A (getMethod (.ref a) m pl) Q E s:=by
 obtain ⟨mA,O,r,_,_,_⟩:=yia I.hok e
 have hn:mA m=none:=RelO.none_of (by rw [<- l];exact r m)
 exact yrk I.kIn O (c.get m) k.at_ k.fn hn h
theorem yng {y:V}{u:Value}{Q:Unit->Shared->Prop}(I:Inv X pins σ H s) (e:H a=some (.ins C dx fs)) (c:Cls X.K C) (n:NoAttr X.K C f) (hl:fs.length<1000) (ry:RelV y u)
  (h:∀ s',Inv X pins σ (upd H a (.ins C dx (yeT f y fs))) s'->Q () s'):wpAny (model X.prog X.w) A (setAttr (.ref a) f u) Q E s:=by
 obtain ⟨mA,O,r,wi,_,ho⟩:=yia I.hok e
 have hz:(fs.map (·.1)).length<=sizeLine:=by rw [length_map,sizeLine_eq];omega
 refine yuQ I.kIn O c.sa c.po n.taker c.hd wi hz fun h' O' sb=>h _ ?_
 have hd:∃ o,h'.get? dx=some o:=let ⟨o,_,_,e',_⟩:=O'.ns;⟨o,e'⟩
 refine I.write (x:=a) (e:=dx) (by rw [e];exact True.intro) (.inr ho) (fun b q hb z=>(sb.2 b hb).trans z) hd ?_
 refine ⟨by rw [yy O.ne];exact ho,?_,O.ne,O'.obj,_,O'.ns,fun g=>?_,fun g hg=>?_⟩
 .have:=ygC f y fs;omega
 .show RelO ((yeT f y fs).lookup g) (if g=f then some u else mA g)
  rw [ygA]
  by_cases q:g=f
  .rw [if_pos q,if_pos q];exact ry
  .rw [if_neg q,if_neg q];exact r g
 .by_cases q:g=f
  .rw [q];exact (ygB f y fs).1
  .refine (ygB f y fs).2 g (wi g fun z=>hg ?_)
   show (if g=f then some u else mA g)=none
   rw [if_neg q];exact z
theorem Inv.made (I:Inv X pins σ H s):Inv X pins σ (upd (upd H s.heap.objs.size (.own (s.heap.objs.size+1))) (s.heap.objs.size+1) (.ins C s.heap.objs.size []))
  { s with heap:=(s.heap.push emptyDict).push (instObj C s.heap.objs.size) }:=by
 have e1:(s.heap.push emptyDict).get? s.heap.objs.size=some emptyDict:=Heap.get?_push_size s.heap rfl
 have e2:((s.heap.push emptyDict).push (instObj C s.heap.objs.size)).get? (s.heap.objs.size+1)=some (instObj C s.heap.objs.size):=by
  have:=Heap.get?_push_size (s.heap.push emptyDict) (o:=instObj C s.heap.objs.size) rfl
  rwa [Heap.size_push] at this
 have e3:(s.heap.push emptyDict).Ns s.heap.objs.size (fun _=>none):=⟨emptyDict,#[],_,e1,rfl,(fun e he=>absurd he (by simp)),fun _=>rfl⟩
 have I1:=I.laid (a:=s.heap.objs.size) (o:=.own (s.heap.objs.size+1)) (h':=s.heap.push emptyDict) (t':=s.toks) (fun b u q=>Heap.get?_push_of_some _ q) (Nat.le_refl _) ⟨_,e1⟩
 refine I1.laid (a:=s.heap.objs.size+1) (o:=.ins C s.heap.objs.size []) (t':=s.toks) (fun b u q=>Heap.get?_push_of_some _ q) (le_of_eq (Heap.size_push _ _)) ?_
 have ne:s.heap.objs.size≠s.heap.objs.size+1:=ne_of_lt (Nat.lt_succ_self _)
 refine ⟨by rw [yy ne,yu],zero_le _,ne,e2,fun _=>none,(Heap.Ns1.of_empty e3).at fun o q=>Heap.get?_push_of_some _ q,fun _=>True.intro,fun y hy=>absurd rfl hy⟩
theorem yuR {prog:Program}{w:World}{env:Env}{e:Expr}{f:Str}{pos:Pos}{s:Shared}{Q:Value->Shared->Prop}(hb:attributeBase e f env (eval e env)=eval e env)
  (h:wpAny (model prog w) A (eval e env) (fun o s₁=>wpAny (model prog w) A (getAttr o f true) Q E s₁) E s):wpAny (model prog w) A (eval (.Attribute e f pos) env) Q E s :=
 Attribute_any_ h (by rw [arm_eval_Attribute,hb])
end
noncomputable def yCQ (K:PySem.W.Frag) (ta:TE) (f:Str):TE:=fun σ H Q=>ta σ H fun x H1=>∃ a C dx fs v,x=.ref a/\H1 a=some (.ins C dx fs)/\Cls K C/\NoAttr K C f/\fs.lookup f=some v/\Q v H1
noncomputable def yAK (K:PySem.W.Frag) (ta tv:TE) (f:Str):TS:=fun D σ H=>tv σ H fun y H1=>ta σ H1 fun x H2=>∃ a C dx fs,x=.ref a/\H2 a=some (.ins C dx fs)/\Cls K C/\NoAttr K C f/\fs.length<1000 /\
 D.nx σ (upd H2 a (.ins C dx (yeT f y fs)))
section
variable {X:Cx}{o e value:Expr}{f:Str}{pos pos' tpos:Pos}{ta tv:TE}
theorem yxL (he:PE X e ta) (hb:attributeBase e f X.env (eval e X.env)=eval e X.env):PE X (.Attribute e f pos) (yCQ X.K ta f):=by
 intro pins s σ H Q I h
 refine yuR hb (thn (he pins s σ H _ I h) fun u s1 ⟨x,H1,I1,rx,a,C,dx,fs,v,ex,ea,c,n,l,q⟩=>?_)
 subst ex
 obtain rfl:u=Value.ref a:=rx
 exact ynf I1 ea c n l fun u' s2 I2 ru=>⟨v,H1,I2,ru,q⟩
theorem ytx (ha:PE X o ta) (hv:PE X value tv) (hs:swapsWith value (some (.Attribute o f pos')) pos.line X.env=pure false):PS X (.Assign [.Attribute o f pos'] value pos) (yAK X.K ta tv f):=by
 intro pins s σ H D I h
 refine plainObj_wpAny_Assign_Attribute (thn (hv pins s σ H _ I h) fun u s1 ⟨y,H1,I1,ry,q⟩=>thn (ha pins s1 σ H1 _ I1 q) fun ov s2 ⟨x,H2,I2,rx,a,C,dx,fs,ex,ea,c,n,l,q2⟩=>?_) hs
 subst ex
 obtain rfl:ov=Value.ref a:=rx
 exact yng I2 ea c n l ry fun s3 I3=>⟨σ,_,I3,q2⟩
end
section
variable {X:Cx}{pins:List (Addr×Obj)}{σ:St}{H:Hp}{s:Shared}{A:Around}{E:Value->Shared->Prop}{Q:Value->Shared->Prop}{c:Value}{b:Bool}
inductive ylW (K:PySem.W.Frag) (H:Hp):V->Value->Prop where
 | non:ylW K H .non (.type "NoneType")
 | bl (x:Bool):ylW K H (.bl x) (.type "bool")
 | int (i:Int):ylW K H (.int i) (.type "int")
 | str (x:Str):ylW K H (.str x) (.type "str")
 | flt (x:UInt64):ylW K H (.flt x) (.type "float")
 | lst {a:Addr}{xs:List V}(e:H a=some (.lst xs)):ylW K H (.ref a) (.type "list")
 | frz {a:Addr}{o:Obj}{xs:List V}(e:H a=some (.frz o (.lst xs))):ylW K H (.ref a) (.type "list")
 | tup {a:Addr}{xs:List V}(e:H a=some (.tup xs)):ylW K H (.ref a) (.type "tuple")
 | kt {a:Addr}{o:Obj}(e:K.lookup a=some o) (c:o.cls=.type "tuple"):ylW K H (.ref a) (.type "tuple")
 | dK {a:Addr}{kvs:List (Key×V)}(e:H a=some (.dK kvs)):ylW K H (.ref a) (.type "dict")
 | dT {a:Addr}{kvs:List (List Key×V)}(e:H a=some (.dT kvs)):ylW K H (.ref a) (.type "dict")
 | ins {a C dx:Addr}{fs:List (Str×V)}(e:H a=some (.ins C dx fs)) (cl:Cls K C) (ha:findIn K (.ref C) "__class__" = some (some (.builtin "object.__class__")))
   (hn:PySem.W.specialIn K (.builtin "object.__class__") "__get__" = some (some (.builtin "getset_descriptor.__get__"))) (htk:PySem.W.takesIn K (.builtin "object.__class__")=some true)
   (hm:mroIn K C (.type "object")=some true):ylW K H (.ref a) (.ref C)
theorem yon {x:V}{u t:Value}(I:Inv X pins σ H s) (rx:RelV x u) (ty:ylW X.K H x t) (e:PySem.W.kitOne X.K t c=some b) (h:∀ tk,Q (.bool b) { s with toks:=tk }) :
  wpAny (model X.prog X.w) A (call (.builtin "isinstance") [u,c]) Q E s:=by
 cases ty with
 | non=>cases (show u=Value.none from rx);exact kia_one PySem.W.kitx_none I.kIn True.intro e (fun z=>nomatch z) h
 | bl y=>cases (show u=Value.bool y from rx);exact kia_one PySem.W.kitx_bool I.kIn True.intro e (fun z=>nomatch z) h
 | int i=>obtain ⟨t,q⟩:=(show ∃ t,u=Value.int i t from rx);cases q;exact kia_one PySem.W.kitx_int I.kIn True.intro e (fun z=>nomatch z) h
 | str y=>obtain ⟨t,q⟩:=(show ∃ t,u=Value.str y t from rx);cases q;exact kia_one PySem.W.kitx_str I.kIn True.intro e (fun z=>nomatch z) h
 | flt y=>obtain ⟨t,q⟩:=(show ∃ t,u=Value.float y t from rx);cases q;exact kia_one PySem.W.kitx_float I.kIn True.intro e (fun z=>nomatch z) h
 | @lst a xs ea =>
  cases (show u=Value.ref a from rx)
  obtain ⟨_,_,n,_,h1⟩:=(show ObjOk X.prog X.w H s.heap a (.lst xs) from I.hok a _ ea)
  exact kia_one PySem.W.kitx_list I.kIn ⟨_,h1,rfl⟩ e (fun z=>nomatch z) h
 | @frz a ob xs ea =>
  cases (show u=Value.ref a from rx)
  obtain ⟨_,_,_,n,_,h1⟩:=(show ObjOk X.prog X.w H s.heap a (.frz ob (.lst xs)) from I.hok a _ ea)
  exact kia_one PySem.W.kitx_list I.kIn ⟨_,h1,rfl⟩ e (fun z=>nomatch z) h
 | @tup a xs ea =>
  cases (show u=Value.ref a from rx)
  obtain ⟨_,_,_,p⟩:=(show ObjOk X.prog X.w H s.heap a (.tup xs) from I.hok a _ ea)
  obtain ⟨o,h1,h2,_⟩:=p
  exact kia_one PySem.W.kitx_tuple I.kIn ⟨o,h1,h2⟩ e (fun z=>nomatch z) h
 | @kt a ob ek ck =>
  cases (show u=Value.ref a from rx)
  exact kia_one PySem.W.kitx_tuple I.kIn ⟨ob,I.kIn a ob ek,ck⟩ e (fun z=>nomatch z) h
 | @dK a kvs ea =>
  cases (show u=Value.ref a from rx)
  obtain ⟨_,_,vs,_,p⟩:=(show ObjOk X.prog X.w H s.heap a (.dK kvs) from I.hok a _ ea)
  obtain ⟨o,es,ep,h1,h2,_⟩:=p
  exact kia_one PySem.W.kitx_dict I.kIn ⟨o,h1,h2.1⟩ e (fun z=>nomatch z) h
 | @dT a kvs ea =>
  cases (show u=Value.ref a from rx)
  obtain ⟨_,_,xs,_,o,es,ep,h1,h2,_⟩:=(show ObjOk X.prog X.w H s.heap a (.dT kvs) from I.hok a _ ea)
  exact kia_one PySem.W.kitx_dict I.kIn ⟨o,h1,h2.1⟩ e (fun z=>nomatch z) h
 | @ins a C dx fs ea cl ha hn htk hm =>
  cases (show u=Value.ref a from rx)
  obtain ⟨mA,O,_⟩:=yia I.hok ea
  obtain ⟨od,J,_⟩:=O.look
  exact kia_one (PySem.W.kitx_own (cl.get _) cl.hd ha hn htk hm) I.kIn J e (fun z=>nomatch z) h
end
end L2
namespace L2
open PySem PySem.Spec PyProof.Rows
structure Room (k:Nat) (A:Around):Prop where
 hd:A.handled=none
 dp:A.depth+3*k+5<recursionLimit
 un:A.units+16*k+200<cLine
theorem Room.mono {j k:Nat}{A:Around}(r:Room k A) (h:j<=k):Room j A:=⟨r.hd,by have:=r.dp;omega,by have:=r.un;omega⟩
theorem Room.deeper {k:Nat}{A:Around}(r:Room (k+1) A) (env:Env):Room k (A.deeper env) :=
 ⟨r.hd,by have:=r.dp;show A.depth+1+3*k+5<_;omega,by have:=r.un;show A.units+3+16*k+200<_;omega⟩
theorem ynh {A:Around}{C:Addr}{us:List Value}{kw:List (Str×Value)}:(A.under (.builtin "type.__call__" ⟨.ref C::us,kw⟩)).depth=A.depth+1:=by
 first|rfl|simp [Around.under,Code.weight,Code.isCreation,Code.isGuard,Code.isCaller,Code.frames,Code.isFrame,guardIds]
theorem yni {A:Around}{C:Addr}{us:List Value}{kw:List (Str×Value)}:(A.under (.builtin "type.__call__" ⟨.ref C::us,kw⟩)).units=A.units+1:=by
 first|rfl|simp [Around.under,Code.cUnits,Code.frames,Code.isFrame]
theorem Room.make {k:Nat}{A:Around}(r:Room (k+1) A) (C:Addr) (us:List Value) (kw:List (Str×Value)):Room k (A.under (.builtin "type.__call__" ⟨.ref C::us,kw⟩)) :=
 ⟨r.hd,by have:=r.dp;rw [ynh];omega,by have:=r.un;rw [yni];omega⟩
theorem Room.depth {k:Nat}{A:Around}(r:Room k A):A.depth<recursionLimit:=by have:=r.dp;omega
theorem Room.units {k:Nat}{A:Around}(r:Room k A):A.units+64<cLine:=by have:=r.un;omega
def yty:TA:=fun _ H Q=>Q [] H
def ykG (ta:TE) (tr:TA):TA:=fun σ H Q=>ta σ H fun x H1=>tr σ H1 fun xs H2=>Q (x::xs) H2
section
variable {X:Cx}{e:Expr}{es:List Expr}{te:TE}{t:TA}{pos:Pos}
theorem yhD:PA X [] yty:=fun _ _ _ _ H Q I h=>Calls.spliced_nil ⟨[],H,I,.nil,h⟩
theorem yeL (ha:PE X e te) (hr:PA X es t) (hs:starEach (e::es) X.env=(false,eval e X.env)::starEach es X.env:=by rfl):PA X (e::es) (ykG te t):=by
 intro pos pins s σ H Q I h
 rw [hs]
 show wpAny _ _ (spliced ((false,eval e X.env)::backTo pos (starEach es X.env))) _ _ s
 refine Calls.spliced_cons (thn (ha pins s σ H _ I h) fun u s1 ⟨x,H1,I1,r1,q1⟩=>?_)
 exact thn (hr pos pins s1 σ H1 _ I1 q1) fun us s2 ⟨xs,H2,I2,r2,q2⟩=>⟨x::xs,H2,I2,.cons r1 r2,q2⟩
def yCR (t:TA):TE:=fun σ H Q=>t σ H fun xs H1=>xs.length<=sizeLine/\∀ p,H1 p=none->Q (.ref p) (upd H1 p (.tup xs))
def yCS (t:TA):TE:=fun σ H Q=>t σ H fun xs H1=>xs.length<=sizeLine/\∀ p,H1 p=none->Q (.ref p) (upd H1 p (.lst xs))
theorem yxM {x1} (h:PA X es t):PE X (.Tuple es x1 pos) (yCR t):=by
 intro pins s σ H Q I hq
 refine wpAny_Tuple_spliced (thn (h pos pins s σ H _ I hq) fun us s1 ⟨xs,H1,I1,r,z,q⟩=>⟨by rw [<- r.length];exact z,?_⟩)
 have hf:H1 s1.heap.objs.size=none:=I1.hok.fresh (Nat.le_refl _)
 refine ⟨.ref s1.heap.objs.size,upd H1 s1.heap.objs.size (.tup xs),I1.laid (t':=s1.toks) (fun b u e=>Heap.get?_push_of_some _ e) (Nat.le_refl _) ?_,rfl,q _ hf⟩
 exact ⟨z,us,r,⟨_,Heap.get?_push_size _ rfl,rfl,_,rfl⟩⟩
theorem yxN (h:PA X es t):PE X (.List es pos) (yCS t):=by
 intro pins s σ H Q I hq
 refine wpAny_List_spliced (thn (h pos pins s σ H _ I hq) fun us s1 ⟨xs,H1,I1,r,z,q⟩=>⟨by rw [<- r.length];exact z,?_⟩)
 have hf:H1 s1.heap.objs.size=none:=I1.hok.fresh (Nat.le_refl _)
 refine ⟨.ref s1.heap.objs.size,upd H1 s1.heap.objs.size (.lst xs),I1.laid (t':=s1.toks) (fun b u e=>Heap.get?_push_of_some _ e) (Nat.le_refl _) ?_,rfl,q _ hf⟩
 exact ⟨z,us,0,r,Heap.get?_push_size _ rfl⟩
end
abbrev Sp:=List V->Hp->VK->XK->Prop
abbrev CXT:=List Env->Hp->Shared->XK->Value->Shared->Prop
structure Env0 (P:Program) (w:World) (K:PySem.W.Frag) (mg:Str->Option Value) (base:Heap) (A:Around) (outer:List Env) (s:Shared) (H:Hp):Prop where
 frames:A.frames=some outer
 mod:Mod K mg base
 bs:∀ b o,base.get? b=some o->s.heap.get? b=some o/\H b=none
 bsz:base.objs.size<=s.heap.objs.size
 funs:s.heap.FunFrames base outer
 frf:∀ b∈frs outer,H b=none
 hok:HOk P w H s.heap
 bare:AllBare s.gens
def CE (outer:List Env) (P:Program) (w:World) (H:Hp) (s:Shared) (Q:VK) (u:Value) (s':Shared):Prop :=
 ∃ v H',s'.os=s.os/\AllBare s'.gens/\Un (frs outer) [] H H' s.heap s'.heap/\HOk P w H' s'.heap/\RelV v u/\Q v H'
def CR (CX:CXT) (outer:List Env) (P:Program) (w:World) (H:Hp) (s:Shared) (Q:VK) (E:XK) (r:Result) (s':Shared):Prop :=
 match r with
 | .ok (.ret u)=>CE outer P w H s Q u s'
 | .ok _=>False
 | .error e=>CX outer H s E e s'
structure FnOk (P:Program) (w:World) (K:PySem.W.Frag) (mg:Str->Option Value) (base:Heap) (CX:CXT) (k:Nat) (f:Addr) (fd:FuncData) (ps:List Str) (sp:Sp):Prop where
 len:∀ vs H Q E,sp vs H Q E->vs.length=ps.length
 run:∀ (A:Around) (outer:List Env) (s:Shared) (H:Hp) (args:Args) (us:List Value) (vs:List V) (Q:VK) (E:XK),Room k A->Env0 P w K mg base A outer s H->BindsTo s fd args (ps.zip us)->Vals vs us->sp vs H Q E ->
  codeAny (model P w) A (.call (.ref f) args) (CR CX outer P w H s Q E) s
theorem FnOk.mono {P:Program}{w:World}{K:PySem.W.Frag}{mg:Str->Option Value}{base:Heap}{CX:CXT}{j k:Nat}{f:Addr}{fd:FuncData}{ps:List Str}{sp:Sp}(F:FnOk P w K mg base CX j f fd ps sp) (h:j<=k) :
  FnOk P w K mg base CX k f fd ps sp:=⟨F.len,fun A outer s H args us vs Q E hr=>F.run A outer s H args us vs Q E (hr.mono h)⟩
theorem FnOk.imp {P:Program}{w:World}{K:PySem.W.Frag}{mg:Str->Option Value}{base:Heap}{CX:CXT}{k:Nat}{f:Addr}{fd:FuncData}{ps:List Str}{sp sp':Sp}(F:FnOk P w K mg base CX k f fd ps sp)
  (h:∀ vs H Q E,sp' vs H Q E->sp vs H Q E):FnOk P w K mg base CX k f fd ps sp' :=
 ⟨fun vs H Q E q=>F.len vs H Q E (h _ _ _ _ q),fun A outer s H args us vs Q E hr he hb hv hs=>F.run A outer s H args us vs Q E hr he hb hv (h _ _ _ _ hs)⟩
theorem Env0.make {P:Program}{w:World}{K:PySem.W.Frag}{mg:Str->Option Value}{base:Heap}{A:Around}{outer:List Env}{s:Shared}{H:Hp}(e:Env0 P w K mg base A outer s H) (C:Addr) (us:List Value) (kw:List (Str×Value)) :
  Env0 P w K mg base (A.under (.builtin "type.__call__" ⟨.ref C::us,kw⟩)) outer s H:=⟨by first|exact e.frames|(simpa [Around.under,Code.envs,Code.isFrame,pushEnvs] using e.frames),e.mod,e.bs,e.bsz,e.funs,e.frf,e.hok,e.bare⟩
section
variable {X:Cx}{pins:List (Addr×Obj)}{σ:St}{H:Hp}{s s':Shared}
theorem Inv.env0 (I:Inv X pins σ H s):Env0 X.prog X.w X.K X.mg X.base X.A X.stack s H :=
 ⟨I.ok.frames,I.ok.mod,I.bs,Nat.le_trans I.ok.bsz I.sz,I.stack,I.stkFree,I.hok,I.bare⟩
theorem Inv.after {Q:VK}{u:Value}(I:Inv X pins σ H s) (h:CE X.stack X.prog X.w H s Q u s'):EP X pins σ Q u s':=by
 obtain ⟨v,H',os,bare,un,hok,r,q⟩:=h
 obtain ⟨hh,g,d,t,os'⟩:=s'
 obtain rfl:os'=s.os:=os
 exact ⟨v,H',I.call (h':=hh) (g':=g) (d':=d) (t':=t) (ch:=[]) un hok bare (fun b z=>absurd z (by simp)),r,q⟩
end
def yrm (sp:Sp) (dvs:List V) (E:XK) (t:TA):TE:=fun σ H Q=>t σ H fun vs H1=>sp (vs++dvs) H1 Q E
noncomputable def yuS (C:Addr) (m:Str) (sp:Sp) (dvs:List V) (E:XK) (ta:TE) (t:TA):TE:=fun σ H Q=>ta σ H fun x H1=>∃ a dx fs,x=.ref a/\H1 a=some (.ins C dx fs)/\fs.lookup m=none /\
 t σ H1 fun vs H2=>sp (x::(vs++dvs)) H2 Q E
noncomputable def yrn (C:Addr) (sp:Sp) (dvs:List V) (E:XK) (t:TA):TE:=fun σ H Q=>t σ H fun vs H1=>∀ x dx,H1 x=none->H1 dx=none->dx≠x ->
 sp (.ref x::(vs++dvs)) (upd (upd H1 dx (.own x)) x (.ins C dx [])) (fun v H2=>v=.non/\Q (.ref x) H2) E
noncomputable def Binds (K:PySem.W.Frag) (fd:FuncData) (ps:List Str) (ds:List Value):Prop :=
 ∀ (s:Shared) (us:List Value),K.In s.heap->(us++ds).length=ps.length->BindsTo s fd ⟨us,[]⟩ (ps.zip (us++ds))
theorem Binds.all {K:PySem.W.Frag}{fd:FuncData}{ps:List Str}(h:∀ us:List Value,us.length=ps.length->bindArgs fd ⟨us,[]⟩=pure (ps.zip us)):Binds K fd ps []:=fun s us _ hl=>by
 rw [append_nil] at hl ⊢
 exact .of_eq (h us hl)
noncomputable def yeV (CX:CXT) (X:Cx) (E:XK):Prop:=∀ (pins:List (Addr×Obj)) (σ:St) (H:Hp) (s:Shared) (e:Value) (s':Shared),Inv X pins σ H s->CX X.stack H s E e s'->X.xe e s'
section
variable {X:Cx}{CX:CXT}{k:Nat}{f C:Addr}{fd:FuncData}{ps:List Str}{sp:Sp}{dvs:List V}{ds:List Value}{E:XK}{x m:Str}{p pos apos:Pos}{e o:Expr}{es:List Expr}{ta:TE}{t:TA}
theorem yiZ {pins:List (Addr×Obj)}{σ:St}{H:Hp}{s:Shared}{Q:VK}{us:List Value}{vs:List V}(F:FnOk X.prog X.w X.K X.mg X.base CX k f fd ps sp) (hr:Room k X.A) (hb:Binds X.K fd ps ds) (hd:Vals dvs ds) (hx:yeV CX X E)
  (I:Inv X pins σ H s) (r:Vals vs us) (h:sp (vs++dvs) H Q E):wpAny (model X.prog X.w) X.A (call (.ref f) us) (EP X pins σ Q) X.xe s:=by
 have r2:Vals (vs++dvs) (us++ds):=r.append hd
 have hl:(us++ds).length=ps.length:=by rw [<- r2.length];exact F.len _ _ _ _ h
 refine wpAny_call (codeAny_mono (F.run X.A X.stack s H ⟨us,[]⟩ (us++ds) (vs++dvs) Q E hr I.env0 (hb s us I.kIn hl) r2 h) fun r s' hq=>?_)
 cases r with
 | error e=>exact hx pins σ H s e s' I hq
 | ok fl =>
  cases fl with
  | ret u=>exact I.after hq
  | next=>exact False.elim hq
  | brk=>exact False.elim hq
  | cont=>exact False.elim hq
theorem yuT (F:FnOk X.prog X.w X.K X.mg X.base CX k f fd ps sp) (hr:Room k X.A) (hg:Gl X x) (hm:X.mg x=some (.ref f)) (hk:keepIn X.K (.ref f)=true) (hb:Binds X.K fd ps ds) (hd:Vals dvs ds) (hx:yeV CX X E)
  (ha:PA X (e::es) t) (hdb:(x == ("__debug__":Str))=false:=by decide) (he:starEach (e::es) X.env=(false,eval e X.env)::starEach es X.env:=by rfl) (hpl:(backTo pos (starEach es X.env)).any (·.1)=false:=by rfl) :
  PE X (.Call (.Name x p) (e::es) [] pos) (yrm sp dvs E t):=by
 intro pins s σ H Q I h
 refine wpAny_Call_Name_kw (yhX I hg hm ?_ hdb)
 refine PySem.W.callWith_K (h₀:=X.base) I.ok.mod.kin hk (thn (ha pos pins s σ H _ I h) fun us s1 ⟨vs,H1,I1,r,q⟩=>⟨I1.kIn,?_⟩) he hpl
 exact yiZ F hr hb hd hx I1 r q
theorem yuU {pl:Sem Bool}(he:PE X o ta) (c:Cls X.K C) (hm:Meth X.K C m f) (F:FnOk X.prog X.w X.K X.mg X.base CX k f fd ps sp) (hr:Room k X.A) (hb:Binds X.K fd ps ds) (hd:Vals dvs ds) (hx:yeV CX X E) (ha:PA X (e::es) t)
  (hst:starEach (e::es) X.env=(false,eval e X.env)::starEach es X.env:=by rfl) (hpl:(backTo pos (starEach es X.env)).any (·.1)=false:=by rfl)
  (ht:eval (.Call (.Attribute o m apos) (e::es) [] pos) X.env=(do
   let ov <- eval o X.env
   standAt apos.atName
   let (f,first) <- holding [ov] (getMethod ov m pl)
   callWith pos f first (backTo pos (starEach (e::es) X.env)) (backToKw pos (keywordEach [] X.env))):=by rfl) :
  PE X (.Call (.Attribute o m apos) (e::es) [] pos) (yuS C m sp dvs E ta t):=by
 intro pins s σ H Q I h
 refine PySem.W.methodCall_KW (pl:=pl) (thn (he pins s σ H _ I h) fun u s1 ⟨x,H1,I1,rx,a,dx,fs,ex,ea,l,q⟩=>?_) ht
 subst ex
 obtain rfl:u=Value.ref a:=rx
 refine yfE I1 ea c hm l ?_
 refine PySem.W.callWith_K (first:=[.ref a]) (h₀:=X.base) I.ok.mod.kin hm.kp (thn (ha pos pins s1 σ H1 _ I1 q) fun us s2 ⟨vs,H2,I2,r,q2⟩=>⟨I2.kIn,?_⟩) hst hpl
 exact yiZ (us:=.ref a::us) (vs:=.ref a::vs) F hr hb hd hx I2 (.cons rfl r) q2
theorem yro {pl:Sem Bool}(he:PE X o ta) (c:Cls X.K C) (hm:Meth X.K C m f) (F:FnOk X.prog X.w X.K X.mg X.base CX k f fd ps sp) (hr:Room k X.A) (hb:Binds X.K fd ps ds) (hd:Vals dvs ds) (hx:yeV CX X E)
  (ht:eval (.Call (.Attribute o m apos) [] [] pos) X.env=(do
   let ov <- eval o X.env
   standAt apos.atName
   let (f,first) <- holding [ov] (getMethod ov m pl)
   callWith pos f first (backTo pos (starEach [] X.env)) (backToKw pos (keywordEach [] X.env))):=by rfl) :
  PE X (.Call (.Attribute o m apos) [] [] pos) (yuS C m sp dvs E ta yty):=by
 intro pins s σ H Q I h
 refine PySem.W.methodCall_KW (pl:=pl) (thn (he pins s σ H _ I h) fun u s1 ⟨x,H1,I1,rx,a,dx,fs,ex,ea,l,q⟩=>?_) ht
 subst ex
 obtain rfl:u=Value.ref a:=rx
 refine yfE I1 ea c hm l ?_
 exact PySem.W.callWith_K0 (first:=[.ref a]) I1.kIn hm.kp (yiZ (us:=[.ref a]) (vs:=[.ref a]) F hr hb hd hx I1 (.cons rfl .nil) q)
structure Mk (K:PySem.W.Frag) (C f:Addr):Prop where
 makes:makesIn K C=true
 init:findIn K (.ref C) "__init__" = some (some (.ref f))
 fn:isFn K (.ref f)=true
 kp:keepIn K (.ref C)=true
theorem ylX {pins:List (Addr×Obj)}{σ:St}{H:Hp}{s:Shared}{Q:VK}{us:List Value}{vs:List V}(M:Mk X.K C f) (F:FnOk X.prog X.w X.K X.mg X.base CX k f fd ps sp) (hr:Room (k+1) X.A) (hb:Binds X.K fd ps ds) (hd:Vals dvs ds)
  (hx:yeV CX X E) (I:Inv X pins σ H s) (r:Vals vs us)
  (h:∀ x dx,H x=none->H dx=none->dx≠x->sp (.ref x::(vs++dvs)) (upd (upd H dx (.own x)) x (.ins C dx [])) (fun v H2=>v=.non/\Q (.ref x) H2) E) :
  wpAny (model X.prog X.w) X.A (call (.ref C) us) (EP X pins σ Q) X.xe s:=by
 have hq:=h (s.heap.objs.size+1) s.heap.objs.size (I.hok.fresh (Nat.le_succ _)) (I.hok.fresh (Nat.le_refl _)) (ne_of_lt (Nat.lt_succ_self _))
 have I2:=Inv.made (C:=C) I
 have r2:Vals (V.ref (s.heap.objs.size+1)::(vs++dvs)) (Value.ref (s.heap.objs.size+1)::(us++ds)):=.cons rfl (r.append hd)
 have hl:(Value.ref (s.heap.objs.size+1)::us++ds).length=ps.length:=by
  have e:=r2.length
  rw [F.len _ _ _ _ hq] at e
  exact e.symm
 refine wpAny_call (yrl (f:=f) I.kIn M.makes M.init (beq_iff_eq.mp M.fn) (codeAny_mono (F.run _ X.stack _ _ ⟨Value.ref (s.heap.objs.size+1)::us,[]⟩ (Value.ref (s.heap.objs.size+1)::(us++ds)) _ _ E (hr.make C us [])
  (I2.env0.make C us []) (hb _ (Value.ref (s.heap.objs.size+1)::us) I2.kIn hl) r2 hq) fun r s' hq'=>?_))
 cases r with
 | error e=>exact hx pins σ _ _ e s' I2 hq'
 | ok fl =>
  cases fl with
  | ret u =>
   obtain ⟨v,H',I3,rv,ev,q3⟩:=I2.after hq'
   subst ev
   exact ⟨rv,⟨V.ref (s.heap.objs.size+1),H',I3,rfl,q3⟩⟩
  | next=>exact False.elim hq'
  | brk=>exact False.elim hq'
  | cont=>exact False.elim hq'
theorem yoo (M:Mk X.K C f) (F:FnOk X.prog X.w X.K X.mg X.base CX k f fd ps sp) (hr:Room (k+1) X.A) (hg:Gl X x) (hm:X.mg x=some (.ref C)) (hb:Binds X.K fd ps ds) (hd:Vals dvs ds) (hx:yeV CX X E)
  (ha:PA X (e::es) t) (hdb:(x == ("__debug__":Str))=false:=by decide) (he:starEach (e::es) X.env=(false,eval e X.env)::starEach es X.env:=by rfl) (hpl:(backTo pos (starEach es X.env)).any (·.1)=false:=by rfl) :
  PE X (.Call (.Name x p) (e::es) [] pos) (yrn C sp dvs E t):=by
 intro pins s σ H Q I h
 refine wpAny_Call_Name_kw (yhX I hg hm ?_ hdb)
 refine PySem.W.callWith_K (h₀:=X.base) I.ok.mod.kin M.kp (thn (ha pos pins s σ H _ I h) fun us s1 ⟨vs,H1,I1,r,q⟩=>⟨I1.kIn,?_⟩) he hpl
 exact ylX M F hr hb hd hx I1 r q
theorem yrp (M:Mk X.K C f) (F:FnOk X.prog X.w X.K X.mg X.base CX k f fd ps sp) (hr:Room (k+1) X.A) (hg:Gl X x) (hm:X.mg x=some (.ref C)) (hb:Binds X.K fd ps ds) (hd:Vals dvs ds) (hx:yeV CX X E)
  (hdb:(x == ("__debug__":Str))=false:=by decide):PE X (.Call (.Name x p) [] [] pos) (yrn C sp dvs E yty):=by
 intro pins s σ H Q I h
 refine wpAny_Call_Name_kw (yhX I hg hm ?_ hdb)
 exact PySem.W.callWith_K0 I.kIn M.kp (ylX (us:=[]) M F hr hb hd hx I .nil h)
end
section
variable {X:Cx}{CX:CXT}{k:Nat}{f C:Addr}{fd:FuncData}{ps ks:List Str}{sp:Sp}{E:XK}{x m:Str}{p pos apos kpos:Pos}{e o:Expr}{es:List Expr}{kws:List Keyword}{te ta:TE}{t tk:TA}{nm:Option Str}
variable {g:List Value->List Value->List Value}{gV:List V->List V->List V}
end
structure ydG (N P:List Str) (sc:Scope):Prop where
 kind:sc.kind=.function
 co:sc.isCoroutine=false
 gen:sc.isGenerator=false
 nd:N.Nodup
 pre:N.take P.length=P
 par:∀ x∈P,sc.names.lookup x=some .local \/ sc.names.lookup x=some .cell
 nofree:∀ y∈sc.names,y.2≠.free
theorem yja {kindOf:Str->Option NameKind}{x:Str}:∀ {binds:List (Str×Value)}{m:Str->Option Value},(∀ v,(x,v)∉binds)->bindL kindOf binds m x=m x
 | [],_,_=>rfl
 | (n,v)::r,m,h=>by
  unfold bindL
  rw [yja fun w hw=>h w (mem_cons_of_mem _ hw)]
  split
  .have:x≠n:=by rintro rfl;exact h v mem_cons_self
   simp [this]
  .rfl
theorem yjb {kindOf:Str->Option NameKind}{x:Str}:∀ {binds:List (Str×Value)}{m:Str->Option Value},(∀ v,(x,v)∉binds)->bindC kindOf binds m x=m x
 | [],_,_=>rfl
 | (n,v)::r,m,h=>by
  unfold bindC
  rw [yjb fun w hw=>h w (mem_cons_of_mem _ hw)]
  split
  .rfl
  .have:x≠n:=by rintro rfl;exact h v mem_cons_self
   simp [this]
theorem yjc {kindOf:Str->Option NameKind}{x:Str}{v:Value}:∀ {P:List Str}{vs:List Value}{i:Nat}{m:Str->Option Value},P.Nodup->P[i]?=some x->vs[i]?=some v->kindOf x=some .local ->
  bindL kindOf (P.zip vs) m x=some v
 | [],_,_,_,_,h,_,_=>by simp at h
 | _::_,[],_,_,_,_,h,_=>by simp at h
 | p::P,w::vs,0,m,nd,h1,h2,hk=>by
  simp at h1 h2;subst h1;subst h2
  show bindL kindOf ((p,w)::P.zip vs) m p=_
  unfold bindL
  rw [yja fun v hv=>(List.nodup_cons.mp nd).1 (of_mem_zip hv).1,if_pos hk]
  simp
 | p::P,w::vs,i+1,m,nd,h1,h2,hk=>by
  show bindL kindOf ((p,w)::P.zip vs) m x=_
  unfold bindL
  exact yjc (i:=i) (List.nodup_cons.mp nd).2 (by simpa using h1) (by simpa using h2) hk
theorem yjd {kindOf:Str->Option NameKind}{x:Str}{v:Value}:∀ {P:List Str}{vs:List Value}{i:Nat}{m:Str->Option Value},P.Nodup->P[i]?=some x->vs[i]?=some v->kindOf x≠some .local ->
  bindC kindOf (P.zip vs) m x=some v
 | [],_,_,_,_,h,_,_=>by simp at h
 | _::_,[],_,_,_,_,h,_=>by simp at h
 | p::P,w::vs,0,m,nd,h1,h2,hk=>by
  simp at h1 h2;subst h1;subst h2
  show bindC kindOf ((p,w)::P.zip vs) m p=_
  unfold bindC
  rw [yjb fun v hv=>(List.nodup_cons.mp nd).1 (of_mem_zip hv).1,if_neg hk]
  simp
 | p::P,w::vs,i+1,m,nd,h1,h2,hk=>by
  show bindC kindOf ((p,w)::P.zip vs) m x=_
  unfold bindC
  exact yjd (i:=i) (List.nodup_cons.mp nd).2 (by simpa using h1) (by simpa using h2) hk
def start (N:List Str) (vs:List V):St:=vs.map some++replicate (N.length-vs.length) none
noncomputable def yrq (CX:CXT) (P:Program) (w:World) (K:PySem.W.Frag) (mg:Str->Option Value) (base:Heap) (N:List Str) (qual:Str) (scope:Scope) (f:Addr) (cd:Value) (A:Around) (outer:List Env) (s:Shared) (H:Hp) (E:XK):Cx where
 prog:=P
 w:=w
 K:=K
 mg:=mg
 base:=base
 A:=A.deeper (envOfC qual scope s.heap.objs.size f cd)
 N:=N
 s₀:=s
 H₀:=H
 env:=envOfC qual scope s.heap.objs.size f cd
 outer:=outer
 stack:=envOfC qual scope s.heap.objs.size f cd::outer
 ex:=[]
 calm:=true
 fn:=fun _=>true
 pn:=[]
 xe:=fun e s'=>wpAny (model P w) (A.deeper (envOfC qual scope s.heap.objs.size f cd)) (leaving (envOfC qual scope s.heap.objs.size f cd) e) (fun _ s''=>CX outer H s E e s'') (fun e' s''=>CX outer H s E e' s'') s'
theorem ylY {sc:Scope}{n:Nat}{x:Str}(h:sc.names.lookup x=some .cell):∃ c,(cellsFrom n sc.names []).lookup x=some c:=by
 have q:=PySem.W.cellsFrom_some sc.names n [] (.inl h)
 exact Option.isSome_iff_exists.mp q
theorem yop {CX:CXT}{P:Program}{w:World}{K:PySem.W.Frag}{mg:Str->Option Value}{base:Heap}{N ps:List Str}{qual:Str}{scope:Scope}{f:Addr}{cd:Value}{A:Around}{outer:List Env}{s s1:Shared}{H:Hp}{E:XK}{us:List Value}{vs:List V}
  (S:ydG N ps scope) (hd:A.handled=none) (e0:Env0 P w K mg base A outer s H) (hl:vs.length=ps.length) (r:Vals vs us)
  (x:InCallC s s.heap.objs.size (bindL (envOfC qual scope s.heap.objs.size f cd).kindOf (ps.zip us) fun _=>none) (cellsFrom (s.heap.objs.size+1) scope.names []) (bindC (envOfC qual scope s.heap.objs.size f cd).kindOf (ps.zip us) fun _=>none) s1) :
  Inv (yrq CX P w K mg base N qual scope f cd A outer s H E) [] (start N vs) H s1:=by
 have hpl:ps.length<=N.length:=by have:=congrArg length S.pre;rw [length_take] at this;omega
 obtain ⟨h1,tk,rfl,hk⟩:=x.done
 have noA:∀ b:Addr,b∉(yrq CX P w K mg base N qual scope f cd A outer s H E).ex:=fun b z=>absurd (show b∈([]:List Addr) from z) (by simp)
 refine ⟨⟨e0.mod,S.kind,rfl,rfl,Nat.le_refl _,fun y z c h1 h2=>?_,fun y hy=>?_,fun y c _ h=>?_,fun _=>hd,Around.frames_deeper e0.frames,.inr ⟨rfl,rfl⟩,fun b z=>absurd z (noA b),e0.bs,e0.bsz,fun b _ _=>noA b,fun b z=>absurd z (noA b),e0.funs,e0.frf⟩,
  rfl,e0.bare,Un.kept hk,⟨_,x.toInCall.ns,fun i y v h1 h2 h3=>?_⟩,fun y c h=>⟨_,x.cell y c h⟩,e0.hok.fresh (Nat.le_refl _),fun y c h=>?_,fun p hp=>absurd (show p∈([]:List (Addr×Obj)) from hp) (by simp),e0.hok.kept hk,?_⟩
 .exact name_of_addr x.apart (PySem.mem_of_lookup h1) (PySem.mem_of_lookup h2)
 .have hy:scope.names.lookup y=some .cell\/scope.names.lookup y=some .free:=hy
  rcases hy with hy|hy
  .exact ylY hy
  .exact absurd rfl (S.nofree _ (PySem.mem_of_lookup hy))
 .exact le_of_lt (x.above y c (PySem.mem_of_lookup h))
 .have hi:i<vs.length:=by
   unfold start at h2
   by_cases hi:i<vs.length
   .exact hi
   .rw [getElem?_append_right (by simpa using hi)] at h2
    rw [getElem?_replicate] at h2
    split at h2<;>cases h2
  have ha:vs[i]?=some v:=by
   unfold start at h2
   rw [getElem?_append_left (by simpa using hi),getElem?_map] at h2
   cases e:vs[i]? with
   | none=>rw [e] at h2;cases h2
   | some a=>rw [e] at h2;cases h2;rfl
  obtain ⟨u,hu,rv⟩:=r.get ha
  have hp:ps[i]?=some y:=by
   rw [<- S.pre,List.getElem?_take_of_lt (by omega)];exact h1
  have ndP:ps.Nodup:=by rw [<- S.pre];exact S.nd.sublist (List.take_sublist _ _)
  refine ⟨u,rv,?_⟩
  rcases S.par y (mem_of_getElem? hp) with k|k
  .exact .inl ⟨k,yjc ndP hp hu k⟩
  .obtain ⟨c,e⟩:=ylY (n:=s.heap.objs.size+1) k
   refine .inr ⟨.inl k,c,e,?_⟩
   have q:=x.cell y c e
   rw [yjd ndP hp hu (by show scope.names.lookup y≠_;rw [k];decide)] at q
   exact q
 .exact e0.hok.fresh (le_of_lt (x.above y c (PySem.mem_of_lookup h)))
 .unfold start
  show _=N.length
  rw [length_append,length_map,List.length_replicate]
  omega
theorem yAL {CX:CXT}{P:Program}{w:World}{K:PySem.W.Frag}{mg:Str->Option Value}{base:Heap}{k:Nat}{f:Addr}{name qual:Str}{params:Arguments}{body:List Stmt}{scope:Scope}{dV kV doc pm cdv ct oc:Value}{an od:Option Addr}
  {osl:Array (Option Value)}{N ps:List Str}{sp:Sp}(lk:K.lookup f=some ⟨oc,od,.func (fnOf name qual params body scope dV kV doc pm an cdv ct),osl⟩) (hcd:codeIn K cdv qual=true) (S:ydG N ps scope)
  (len:∀ vs H Q E,sp vs H Q E->vs.length=ps.length)
  (hbody:∀ (A:Around) (outer:List Env) (s:Shared) (H:Hp) (vs:List V) (Q:VK) (E:XK),Room k (A.deeper (envOfC qual scope s.heap.objs.size f cdv))->sp vs H Q E ->
   ∃ t,PSs (yrq CX P w K mg base N qual scope f cdv A outer s H E) body t/\t { nx:=fun _ H'=>Q .non H',rt:=Q } (start N vs) H) :
  FnOk P w K mg base CX (k+1) f (fnOf name qual params body scope dV kV doc pm an cdv ct) ps sp:=by
 refine ⟨len,fun A outer s H args us vs Q E hr e0 hb r hsp=>?_⟩
 have hl:=len _ _ _ _ hsp
 have KX:K.In s.heap:=e0.mod.kin.keeps fun b o e=>(e0.bs b o e).1
 have lim:s.heap.NoLimit:=e0.mod.nolimit.keeps fun b o e=>(e0.bs b o e).1
 have hkind:∀ y∈ps.zip us,scope.names.lookup y.1=some .local \/ (scope.names.lookup y.1=some .cell/\((cellsFrom (s.heap.objs.size+1) scope.names []).lookup y.1).isSome=true):=fun ⟨n,v⟩ hy=>by
  rcases S.par n (of_mem_zip hy).1 with q|q
  .exact .inl q
  .exact .inr ⟨q,PySem.W.cellsFrom_some _ _ _ (.inl q)⟩
 refine codeAny_call_function hr.depth (KX _ _ lk) rfl S.co S.gen rfl (PySem.W.codeRec_of KX hcd) (hb _ _ _ _ ?_)
 refine wpAny_newFunctionEnv_cells S.kind hkind fun env he s1 x=>?_
 subst he
 refine ⟨lim.keeps x.toInCall.keep,codeAny_func ?_⟩
 obtain ⟨t,ht,hq⟩:=hbody A outer s H vs Q E (hr.deeper _) hsp
 have I:Inv (yrq CX P w K mg base N qual scope f cdv A outer s H E) [] (start N vs) H s1:=yop S hr.hd e0 hl r x
 refine wpAny_mono (ht [] s1 (start N vs) H _ I hq) (fun fl s' hs=>?_) fun e s' hs=>hs
 have fin:∀ {σ':St}{H':Hp}{v:V}{u:Value},Inv (yrq CX P w K mg base N qual scope f cdv A outer s H E) [] σ' H' s'->RelV v u->Q v H'->CE outer P w H s Q u s' :=
  fun {σ' H' v u} J rv q=>⟨v,H',J.os,J.bare,J.base,J.hok,rv,q⟩
 cases fl with
 | ret u =>
  obtain ⟨v,σ',H',J,rv,q⟩:=hs
  exact fin J rv q
 | next =>
  obtain ⟨σ',H',J,q⟩:=hs
  exact fin (v:=V.non) (u:=Value.none) J rfl q
 | brk =>
  obtain ⟨_,_,_,q⟩:=hs
  exact False.elim q
 | cont =>
  obtain ⟨_,_,_,q⟩:=hs
  exact False.elim q
end L2
namespace L2
open PySem PySem.Spec PyProof.Rows
section
variable {X:Cx}{x:Str}{p pos:Pos}{e:Expr}{es:List Expr}{t:TA}{id T:String}{r:List V->Hp->VK->Prop}
def tCB (r:List V->Hp->VK->Prop) (t:TA):TE:=fun σ H Q=>t σ H fun vs H1=>r vs H1 Q
theorem yib (hc:CallR X (.builtin id) r) (hg:Gl X x) (hm:X.mg x=none) (hv:bootBuiltins x=some (.builtin id)) (ha:PA X (e::es) t) (hn:x≠"__name__":=by decide) (hdb:(x == ("__debug__":Str))=false:=by decide)
  (he:starEach (e::es) X.env=(false,eval e X.env)::starEach es X.env:=by rfl) (hpl:(backTo pos (starEach es X.env)).any (·.1)=false:=by rfl):PE X (.Call (.Name x p) (e::es) [] pos) (tCB r t):=by
 intro pins s σ H Q I h
 refine wpAny_Call_Name_kw (yiU I hg hm hv ?_ hn hdb)
 exact PyProof.Rows.callWith_builtin1 (thn (ha pos pins s σ H _ I h) fun us s1 ⟨vs,H1,I1,r1,q1⟩=>hc pins s1 σ H1 vs us Q I1 r1 q1) he hpl
theorem yje (hc:CallR X (.type T) r) (hg:Gl X x) (hm:X.mg x=none) (hv:bootBuiltins x=some (.type T)) (ha:PA X (e::es) t) (hn:x≠"__name__":=by decide) (hdb:(x == ("__debug__":Str))=false:=by decide)
  (he:starEach (e::es) X.env=(false,eval e X.env)::starEach es X.env:=by rfl) (hpl:(backTo pos (starEach es X.env)).any (·.1)=false:=by rfl):PE X (.Call (.Name x p) (e::es) [] pos) (tCB r t):=by
 intro pins s σ H Q I h
 refine wpAny_Call_Name_kw (yiU I hg hm hv ?_ hn hdb)
 exact PyProof.Rows.callWith_type1 (thn (ha pos pins s σ H _ I h) fun us s1 ⟨vs,H1,I1,r1,q1⟩=>hc pins s1 σ H1 vs us Q I1 r1 q1) he hpl
end
end L2
namespace HT
open PySem PyProof.Rows
section
open PySem.SeqAt
open PySem.AutoSeq1 (wpAny_loadPart')
open PySem.MeetsSeq PySem.MeetsSeq2 PySem.MeetsSeq3
end
section
variable {prog:Program}{w:World}{A:Around}{E:Value->Shared->Prop}{s:Shared}
def sIx (n d:Nat):Option Int->Nat
 | none=>d
 | some v=>if v<0 then (v+(n:Int)).toNat else min v.toNat n
theorem sIx_nat (n d k:Nat):sIx n d (some (k:Int))=min k n:=by
 show (if (k:Int)<0 then ((k:Int)+(n:Int)).toNat else min (k:Int).toNat n)=min k n
 rw [if_neg (by omega),Int.toNat_natCast]
end
end HT
namespace L2
open PySem PySem.Spec PyProof.Rows
abbrev TO:=St->Hp->(Option Int->Hp->Prop)->Prop
noncomputable def PO (X:Cx) (e:Option Expr) (t:TO):Prop :=
 ∀ (pins:List (Addr×Obj)) (s:Shared) (σ:St) (H:Hp) (Q:Option Int->Hp->Prop),Inv X pins σ H s->t σ H Q ->
  wpAny (model X.prog X.w) X.A (evalPart e X.env) (fun u s'=>∃ o H',Inv X pins σ H' s'/\IsPart u o/\Q o H') X.xe s
def yxO (t:TE):TO:=fun σ H Q=>t σ H fun x H1=>∃ i,x=.int i/\Q (some i) H1
theorem intsAre_of {ns:List Int}:∀ {us:List Value},Vals (ns.map V.int) us->IntsAre us ns:=by
 induction ns with
 | nil=>intro us r;rw [map_nil] at r;cases r;exact .nil
 | cons n ns ih =>
  intro us r
  rw [map_cons] at r
  cases r with
  | cons r1 r2 =>
   obtain ⟨t,e⟩:=r1
   subst e
   exact .cons n t (ih r2)
section
variable {X:Cx}{e:Expr}{te:TE}{lo hi:Option Expr}{tl th:TO}{pos p2:Pos}
theorem yuV (h:PE X e te):PO X (some e) (yxO te):=by
 intro pins s σ H Q I hw
 rw [evalPart_some]
 refine thn (h pins s σ H _ I hw) fun u s1 ⟨x,H1,I1,r1,q1⟩=>?_
 obtain ⟨i,rfl,q⟩:=q1
 obtain ⟨t,rfl⟩:=r1
 exact ⟨some i,H1,I1,.int i t,q⟩
def SlR (X:Cx) (r:V->Option Int->Option Int->Hp->VK->Prop):Prop :=
 ∀ (pins:List (Addr×Obj)) (s:Shared) (σ:St) (H:Hp) (x:V) (v vl vu:Value) (lo hi:Option Int) (sl:Addr) (Q:VK),Inv X pins σ H s->RelV x v->s.heap.IsSliceOf sl vl vu .none->IsPart vl lo->IsPart vu hi->r x lo hi H Q ->
  ∃ T id,typeLookup (.type T) "__getitem__" = pure (some (.builtin id))/\s.TypeIs v T/\wpAny (model X.prog X.w) X.A (getItem v (.ref sl)) (EP X pins σ Q) X.xe s
noncomputable def tSl (r:V->Option Int->Option Int->Hp->VK->Prop) (te:TE) (tl th:TO):TE:=fun σ H Q=>te σ H fun x H1=>tl σ H1 fun l H2=>th σ H2 fun u H3=>r x l u H3 Q
theorem yrr {r:V->Option Int->Option Int->Hp->VK->Prop}(hr:SlR X r) (he:PE X e te) (hl:PO X lo tl) (hu:PO X hi th):PE X (.Subscript e (.Slice lo hi none p2) pos) (tSl r te tl th):=by
 intro pins s σ H Q I h
 refine Subscript_ (thn (he pins s σ H _ I h) fun v s1 ⟨x,H1,I1,r1,q1⟩=>?_)
 refine wpAny_Slice (thn (hl pins s1 σ H1 _ I1 q1) fun vl s2 ⟨l,H2,I2,pl,q2⟩=>thn (hu pins s2 σ H2 _ I2 q2) fun vu s3 ⟨u,H3,I3,pu,q3⟩=>?_)
 rw [evalPart_none]
 refine wpAny_pure ?_
 have I4:Inv X pins σ H3 { s3 with heap:=s3.heap.push { cls:=.type "slice",data:=.fields #[vl,vu,.none] } }:=I3.kept (t':=s3.toks) fun b ob q=>Heap.get?_push_of_some _ q
 obtain ⟨T,id,hT,ht,hg⟩:=hr pins { s3 with heap:=s3.heap.push { cls:=.type "slice",data:=.fields #[vl,vu,.none] } } σ H3 x v vl vu l u s3.heap.objs.size Q I4 r1 (Heap.IsSliceOf.new ..) pl pu q3
 show wpAny (model X.prog X.w) X.A (subscriptTail e (.Slice lo hi none p2) v (.ref s3.heap.objs.size)) (EP X pins σ Q) X.xe { s3 with heap:=s3.heap.push { cls:=.type "slice",data:=.fields #[vl,vu,.none] } }
 exact tail_any (ops:=[.ref s3.heap.objs.size,v]) ht hT hg (by with_unfolding_all rfl)
noncomputable def yxP (xs:List V) (lo hi:Option Int):List V:=(xs.drop (HT.sIx xs.length 0 lo)).take (HT.sIx xs.length xs.length hi-HT.sIx xs.length 0 lo)
theorem ykH (xs:List V) (lo hi:Option Int):(yxP xs lo hi).length<=xs.length:=by
 unfold yxP
 rw [length_take,length_drop]
 omega
end
end L2
namespace L2
open PySem PySem.Spec PyProof.Rows
noncomputable def ixN (n:Nat) (i:Int):Option Nat:=if 0<=i then (if i<n then some i.toNat else none) else if -(n:Int)<=i then some (i+n).toNat else none
def atI {α:Type}(xs:List α) (i:Int):Option α:=(ixN xs.length i).bind fun j=>xs[j]?
theorem yoq {n:Nat}{i:Int}{j:Nat}(h:ixN n i=some j):seqIndex? i n=some j/\j<n/\-(n:Int)<=i/\i<n:=by
 unfold ixN at h
 by_cases h0:0<=i
 .rw [if_pos h0] at h
  by_cases h1:i<n
  .rw [if_pos h1] at h
   have e:i.toNat=j:=Option.some.inj h
   exact ⟨by rw [seqIndex_of h0 h1,e],by omega,by omega,h1⟩
  .rw [if_neg h1] at h;cases h
 .rw [if_neg h0] at h
  by_cases h1:-(n:Int)<=i
  .rw [if_pos h1] at h
   have e:(i+n).toNat=j:=Option.some.inj h
   exact ⟨by rw [seqIndex_neg (by omega) h1,e],by omega,h1,by omega⟩
  .rw [if_neg h1] at h;cases h
theorem ykI {α:Type}{xs:List α}{i:Int}{v:α}(h:atI xs i=some v):∃ j,seqIndex? i xs.length=some j/\xs[j]?=some v/\j<xs.length/\-(xs.length:Int)<=i/\i<xs.length:=by
 unfold atI at h
 cases e:ixN xs.length i with
 | none=>rw [e] at h;cases h
 | some j =>
  rw [e] at h
  obtain ⟨h1,h2,h3,h4⟩:=yoq e
  exact ⟨j,h1,h,h2,h3,h4⟩
theorem ycD {α:Type}{xs:List α}{j:Nat}{v:α}(h:xs[j]?=some v):atI xs (j:Int)=some v:=by
 have hj:j<xs.length:=(List.getElem?_eq_some_iff.mp h).1
 have e:ixN xs.length (j:Int)=some j:=by
  unfold ixN
  rw [if_pos (by omega),if_pos (by omega)];simp
 unfold atI;rw [e];exact h
def yor (b:Expr):Prop:=∀ o i,subscripted b false o i=operate [o,i] (getItem o i)
def IxR (X:Cx) (r:R2):Prop :=
 ∀ (value slice:Expr) (pins:List (Addr×Obj)) (s:Shared) (σ:St) (H:Hp) (x y:V) (v u:Value) (Q:VK),Inv X pins σ H s->RelV x v->RelV y u->r x y H Q ->
  subscripted slice false v u=operate [v,u] (getItem v u)->wpAny (model X.prog X.w) X.A (subscriptTail value slice v u) (EP X pins σ Q) X.xe s
def MtR (X:Cx) (id:String) (r:V->List V->Hp->VK->Prop):Prop :=
 ∀ (pins:List (Addr×Obj)) (s:Shared) (σ:St) (H:Hp) (x:V) (xs:List V) (v:Value) (us:List Value) (Q:VK),Inv X pins σ H s->RelV x v->Vals xs us->r x xs H Q ->
  wpAny (model X.prog X.w) X.A (call (.builtin id) (v::us)) (EP X pins σ Q) X.xe s
section
variable {X:Cx}{a b:Expr}{ta tb:TE}{pos:Pos}
theorem IxR.or {r r':R2}(h:IxR X r) (h':IxR X r'):IxR X (fun x y H Q=>r x y H Q\/r' x y H Q):=by
 intro value slice pins s σ H x y v u Q I rx ry q hs
 rcases q with q|q
 .exact h value slice pins s σ H x y v u Q I rx ry q hs
 .exact h' value slice pins s σ H x y v u Q I rx ry q hs
theorem yAM {r:R2}(hr:IxR X r) (ha:PE X a ta) (hb:PE X b tb) (hs:yor b):PE X (.Subscript a b pos) (tOp r ta tb):=by
 intro pins s σ H Q I h
 exact Subscript_ (yAG ha hb I h fun v u s2 x y H2 I2 rx ry q=>hr a b pins s2 σ H2 x y v u Q I2 rx ry q (hs _ _))
def yAN (K:PySem.W.Frag):R2:=fun x y H Q=>∃ p xs i v,x=.ref p/\y=.int i/\SqL K H p xs/\atI xs i=some v/\Q v H
def yAO (K:PySem.W.Frag):R2:=fun x y H Q=>∃ p xs i v,x=.ref p/\y=.int i/\SqT K H p xs/\atI xs i=some v/\Q v H
def yAP:R2:=fun x y H Q=>∃ z i c,x=.str z/\y=.int i/\z.length<=sizeLine/\atI z.cps.toList i=some c/\Q (.str ⟨#[c]⟩) H
theorem ix_list:IxR X (yAN X.K):=by
 intro value slice pins s σ H x y v u Q I rx ry h hs
 obtain ⟨p,xs,i,z,rfl,rfl,hq,he,q⟩:=h
 cases rx
 obtain ⟨t,rfl⟩:=ry
 obtain ⟨its,r,pl,hz⟩:=I.list hq
 obtain ⟨j,h1,h2,h3,h4,h5⟩:=ykI he
 obtain ⟨w,ew,rw'⟩:=r.get h2
 have hl:=r.length
 have hn:=yhC
 have fin:EP X pins σ Q w s:=⟨z,H,I,rw',q⟩
 by_cases h0:0<=i
 .have hj:i.toNat=j:=by
   rw [seqIndex_of h0 h5] at h1
   exact Option.some.inj h1
  exact item_listR pl.isList h0 (by omega) (by rw [hj];simpa using ew) fin hs
 .have hj:(i+(its.toArray.size:Int)).toNat=j:=by
   rw [seqIndex_neg (by omega) h4] at h1
   rw [size_toArray,<- hl]
   exact Option.some.inj h1
  exact subscriptTail_builtinR (x:=w) pl.isList.typeIs slot_list_getitem.lookup
   (wpAny_getItem_list_neg (Q:=fun r s'=>r=w/\EP X pins σ Q r s') pl.isList (by omega) (by rw [size_toArray]<;>omega) (by omega) (by rw [hj];simpa using ew) ⟨rfl,fin⟩) hs
theorem ix_tup:IxR X (yAO X.K):=by
 intro value slice pins s σ H x y v u Q I rx ry h hs
 obtain ⟨p,xs,i,z,rfl,rfl,hq,he,q⟩:=h
 cases rx
 obtain ⟨t,rfl⟩:=ry
 obtain ⟨its,r,pl,hz⟩:=I.tuple hq
 obtain ⟨j,h1,h2,h3,h4,h5⟩:=ykI he
 obtain ⟨w,ew,rw'⟩:=r.get h2
 have hl:=r.length
 have hn:=yhC
 have fin:EP X pins σ Q w s:=⟨z,H,I,rw',q⟩
 exact subscriptTail_builtinR (x:=w) pl.typeIs slot_tuple_getitem.lookup
  (getItem_tuple (j:=j) (Q:=fun r s'=>r=w/\EP X pins σ Q r s') pl (by omega) (by omega) (by rw [size_toArray,<- hl];exact h1) (by simpa using ew) ⟨rfl,fin⟩) hs
theorem yjf:IxR X yAP:=by
 intro value slice pins s σ H x y v u Q I rx ry h hs
 obtain ⟨z,i,c,rfl,rfl,hz,he,q⟩:=h
 obtain ⟨t,rfl⟩:=rx
 obtain ⟨t',rfl⟩:=ry
 obtain ⟨j,h1,h2,h3,h4,h5⟩:=ykI he
 have hl:z.cps.toList.length=z.length:=by simp [Str.length]
 rw [hl] at h1 h4 h5
 have hn:=yhC
 exact tail_any (typeIs_str s z t) slot_str_getitem.lookup (getItem_str (c:=c) (by
  have e1:decide (i < -(2 ^ 63:Int))=false:=decide_eq_false (by omega)
  have e2:decide (i>=2 ^ 63)=false:=decide_eq_false (by omega)
  rw [e1,e2,Bool.or_false]) (by rw [h1];simpa using h2) ⟨.str ⟨#[c]⟩,H,I.tok _,⟨_,rfl⟩,q⟩) hs
def rIx (K:PySem.W.Frag):R2:=fun x y H Q=>yAN K x y H Q\/yAO K x y H Q\/yAP x y H Q
theorem ytz:IxR X (rIx X.K):=ix_list.or (ix_tup.or yjf)
theorem ynj (its:List Value) (n j:Nat) (u:Value):Obj.mapSeq (·.setIfInBounds j u) { cls:=.type "list",data:=.seq its.toArray n }={ cls:=.type "list",data:=.seq (its.set j u).toArray n }:=by
 simp [Obj.mapSeq]
theorem Inv.lst {pins:List (Addr×Obj)}{σ:St}{H:Hp}{s:Shared}{p:Addr}{xs:List V}(I:Inv X pins σ H s) (h:H p=some (.lst xs)) :
  ∃ (its:List Value) (n:Nat),Vals xs its/\s.heap.get? p=some { cls:=.type "list",data:=.seq its.toArray n }/\xs.length<=sizeLine:=by
 obtain ⟨z,its,n,r,e⟩:=I.hok p _ h
 exact ⟨its,n,r,e,z⟩
theorem Inv.lstUpd {pins:List (Addr×Obj)}{σ:St}{H:Hp}{s:Shared}{p:Addr}{xs ys:List V}{its its':List Value}{n n':Nat}{f:Obj->Obj}(I:Inv X pins σ H s) (h:H p=some (.lst xs))
  (ho:s.heap.get? p=some { cls:=.type "list",data:=.seq its.toArray n }) (hf:f { cls:=.type "list",data:=.seq its.toArray n }={ cls:=.type "list",data:=.seq its'.toArray n' }) (r:Vals ys its') (hz:ys.length<=sizeLine) (t:Nat) :
  Inv X pins σ (upd H p (.lst ys)) { s with heap:=s.heap.update p f,toks:=t }:=by
 have e:(s.heap.update p f).get? p=some { cls:=.type "list",data:=.seq its'.toArray n' }:=by
  rw [Heap.get?_update_self f ho (by rw [hf]<;>rfl),hf]
 refine I.write (x:=p) (e:=p) (by rw [h];trivial) (.inl rfl) (fun b u hb q=>(Heap.get?_update_other _ _ (Ne.symm hb)).trans q) ⟨_,e⟩ ?_
 exact ⟨hz,its',n',r,e⟩
def yxQ:V->V->V->Hp->(Hp->Prop)->Prop:=fun o i v H Q=>∃ p xs k j,o=.ref p/\i=.int k/\H p=some (.lst xs)/\ixN xs.length k=some j/\Q (upd H p (.lst (xs.set j v)))
theorem set_list:yCJ X yxQ:=by
 intro pins s σ H o i v ov iv u Q I ro ri rv h
 obtain ⟨p,xs,k,j,rfl,rfl,hp,hj,q⟩:=h
 cases ro
 obtain ⟨t,rfl⟩:=ri
 obtain ⟨its,n,r,ho,hz⟩:=I.lst hp
 obtain ⟨h1,h2,h3,h4⟩:=yoq hj
 have hl:=r.length
 have hn:=yhC
 have I':Inv X pins σ (upd H p (.lst (xs.set j v))) { s with heap:=s.heap.update p (Obj.mapSeq (·.setIfInBounds j u)) } :=
  I.lstUpd hp ho (ynj its n j u) (r.set rv j) (by rw [length_set];exact hz) s.toks
 by_cases h0:0<=k
 .have hk:k.toNat=j:=by
   rw [seqIndex_of h0 h4] at h1
   exact Option.some.inj h1
  exact PySem.W.ki_setAt ho h0 (by omega) (by rw [size_toArray,<- hl];exact h4) (by rw [hk];exact ⟨_,I',q⟩)
 .have hk:(k+(its.toArray.size:Int)).toNat=j:=by
   rw [seqIndex_neg (by omega) h3] at h1
   rw [size_toArray,<- hl]
   exact Option.some.inj h1
  exact PySem.W.ki_setBack ho (by omega) (by rw [size_toArray,<- hl];exact h3) (by omega) (by rw [hk];exact ⟨_,I',q⟩)
theorem yjg (lo hi:Option Int) (n:Nat):(sliceBounds lo hi none n).1=((HT.sIx n 0 lo:Nat):Int)/\(sliceBounds lo hi none n).2.1=((HT.sIx n n hi:Nat):Int)/\(sliceBounds lo hi none n).2.2=1:=by
 refine ⟨?_,?_,rfl⟩
 .cases lo with
  | none=>simp [sliceBounds,HT.sIx]
  | some i =>
   simp only [sliceBounds,HT.sIx,Option.getD_none,show (1:Int)>0 by decide,if_true]
   by_cases h:i<0
   .simp only [h,if_true]<;>omega
   .simp only [h,if_false]<;>omega
 .cases hi with
  | none=>simp [sliceBounds,HT.sIx]
  | some i =>
   simp only [sliceBounds,HT.sIx,Option.getD_none,show (1:Int)>0 by decide,if_true]
   by_cases h:i<0
   .simp only [h,if_true]<;>omega
   .simp only [h,if_false]<;>omega
theorem yic (its:List Value) (lo hi:Option Int):slicePick its.toArray lo hi none=((its.drop (HT.sIx its.length 0 lo)).take (HT.sIx its.length its.length hi-HT.sIx its.length 0 lo)).toArray:=by
 obtain ⟨h1,h2,h3⟩:=yjg lo hi its.toArray.size
 unfold slicePick
 rw [h1,h2,h3]
 simp only [sliceRange_one,pick_run,size_toArray]<;>rfl
def yCT (K:PySem.W.Frag):V->Option Int->Option Int->Hp->VK->Prop:=fun x lo hi H Q=>∃ a xs,x=.ref a/\SqL K H a xs/\∀ p,H p=none->Q (.ref p) (upd H p (.lst (yxP xs lo hi)))
theorem yuW:SlR X (yCT X.K):=by
 intro pins s σ H x v vl vu lo hi sl Q I rx hs pl pu h
 obtain ⟨a,xs,rfl,hx,q⟩:=h
 cases rx
 obtain ⟨its,r,ht,hz⟩:=I.list hx
 have hlen:=r.length
 refine ⟨"list",_,slot_list_getitem.lookup,ht.isList.typeIs,?_⟩
 refine wpAny_getItem_list_slice ht.isList hs pl pu .none (by simp) ?_ (by rw [size_toArray]<;>omega)
 rw [yic,<- hlen]
 refine ⟨.ref s.heap.objs.size,_,I.laid (t':=s.toks) (o:=.lst (yxP xs lo hi)) (fun b ob q=>Heap.get?_push_of_some _ q) (Nat.le_refl _) ?_,rfl,q _ (I.hok.fresh (Nat.le_refl _))⟩
 exact ⟨Nat.le_trans (ykH xs lo hi) hz,_,0,(r.drop (HT.sIx xs.length 0 lo)).take (HT.sIx xs.length xs.length hi-HT.sIx xs.length 0 lo),Heap.get?_push_size _ rfl⟩
def ydH:V->Bool
 | .non=>true
 | .bl _=>true
 | .int _=>true
 | .str _=>true
 | _=>false
noncomputable def eqV:V->V->Bool
 | .non,.non=>true
 | .bl a,.bl b=>a == b
 | .bl a,.int b=>(if a then 1 else 0) == b
 | .int a,.bl b=>a == (if b then 1 else 0)
 | .int a,.int b=>a == b
 | .str a,.str b=>a == b
 | _,_=>false
theorem eqAt_V {A:Around}{s:Shared}{y x:V}{u v:Value}(ry:RelV y u) (rx:RelV x v) (fy:ydH y=true) (fx:ydH x=true):SeqAt.EqAt A s u v (eqV y x):=by
 cases y with
 | non =>
  cases ry
  cases x with
  | non=>cases rx;exact SeqAt.EqAt.same _
  | bl b=>cases rx;exact SeqAt.EqAt.none_bool b
  | int b=>obtain ⟨t,rfl⟩:=rx;exact SeqAt.EqAt.none_int b t
  | str b=>obtain ⟨t,rfl⟩:=rx;exact SeqAt.EqAt.none_str b t
  | _=>exact absurd (show false=true from fx) Bool.false_ne_true
 | bl a =>
  cases ry
  cases x with
  | non=>cases rx;exact SeqAt.EqAt.bool_none a
  | bl b=>cases rx;exact SeqAt.EqAt.bool_bool a b
  | int b=>obtain ⟨t,rfl⟩:=rx;exact SeqAt.EqAt.bool_int a b t
  | str b=>obtain ⟨t,rfl⟩:=rx;exact SeqAt.EqAt.bool_str a b t
  | _=>exact absurd (show false=true from fx) Bool.false_ne_true
 | int a =>
  obtain ⟨t',rfl⟩:=ry
  cases x with
  | non=>cases rx;exact SeqAt.EqAt.int_none a t'
  | bl b=>cases rx;exact SeqAt.EqAt.int_bool a t' b
  | int b=>obtain ⟨t,rfl⟩:=rx;exact SeqAt.EqAt.int_int a t' b t
  | str b=>obtain ⟨t,rfl⟩:=rx;exact SeqAt.EqAt.int_str a t' b t
  | _=>exact absurd (show false=true from fx) Bool.false_ne_true
 | str a =>
  obtain ⟨t',rfl⟩:=ry
  cases x with
  | non=>cases rx;exact SeqAt.EqAt.str_none a t'
  | bl b=>cases rx;exact SeqAt.EqAt.str_bool a t' b
  | int b=>obtain ⟨t,rfl⟩:=rx;exact SeqAt.EqAt.str_int a t' b t
  | str b=>obtain ⟨t,rfl⟩:=rx;exact SeqAt.EqAt.str_str a t' b t
  | _=>exact absurd (show false=true from fx) Bool.false_ne_true
 | _=>exact absurd (show false=true from fy) Bool.false_ne_true
def eqU (x:V) (u:Value):Bool:=match u with
 | .none=>eqV .non x
 | .bool b=>eqV (.bl b) x
 | .int i _=>eqV (.int i) x
 | .str z _=>eqV (.str z) x
 | _=>false
theorem ytA {x y:V}{u:Value}(r:RelV y u) (f:ydH y=true):eqU x u=eqV y x:=by
 cases y with
 | non=>cases r;rfl
 | bl b=>cases r;rfl
 | int i=>obtain ⟨t,rfl⟩:=r;rfl
 | str z=>obtain ⟨t,rfl⟩:=r;rfl
 | _=>exact absurd (show false=true from f) Bool.false_ne_true
theorem ykJ {x:V}:∀ {xs:List V}{us:List Value},Vals xs us->xs.all ydH=true->us.any (eqU x)=xs.any fun y=>eqV y x
 | _,_,.nil,_=>rfl
 | y::xs,u::us,.cons r t,f=>by
  rw [List.all_cons,and_eq_true] at f
  rw [any_cons,any_cons,ytA r f.1,ykJ t f.2]
theorem yid {A:Around}{s:Shared}{x:V}{v:Value}(rx:RelV x v) (fx:ydH x=true):∀ {xs:List V}{us:List Value},Vals xs us->xs.all ydH=true->∀ u∈us,SeqAt.EqAt A s u v (eqU x u)
 | _,_,.nil,_=>fun u hu=>by cases hu
 | y::xs,u::us,.cons r t,f=>fun u' hu=>by
  rw [List.all_cons,and_eq_true] at f
  rcases mem_cons.mp hu with rfl|hu
  .rw [ytA r f.1];exact eqAt_V r rx f.1 fx
  .exact yid rx fx t f.2 u' hu
def inV (x:V) (xs:List V):Bool:=xs.any fun y=>eqV y x
def rIn (K:PySem.W.Frag) (neg:Bool):R2:=fun x y H Q=>∃ p xs,y=.ref p/\(SqL K H p xs\/SqT K H p xs)/\ydH x=true/\xs.all ydH=true/\Q (.bl (if neg then !inV x xs else inV x xs)) H
theorem yos:OpR X (compareOp .In) (rIn X.K false):=by
 intro pins s σ H x y v u Q I rx ry h
 obtain ⟨p,xs,rfl,hq,fx,fs,q⟩:=h
 cases ry
 rcases hq with hq|hq
 .obtain ⟨its,r,pl,hz⟩:=I.list hq
  refine SeqAt.in_listAt (eqU x) pl.isList (fun w hw=>yid rx fx r fs w (by simpa using hw)) ⟨.bl _,H,I,rfl,?_⟩
  rw [show its.toArray.any (eqU x)=its.any (eqU x) by simp,ykJ r fs]
  exact q
 .obtain ⟨its,r,pl,hz⟩:=I.tuple hq
  refine SeqAt.in_tupleAt (eqU x) pl (fun w hw=>yid rx fx r fs w (by simpa using hw)) ⟨.bl _,H,I,rfl,?_⟩
  rw [show its.toArray.any (eqU x)=its.any (eqU x) by simp,ykJ r fs]
  exact q
theorem yA:CallR X (.builtin "len") (fun xs H Q=>∃ p ys,xs=[.ref p]/\(SqL X.K H p ys\/SqT X.K H p ys)/\Q (.int ys.length) H):=by
 intro pins s σ H xs us Q I r h
 obtain ⟨p,ys,rfl,hq,q⟩:=h
 obtain ⟨u,rfl,rx⟩:=vals1 r
 cases rx
 have hn:=yhC
 rcases hq with hq|hq
 .obtain ⟨its,r',pl,hz⟩:=I.list hq
  have hlen:=r'.length
  exact Calls.call_len_list pl.isList (by simp only [size_toArray]<;>omega) ⟨.int ys.length,H,I.tok _,⟨s.toks+1,by rw [size_toArray,hlen]⟩,q⟩
 .obtain ⟨its,r',pl,hz⟩:=I.tuple hq
  have hlen:=r'.length
  exact len_tuple pl (by simp only [size_toArray]<;>omega) ⟨.int ys.length,H,I.tok _,⟨s.toks+1,by rw [size_toArray,hlen]⟩,q⟩
theorem yec:CallR X (.builtin "len") (fun xs H Q=>∃ z,xs=[.str z]/\z.length<=sizeLine/\Q (.int z.length) H):=by
 intro pins s σ H xs us Q I r h
 obtain ⟨z,rfl,hz,q⟩:=h
 obtain ⟨u,rfl,t,rfl⟩:=vals1 r
 have hn:=yhC
 exact len_str (by omega) ⟨.int z.length,H,I.tok _,⟨_,rfl⟩,q⟩
theorem CallR.or {f:Value}{r r':List V->Hp->VK->Prop}(h:CallR X f r) (h':CallR X f r'):CallR X f (fun xs H Q=>r xs H Q\/r' xs H Q):=by
 intro pins s σ H xs us Q I rs q
 rcases q with q|q
 .exact h pins s σ H xs us Q I rs q
 .exact h' pins s σ H xs us Q I rs q
theorem yS:CallR X (.type "list") (fun xs H Q=>∃ p ys,xs=[.ref p]/\(SqL X.K H p ys\/SqT X.K H p ys)/\∀ l,H l=none->Q (.ref l) (upd H l (.lst ys))):=by
 intro pins s σ H xs us Q I r h
 obtain ⟨p,ys,rfl,hq,q⟩:=h
 obtain ⟨u,rfl,rx⟩:=vals1 r
 cases rx
 have fin:∀ (its:List Value),Vals ys its->ys.length<=sizeLine->∀ (h':Heap) (c':Nat),(∀ b o',s.heap.get? b=some o'->h'.get? b=some o') ->
   h'.get? s.heap.objs.size=some { cls:=.type "list",dict:=none,data:=.seq its.toArray c',slots:=#[] }->EP X pins σ Q (.ref s.heap.objs.size) { s with heap:=h' }:=fun its r' hz h' c' kp e =>
  ⟨.ref s.heap.objs.size,_,I.laid (t':=s.toks) kp (Nat.le_refl _) (show ObjOk X.prog X.w _ h' _ (.lst ys) from ⟨hz,its,c',r',e⟩),rfl,q _ (I.hok.fresh (Nat.le_refl _))⟩
 rcases hq with hq|hq
 .obtain ⟨its,r',pl,hz⟩:=I.list hq
  have hlen:=r'.length
  obtain ⟨o,ho,hc,n,hd⟩:=pl.isList
  exact call_list_seq p (.inl rfl) ho hc hd (fun h' c' kp e=>fin its r' hz h' c' kp e) (by simp only [size_toArray]<;>omega)
 .obtain ⟨its,r',pl,hz⟩:=I.tuple hq
  have hlen:=r'.length
  obtain ⟨o,ho,hc,n,hd⟩:=pl
  exact call_list_seq p (.inr rfl) ho hc hd (fun h' c' kp e=>fin its r' hz h' c' kp e) (by simp only [size_toArray]<;>omega)
def tyV (K:PySem.W.Frag) (T:String) (x:V) (H:Hp):Prop:=match x with
 | .str _=>T = "str"
 | .int _=>T = "int"
 | .ref p=>(T = "list"/\∃ xs,SqL K H p xs)\/(T = "tuple"/\∃ o,K.lookup p=some o/\o.cls=.type "tuple"/\o.dict=none) \/
   (T = "dict"/\((∃ kvs,H p=some (.dK kvs))\/∃ kvs,H p=some (.dT kvs)))\/(T = "set"/\∃ S n,H p=some (.set S n))
 | _=>False
theorem ytB {pins:List (Addr×Obj)}{σ:St}{H:Hp}{s:Shared}{T:String}{x:V}{v:Value}(I:Inv X pins σ H s) (r:RelV x v) (ty:tyV X.K T x H) :
  s.TypeIs v T/\∀ a,v=.ref a->∃ ob,s.heap.get? a=some ob/\ob.dict=none:=by
 cases x with
 | str z =>
  obtain ⟨t,rfl⟩:=r
  cases (show T = "str" from ty)
  exact ⟨typeIs_str s z t,fun _ e=>nomatch e⟩
 | int i =>
  obtain ⟨t,rfl⟩:=r
  cases (show T = "int" from ty)
  exact ⟨typeIs_int s i t,fun _ e=>nomatch e⟩
 | ref p =>
  cases r
  rcases ty with ⟨rfl,xs,hq⟩|⟨rfl,o,hk,hc,hd⟩|⟨rfl,hk⟩|⟨rfl,S,n,hk⟩
  .obtain ⟨its,_,pl,_⟩:=I.list hq
   refine ⟨pl.isList.typeIs,fun a e=>?_⟩
   cases e
   obtain ⟨o,n,e,c,hd,_⟩:=pl
   exact ⟨o,e,hd⟩
  .refine ⟨⟨o,I.kIn p o hk,hc⟩,fun a e=>?_⟩
   cases e
   exact ⟨o,I.kIn _ o hk,hd⟩
  .have z:∃ o,s.heap.get? p=some o/\o.ExactDict:=by
    rcases hk with ⟨kvs,hk⟩|⟨kvs,hk⟩
    .obtain ⟨_,_,_,_,o,_,_,e,ex,_⟩:=I.hok p _ hk
     exact ⟨o,e,ex⟩
    .obtain ⟨_,_,_,_,o,_,_,e,ex,_⟩:=I.hok p _ hk
     exact ⟨o,e,ex⟩
   obtain ⟨o,e,ex⟩:=z
   refine ⟨⟨o,e,ex.1⟩,fun a e2=>?_⟩
   cases e2
   exact ⟨o,e,ex.2.1⟩
  .obtain ⟨o,_,_,_,e,ex,_⟩:=I.hok p _ hk
   refine ⟨⟨o,e,ex.1⟩,fun a e2=>?_⟩
   cases e2
   exact ⟨o,e,ex.2.1⟩
 | _=>exact False.elim ty
def yAQ (K:PySem.W.Frag) (T:String) (r:V->List V->Hp->VK->Prop) (to:TE):TE:=fun σ H Q=>to σ H fun x H1=>tyV K T x H1/\r x [] H1 Q
def tBM (K:PySem.W.Frag) (T:String) (r:V->List V->Hp->VK->Prop) (to:TE) (t:TA):TE:=fun σ H Q=>to σ H fun x H1=>tyV K T x H1/\t σ H1 fun xs H2=>r x xs H2 Q
variable {o e:Expr}{es:List Expr}{to:TE}{t:TA}{name:Str}{apos cpos:Pos}{T id:String}{r:V->List V->Hp->VK->Prop}
theorem ytC (pa:PlainAttrs T) (slot:Slot T name id) (hty:typeOf (.builtin id)=pure (.type "method_descriptor")) (hm:MtR X id r) (ho:PE X o to)
  (hbase:attributeBase o name X.env (eval o X.env)=eval o X.env:=by rfl) (hline:(apos.endLine == cpos.line)=true:=by rfl):PE X (.Call (.Attribute o name apos) [] [] cpos) (yAQ X.K T r to):=by
 intro pins s σ H Q I h
 refine wpAny_Call_method0_late hbase hline (thn (ho pins s σ H _ I h) fun v s1 ⟨x,H1,I1,r1,ty,q1⟩=>?_)
 obtain ⟨h1,h2⟩:=ytB I1 r1 ty
 exact ⟨T,id,pa,slot,hty,h1,h2,Calls.callWith_builtin rfl (PySem.evalArgs_none (hm pins s1 σ H1 x [] v [] Q I1 r1 .nil q1))⟩
theorem yuX (pa:PlainAttrs T) (slot:Slot T name id) (hty:typeOf (.builtin id)=pure (.type "method_descriptor")) (hm:MtR X id r) (ho:PE X o to) (ha:PA X (e::es) t)
  (hbase:attributeBase o name X.env (eval o X.env)=eval o X.env:=by rfl)
  (hfew:((backTo cpos (starEach (e::es) X.env)).all (fun x=>!x.1) && (backToKw cpos (keywordEach [] X.env)).all (fun x=>x.1.isSome)
   && decide ((e::es).length+([]:List Keyword).length+(if ([]:List Keyword).isEmpty then 0 else 1)<30))=true:=by rfl)
  (hline:(apos.endLine == cpos.line)=true:=by rfl) (hs:starEach (e::es) X.env=(false,eval e X.env)::starEach es X.env:=by rfl) (hplain:(backTo cpos (starEach es X.env)).any (·.1)=false:=by rfl) :
  PE X (.Call (.Attribute o name apos) (e::es) [] cpos) (tBM X.K T r to t):=by
 intro pins s σ H Q I h
 refine wpAny_Call_method_late hbase hfew hline rfl (thn (ho pins s σ H _ I h) fun v s1 ⟨x,H1,I1,r1,ty,q1⟩=>?_)
 obtain ⟨h1,h2⟩:=ytB I1 r1 ty
 refine ⟨T,id,pa,slot,hty,h1,h2,?_⟩
 have hA:=ha cpos pins s1 σ H1 _ I1 q1
 rw [hs] at hA ⊢
 refine Calls.callWith_builtin (by show (false || (backTo cpos (starEach es X.env)).any (·.1))=false;rw [hplain]<;>rfl) (Calls.evalArgs_plain ?_)
 exact thn hA fun us s2 ⟨vs,H2,I2,r2,q2⟩=>hm pins s2 σ H2 x vs v us Q I2 r1 r2 q2
end
end L2
namespace L2
open PySem PySem.Spec PyProof.Rows
def MtM (X:Cx) (id:String) (r:V->List V->Hp->VK->Prop):Prop :=
 ∀ (pins:List (Addr×Obj)) (s:Shared) (σ:St) (H:Hp) (x:V) (xs:List V) (v:Value) (us:List Value) (Q:VK),Inv X pins σ H s->RelV x v->Vals xs us->r x xs H Q ->
  wpAny (model X.prog X.w) X.A (call (.builtin id) (v::us)) (EP X pins σ Q) X.xe s
theorem Vals.one:∀ {x:V}{us:List Value},Vals [x] us->∃ u,us=[u]/\RelV x u
 | _,_,.cons r .nil=>⟨_,rfl,r⟩
theorem Vals.zero:∀ {us:List Value},Vals [] us->us=[]
 | _,.nil=>rfl
theorem Vals.rep {xs:List V}{us:List Value}(h:Vals xs us):∀ k:Nat,Vals (replicate k xs).flatten (replicate k us).flatten
 | 0=>.nil
 | k+1=>by
  rw [List.replicate_succ,List.replicate_succ,List.flatten_cons,List.flatten_cons]
  exact Vals.append h (Vals.rep h k)
theorem foldl_rep (its:List Value):∀ (k:Nat) (acc:List Value),
  List.foldl (fun x1 x2=>x1++x2) acc.toArray (replicate k its.toArray)=(acc++(replicate k its).flatten).toArray
 | 0,acc=>by simp
 | k+1,acc=>by
  have e:acc.toArray++its.toArray=(acc++its).toArray:=by simp
  have e2:(acc++its)++(replicate k its).flatten=acc++(replicate (k+1) its).flatten:=by
   rw [List.replicate_succ,List.flatten_cons,append_assoc]
  rw [<- e2,<- foldl_rep its k (acc++its),<- e,List.replicate_succ,List.foldl_cons]
section
variable {X:Cx}{pins:List (Addr×Obj)}{σ:St}{H:Hp}{s:Shared}{l b:Addr}{xs ys zs:List V}
theorem Inv.lset {its its':List Value}{n:Nat}{f:Array Value->Array Value}{t':Nat}(I:Inv X pins σ H s) (hH:H l=some (.lst xs))
  (e:s.heap.get? l=some { cls:=.type "list",data:=.seq its.toArray n }) (hf:f its.toArray=its'.toArray) (hv:Vals ys its') (hz:ys.length<=sizeLine) :
  Inv X pins σ (upd H l (.lst ys)) { s with heap:=s.heap.update l (Obj.mapSeq f),toks:=t' }:=by
 have q:=PySem.IsL.update e f
 rw [hf] at q
 refine I.write (x:=l) (e:=l) (by rw [hH];exact trivial) (.inl rfl) (fun b' u hb hu=>(Heap.get?_update_other s.heap (Obj.mapSeq f) (Ne.symm hb)).trans hu) ⟨_,q⟩ ?_
 exact ⟨hz,its',_,hv,q⟩
theorem Inv.lnew {its:List Value}{t':Nat}(I:Inv X pins σ H s) (hv:Vals ys its) (hz:ys.length<=sizeLine) :
  Inv X pins σ (upd H s.heap.objs.size (.lst ys)) { s with heap:=s.heap.push { cls:=.type "list",data:=.seq its.toArray },toks:=t' } :=
 I.laid (fun _ _ q=>Heap.get?_push_of_some _ q) (Nat.le_refl _) ⟨hz,its,0,hv,Heap.get?_push_size _ rfl⟩
theorem Inv.fresh (I:Inv X pins σ H s):H s.heap.objs.size=none:=I.hok.fresh (Nat.le_refl _)
theorem Inv.lstM (I:Inv X pins σ H s) (hH:H l=some (.lst xs)):xs.length<=sizeLine/\∃ (its:List Value) (n:Nat),Vals xs its/\xs.length=its.length/\s.heap.get? l=some { cls:=.type "list",data:=.seq its.toArray n }:=by
 obtain ⟨z,its,n,r,e⟩:=I.hok l _ hH
 exact ⟨z,its,n,r,r.length,e⟩
theorem ylZ {n:Nat}(h:n<=sizeLine):Builtin.List.listTooLong n=false:=by
 unfold Builtin.List.listTooLong
 exact decide_eq_false (by omega)
end
section
variable {X:Cx}
noncomputable def ykK:V->List V->Hp->VK->Prop:=fun x vs H Q=>∃ l xs y,x=.ref l/\vs=[y]/\H l=some (.lst xs)/\xs.length<sizeLine/\Q .non (upd H l (.lst (xs++[y])))
theorem yed:MtM X "list.append" ykK:=by
 intro pins s σ H x vs v us Q I rx rv h
 obtain ⟨l,xs,y,rfl,rfl,hH,hz,q⟩:=h
 cases rx
 obtain ⟨u,rfl,ru⟩:=rv.one
 obtain ⟨z,its,n,r,hl,e⟩:=I.lstM hH
 refine call_meets F.slot_list_append ⟨_,e,rfl⟩ F.entry_list_append (F.args_list_append_2 _ _) (PySem.list_append l its.toArray n u (by rw [size_toArray];omega)) ⟨e,?_⟩
 refine ⟨.non,_,I.lset (its':=its++[u]) hH e (by simp) (r.append (.cons ru .nil)) ?_,rfl,q⟩
 rw [length_append,List.length_singleton]
 omega
noncomputable def yot:V->List V->Hp->VK->Prop:=fun x vs H Q=>∃ l b xs zs,x=.ref l/\vs=[.ref b]/\H l=some (.lst xs)/\H b=some (.lst zs)/\xs.length+zs.length<=sizeLine/\Q .non (upd H l (.lst (xs++zs)))
theorem you:MtM X "list.extend" yot:=by
 intro pins s σ H x vs v us Q I rx rv h
 obtain ⟨l,b,xs,zs,rfl,rfl,hH,hB,hz,q⟩:=h
 cases rx
 obtain ⟨u,rfl,ru⟩:=rv.one
 cases ru
 obtain ⟨z,its,n,r,hl,e⟩:=I.lstM hH
 obtain ⟨z2,its2,n2,r2,hl2,e2⟩:=I.lstM hB
 have hsz:its.toArray.size+its2.toArray.size<=sizeLine:=by rw [size_toArray,size_toArray];omega
 have hlong:¬ (!its.toArray.isEmpty && Builtin.List.listTooLong (its.toArray.size+its2.toArray.size))=true:=by
  rw [ylZ hsz,Bool.and_false]
  exact Bool.false_ne_true
 refine call_meets F.slot_list_extend ⟨_,e,rfl⟩ F.entry_list_extend (F.args_list_extend_2 _ _)
  (AutoSeq1.list_extend_list_list_0 l its.toArray n b its2.toArray n2 hlong (by rw [size_toArray];omega) (by omega)) ⟨e,e2,?_⟩
 refine ⟨.non,_,I.lset (its':=its++its2) hH e (by simp) (r.append r2) ?_,rfl,q⟩
 rw [length_append]
 omega
noncomputable def yCU:R2:=fun x y H Q=>∃ l b xs zs,x=.ref l/\y=.ref b/\H l=some (.lst xs)/\H b=some (.lst zs)/\xs.length+zs.length<=sizeLine/\∀ p,H p=none->Q (.ref p) (upd H p (.lst (xs++zs)))
theorem yxR:OpR X (binaryOp .Add) yCU:=by
 intro pins s σ H x y v u Q I rx ry h
 obtain ⟨l,b,xs,zs,rfl,rfl,hH,hB,hz,q⟩:=h
 cases rx
 cases ry
 obtain ⟨z,its,n,r,hl,e⟩:=I.lstM hH
 obtain ⟨z2,its2,n2,r2,hl2,e2⟩:=I.lstM hB
 refine PySem.P.add_list e e2 ?_ (by rw [size_toArray,size_toArray];omega)
 have ea:its.toArray++its2.toArray=(its++its2).toArray:=by simp
 rw [ea]
 exact ⟨.ref _,_,I.lnew (t':=s.toks) (r.append r2) (by rw [length_append];omega),rfl,q _ I.fresh⟩
noncomputable def yCV:R2:=fun x y H Q=>∃ l k xs,x=.ref l/\y=.int k/\H l=some (.lst xs)/\-(2 ^ 63)<=k/\k<2 ^ 63/\xs.length*k.toNat<=sizeLine /\
 ∀ p,H p=none->Q (.ref p) (upd H p (.lst (replicate k.toNat xs).flatten))
theorem len_rep {α:Type}(xs:List α) (k:Nat):(replicate k xs).flatten.length=k*xs.length:=by
 induction k with
 | zero=>simp
 | succ k ih=>rw [List.replicate_succ,List.flatten_cons,length_append,ih,Nat.succ_mul,Nat.add_comm]
theorem yma:OpR X (binaryOp .Mult) yCV:=by
 intro pins s σ H x y v u Q I rx ry h
 obtain ⟨l,k,xs,rfl,rfl,hH,h1,h2,hz,q⟩:=h
 cases rx
 obtain ⟨t,rfl⟩:=ry
 obtain ⟨z,its,n,r,hl,e⟩:=I.lstM hH
 have hlen:its.toArray.size*k.toNat<=sizeLine:=by rw [size_toArray,<- hl];exact hz
 have hcap:¬ its.toArray.size*k.toNat>(2 ^ 63-1)/8:=by
  have:(sizeLine:Nat)<=(2 ^ 63-1)/8:=by decide
  omega
 have hfit:¬ (!Builtin.List.listFitsIndex k)=true:=by
  rw [fitsIndex_both h1 h2]
  exact Bool.false_ne_true
 have hlong:¬ Builtin.List.listTooLong (its.toArray.size*k.toNat)=true:=by
  rw [ylZ hlen]
  exact Bool.false_ne_true
 have hnew:List.foldl (fun x1 x2=>x1++x2) #[] (replicate (if its.toArray.isEmpty=true then 0 else k.toNat) its.toArray)=(replicate k.toNat its).flatten.toArray:=by
  have f0:∀ m:Nat,List.foldl (fun x1 x2=>x1++x2) #[] (replicate m its.toArray)=(replicate m its).flatten.toArray:=fun m=>by
   have:=foldl_rep its m []
   rw [List.nil_append] at this
   exact this
  rw [f0]
  cases its with
  | nil=>simp
  | cons a r'=>rw [if_neg (by simp)]
 refine wpAny_binaryOp_repeat_ref (T:="list") (U:="int") (by decide) ⟨_,e,rfl⟩ (fun s'=>typeIs_int s' k t) noFill_list_mul F.fills_int_mul F.slot_int_rmul repeat_list F.slot_int_index.lookup
  (call_meets F.slot_int_rmul (typeIs_int s k t) F.entry_int_rmul (F.args_int_rmul_2 _ _) (int___rmul___int_list k t l its.toArray n)
   ⟨e,rfl,⟨_,e,rfl⟩,call_meets F.slot_list_mul ⟨_,e,rfl⟩ F.entry_list_mul (F.args_list_mul_2 _ _) (AutoListH.list___mul___list_int_3 l its.toArray n k t hfit hcap hlong) ⟨e,?_⟩⟩)
 rw [hnew]
 exact ⟨.ref _,_,I.lnew (t':=s.toks) (r.rep k.toNat) (by rw [len_rep,Nat.mul_comm];exact hz),rfl,q _ I.fresh⟩
end
section
variable {prog:Program}{w:World}{A:Around}{E:Value->Shared->Prop}{s:Shared}
end
section
variable {X:Cx}
end
end L2
namespace Att
open PySem PySem.W PySem.Calls PyProof.Rows
theorem ygD {P:Params}{h:Heap}:∀ (ns:List Int) (vs:List Value),WellAll P h vs (ns.map WData.int)->IntsAre vs ns:=by
 intro ns
 induction ns with
 | nil =>
  intro vs w
  rw [map_nil] at w
  cases w
  exact .nil
 | cons n ns ih =>
  intro vs w
  rw [map_cons] at w
  cases w with
  | cons a b =>
   cases a
   exact .cons _ _ (ih _ b)
theorem yov {l:OpenLaw}{n:Nat}(hn:l.most=some n) {P:Params}{h:Heap}{args:List WData}{vals:List Value}
  (hpre:l.row.toRowW.claim.pre args=true) (hwl:WellAll P h vals args) :
  ∃ a vs ns,vals=[Value.ref a]/\args=[WData.list (ns.map WData.int)]/\h.get? a=some { cls:=.type "list",data:=.seq vs.toArray }/\IntsAre vs ns/\ns.length<=n:=by
 have hsh:WShape.hasAll [] args [.list .int]=true:=(pre_splitW hpre).1
 have hc:l.pre.holds [] { args:=args }=true:=(pre_splitW hpre).2
 obtain ⟨d,r,rfl,h1,h2⟩:=hasAllW_cons hsh
 obtain rfl:=hasAllW_nil h2
 obtain ⟨xs,rfl,h3⟩:=hasW_list h1
 obtain ⟨ns,rfl⟩:=items_int h3
 have hlen:ns.length<=n:=by
  unfold OpenLaw.pre at hc
  have h4:(WTm.not (.lt (.lit (.int (n:Int))) (.len (.arg 0)))).holds [] { args:=[.list (ns.map .int)] }=true:=by
   have h4:=(holds_andW hc).1
   rw [hn] at h4
   exact h4
  have h5:=condW_of h4 (w_not (w_lt w_lit (w_len_list (w_arg rfl))))
  rw [length_map] at h5
  refine Nat.le_of_not_lt fun q=>?_
  have q':(n:Int)<((ns.length:Nat):Int):=by omega
  first
   | (rw [decide_eq_true q'] at h5;exact absurd h5 (by decide))
   | (simp at h5;omega)
 cases hwl with
 | cons w1 w2 =>
  cases w2
  cases w1 with
  | list ho hall=>exact ⟨_,_,ns,rfl,rfl,ho,ygD ns _ hall,hlen⟩
theorem yow (l:OpenLaw) (args:List WData):l.row.toRowW.claim.post args (.bool true) args=true :=
 postW_of (r:=l.row.toRowW) (X:=(true == true))
  (show WShape.has [] (.bool true) .bool=true by first|rfl|decide|simp [WShape.has,WShape.arms,WShape.armsAll])
  (show (WTm.eq .res (.lit (.bool true))).value [] { args:=args,res:=some (.bool true),after:=args }=some (.bool (true == true)) from w_eq_bool (w_res rfl) w_lit) rfl
theorem attach_call {l:OpenLaw}{n:Nat}{q:Program}{loose:List Str}{XP:(Str->Option Value)->Heap->Prop}{YP:World->Heap->Prop}{d:DefRec}
  (hn:l.most=some n) (hdf:d.params.defaults=[])
  (call:∀ (w:World) (s₀ s₁:Shared) (mg mb:Str->Option Value) (fa:Addr) (o:Obj) (pm cd doc:Value) (a:Addr) (vs:List Value) (ns:List Int),
   Ground q loose [] XP w s₀ mg mb s₁.heap->YP w s₁.heap ->
   s₁.heap.get? fa=some o->o.data=.func (docDef d.name d.params d.body d.scope pm cd doc)->s₁.heap.CodeRec cd d.name->mg d.name=some (.ref fa) ->
   s₁.heap.get? a=some { cls:=.type "list",data:=.seq vs.toArray }->IntsAre vs ns->ns.length<=n->s₁.gens = #[] ->
   codeAny (model l.prog w) callerA (.call (.ref fa) ⟨[.ref a],[]⟩) (fun r s'=>r=.ok (.ret (.bool true))/\OldK s₁.heap s'.heap/\s'.os=s₁.os/\AllBare s'.gens) s₁) :
  WalkO q loose XP YP l.row.toRowW d [] (fun f vs=>PySem.call f vs):=by
 intro w s₀ s₁ mg mb G Y fa o pm cd doc dV kV ho hd hcd hD hmg hg args vals as hpre hlay hrd hwl hlo
 obtain rfl:dV=.none:=Dflts.none hD hdf
 obtain rfl:kV=.none:=Dflts.noKw hD
 obtain ⟨a,vs,ns,rfl,rfl,hobj,hints,hlen⟩:=yov hn hpre hwl
 refine enter_call (codeAny_mono (call w s₀ s₁ mg mb fa o pm cd doc a vs ns G Y ho (fd_plain hd) hcd hmg hobj hints hlen hg) fun r s' hq=>?_)
 obtain ⟨rfl,h2,h3,h4⟩:=hq
 exact ⟨.inl ⟨.bool true,.bool true,[],rfl,fun _=>rfl,.bool true,yow l _,fun _=>⟨List.Pairwise.nil,fun _ hm=>(nomatch hm)⟩⟩,h2,h3,h4⟩
section
variable {prog:Program}{w:World}{A:Around}{E:Value->Shared->Prop}{s:Shared}{K:Frag}
end
end Att
namespace L2
open PySem PySem.Spec PyProof.Rows
theorem ygE:∀ {vs:List Value}{ns:List Int},IntsAre vs ns->Vals (ns.map V.int) vs
 | _,_,.nil=>.nil
 | _,_,.cons n t h=>.cons ⟨t,rfl⟩ (ygE h)
def yAR (H:Hp):Prop:=∀ b,H b=none\/∃ o xs,H b=some (.frz o (.lst xs))
theorem yrs {P:Program}{w:World}{K:PySem.W.Frag}{mg mb:Str->Option Value}{CX:CXT}{k:Nat}{fa a:Addr}{fd:FuncData}{x:Str}{sp:Sp}{s₁:Shared}{vs:List Value}{ns:List Int}
  (KX:K.In s₁.heap) (hns:s₁.heap.Ns mainGlobals mg) (hb:s₁.heap.Ns builtinsNs mb) (hbb:∀ x:Str,x≠"__name__"->mb x=bootBuiltins x) (hlim:s₁.heap.NoLimit) (hg:s₁.gens = #[])
  (ha:s₁.heap.get? a=some { cls:=.type "list",data:=.seq vs.toArray }) (hi:IntsAre vs ns) (hl:ns.length<=sizeLine) (hr:Room k callerA)
  (F:∀ base:Heap,K.In base->base.Ns mainGlobals mg->FnOk P w K mg base CX k fa fd [x] sp) (hbind:∀ (s:Shared) (u:Value),BindsTo s fd ⟨[u],[]⟩ [(x,u)])
  (hsp:∀ H:Hp,yAR H->SqL K H a (ns.map V.int)->sp [.ref a] H (fun v _=>v=.bl true) fun _ _ _=>False)
  (hCX:∀ H e s',CX [] H s₁ (fun _ _ _=>False) e s'->False) :
  codeAny (model P w) callerA (.call (.ref fa) ⟨[.ref a],[]⟩) (fun r s'=>r=.ok (.ret (.bool true))/\OldK s₁.heap s'.heap/\s'.os=s₁.os/\AllBare s'.gens) s₁:=by
 have rv:=ygE hi
 have lenV:=hi.length
 have core:∀ H:Hp,yAR H->SqL K H a (ns.map V.int)->HOk P w H s₁.heap->(∀ b,H b≠none->b=a)->(H a≠none->K.lookup a=none) ->
   codeAny (model P w) callerA (.call (.ref fa) ⟨[.ref a],[]⟩) (fun r s'=>r=.ok (.ret (.bool true))/\OldK s₁.heap s'.heap/\s'.os=s₁.os/\AllBare s'.gens) s₁:=by
  intro H hO hS hok hA hK
  have base_of:∀ {b:Addr}{o:Obj},s₁.heap.get? b=some o->H b=none->(yra s₁.heap H).get? b=some o:=fun e n=>yrb e n
  have noA:∀ {b:Addr}{o:Obj}{es:Array DictEntry}{ep:Nat},s₁.heap.get? b=some o->o.data=.dict es ep->H b=none:=fun {b o es ep} e d=>by
   cases q:H b with
   | none=>rfl
   | some u =>
    have e':b=a:=hA b (by rw [q];simp)
    subst e'
    rw [ha] at e;cases e
    have d':Data.seq vs.toArray _=Data.dict es ep:=d
    cases d'
  have nsK:∀ {b:Addr}{m:Str->Option Value},s₁.heap.Ns b m->(yra s₁.heap H).Ns b m:=fun {b m} ⟨o,es,ep,e,d,r⟩=>⟨o,es,ep,base_of e (noA e d),d,r⟩
  have hKb:K.In (yra s₁.heap H):=fun b o e=>base_of (KX b o e) (by
   cases q:H b with
   | none=>rfl
   | some u =>
    have e':b=a:=hA b (by rw [q];simp)
    subst e'
    rw [hK (by rw [q];simp)] at e;cases e)
  have hM:Mod K mg (yra s₁.heap H):=⟨hKb,nsK hns,⟨mb,nsK hb,hbb⟩,let ⟨mc,h1,h2⟩:=hlim;⟨mc,nsK h1,h2⟩⟩
  have e0:Env0 P w K mg (yra s₁.heap H) callerA [] s₁ H:=⟨rfl,hM,fun b o e=>yuD e,le_of_eq (ynY _ _),trivial,fun b hb=>absurd (show b∈([]:List Addr) from hb) (by simp),hok,.of_eq hg⟩
  refine codeAny_mono ((F _ hKb (nsK hns)).run callerA [] s₁ H ⟨[.ref a],[]⟩ [.ref a] [.ref a] _ _ hr e0 (hbind s₁ (.ref a)) (.cons rfl .nil) (hsp H hO hS)) fun r s' h=>?_
  cases r with
  | error e=>exact (hCX H e s' h).elim
  | ok fl =>
   cases fl with
   | next=>exact False.elim h
   | brk=>exact False.elim h
   | cont=>exact False.elim h
   | ret u =>
    obtain ⟨v,H',os,bare,un,hok',r',q⟩:=h
    have q':v=.bl true:=q
    subst q'
    obtain rfl:u=Value.bool true:=r'
    refine ⟨rfl,OldK.of_keep fun b o e=>?_,os,bare⟩
    cases q:H b with
    | none=>exact un.keep b o e q (by intro z;exact absurd (show b∈([]:List Addr) from z) (by simp)) (by simp)
    | some u =>
     rcases hO b with z|⟨ob,xs,z⟩
     .rw [q] at z;cases z
     .have z2:=un.frzs b ob _ z
      obtain ⟨e1,_⟩:=hok b _ z
      obtain ⟨e2,_⟩:=hok' b _ z2
      rw [e] at e1;cases e1
      exact e2
 cases hk:K.lookup a with
 | some o =>
  have e:=KX a o hk
  rw [ha] at e
  cases e
  refine core (fun _=>none) (fun _=>.inl rfl) (.inr ⟨_,vs.toArray,_,hk,rfl,rfl,rfl,by rw [size_toArray,lenV];exact hl,by simpa using rv⟩) (fun b u z=>by have z':(none:Option HO)=some u:=z;cases z') (fun b z=>absurd rfl z) fun z=>absurd rfl z
 | none =>
  refine core (fun b=>if b=a then some (.frz { cls:=.type "list",data:=.seq vs.toArray } (.lst (ns.map V.int))) else none) (fun b=>?_) (.inl (.inr ⟨{ cls:=.type "list",data:=.seq vs.toArray },if_pos rfl⟩)) (fun b u z=>?_) (fun b z=>?_) fun _=>hk
  .by_cases hb:b=a
   .exact .inr ⟨_,_,if_pos hb⟩
   .exact .inl (if_neg hb)
  .by_cases hb:b=a
   .have z':=(if_pos hb).symm.trans z
    cases z'
    subst hb
    exact ⟨ha,by rw [length_map];exact hl,vs,_,rv,ha⟩
   .have z':=(if_neg hb).symm.trans z
    cases z'
  .by_cases hb:b=a
   .exact hb
   .exact absurd (if_neg hb) z
end L2
namespace L2
open PySem PySem.Spec PyProof.Rows
theorem walk_of {l:PySem.W.OpenLaw}{n k:Nat}{q:Program}{loose:List Str}{XP:(Str->Option Value)->Heap->Prop}{YP:World->Heap->Prop}{d:DefRec}{K:Params->PySem.W.Frag}{CX:World->CXT}{sp:World->Sp}{x:Str}
  (hn:l.most=some n) (hn2:n<=sizeLine) (hdf:d.params.defaults=[]) (hr:Room k callerA)
  (hY:∀ (w:World) (h:Heap),YP w h->(K w.params).In h)
  (F:∀ (w:World) (mg:Str->Option Value) (fa:Addr) (h:Heap),(K w.params).In h->h.Ns mainGlobals mg->mg d.name=some (.ref fa) ->
   ∃ fd:FuncData,(∀ (s:Shared) (u:Value),BindsTo s fd ⟨[u],[]⟩ [(x,u)]) /\
    ∀ base:Heap,(K w.params).In base->base.Ns mainGlobals mg->FnOk l.prog w (K w.params) mg base (CX w) k fa fd [x] (sp w))
  (hsp:∀ (w:World) (H:Hp) (a:Addr) (ns:List Int),ns.length<=n->yAR H->SqL (K w.params) H a (ns.map V.int)->sp w [.ref a] H (fun v _=>v=.bl true) fun _ _ _=>False)
  (hCX:∀ (w:World) (H:Hp) (s:Shared) (e:Value) (s':Shared),CX w [] H s (fun _ _ _=>False) e s'->False) :
  PySem.W.WalkO q loose XP YP l.row.toRowW d [] (fun f vs=>PySem.call f vs):=by
 refine Att.attach_call hn hdf fun w s₀ s₁ mg mb fa o pm cd doc a vs ns G Y ho hd hcd hmg hobj hints hlen hg=>?_
 have KX:=hY w _ Y
 obtain ⟨fd,hb,hF⟩:=F w mg fa _ KX G.T.g hmg
 exact yrs KX G.T.g G.T.b G.T.builtins G.T.nolimit hg hobj hints (Nat.le_trans hlen hn2) hr hF hb (fun H hO hS=>hsp w H a ns hlen hO hS) fun H e s'=>hCX w H s₁ e s'
end L2
namespace L2
open PySem PySem.Spec PyProof.Rows
noncomputable def inClass (s:Stmt) (j:Nat):Stmt:=match s with
 | .ClassDef _ _ _ body _ _ _ _ _ _ _=>body.getD j (.Pass ⟨0,0,0,0⟩)
 | _=>.Pass ⟨0,0,0,0⟩
noncomputable def ykL (s:Stmt):Arguments:=match s with
 | .FunctionDef _ a _ _ _ _ _ _ _ _=>a
 | _=>{ posonlyargs:=[],args:=[],vararg:=none,kwonlyargs:=[],kw_defaults:=[],kwarg:=none,defaults:=[] }
def yeM (s:Stmt):List Stmt:=match s with
 | .FunctionDef _ _ b _ _ _ _ _ _ _=>b
 | _=>[]
noncomputable def ybl (s:Stmt):Scope:=match s with
 | .FunctionDef _ _ _ _ _ _ sc _ _ _=>sc
 | _=>{ kind:=.function,names:=[],isGenerator:=false,isCoroutine:=false }
abbrev CX0:CXT:=fun _ _ _ _ _ _=>False
abbrev E0:XK:=fun _ _ _=>False
theorem yjh {X:Cx}:yeV CX0 X E0:=fun _ _ _ _ _ _ _ h=>h.elim
structure Fun (K:PySem.W.Frag) (x qual:Str) (st:Stmt) (f:Addr) (fd:FuncData):Prop where
 ex:∃ (oc:Value) (od:Option Addr) (kV doc pm:Value) (an:Option Addr) (cdv ct:Value) (osl:Array (Option Value)),
  fd=fnOf x qual (ykL st) (yeM st) (ybl st) .none kV doc pm an cdv ct/\K.lookup f=some ⟨oc,od,.func fd,osl⟩/\codeIn K cdv qual=true
 kp:keepIn K (.ref f)=true
section
variable {P:Program}{w:World}{K:PySem.W.Frag}{mg:Str->Option Value}{base:Heap}
theorem Fun.ok {x qual:Str}{st:Stmt}{f:Addr}{fd:FuncData}{N ps:List Str}{k:Nat}{sp:Sp}(F:Fun K x qual st f fd) (S:ydG N ps (ybl st)) (len:∀ vs H Q E,sp vs H Q E->vs.length=ps.length)
  (hbody:∀ (cdv:Value) (A:Around) (outer:List Env) (s:Shared) (H:Hp) (vs:List V) (Q:VK) (E:XK),Room k (A.deeper (envOfC qual (ybl st) s.heap.objs.size f cdv))->sp vs H Q E ->
   ∃ t,PSs (yrq CX0 P w K mg base N qual (ybl st) f cdv A outer s H E).nox (yeM st) t/\t { nx:=fun _ H'=>Q .non H',rt:=Q } (start N vs) H):FnOk P w K mg base CX0 (k+1) f fd ps sp:=by
 obtain ⟨oc,od,kV,doc,pm,an,cdv,ct,osl,rfl,lk,hcd⟩:=F.ex
 refine yAL lk hcd S len fun A outer s H vs Q E hr hsp=>?_
 obtain ⟨t,h,q⟩:=hbody cdv A outer s H vs Q E hr hsp
 exact ⟨t,h.nox,q⟩
theorem fun_mk {x qual:Str}{st:Stmt}{f:Addr}{oc:Value}{od an:Option Addr}{osl:Array (Option Value)}{kV doc pm cdv ct:Value}(l:K.lookup f=some ⟨oc,od,.func (fnOf x qual (ykL st) (yeM st) (ybl st) .none kV doc pm an cdv ct),osl⟩)
  (c:codeIn K cdv qual=true) (k:keepIn K (.ref f)=true):Fun K x qual st f (fnOf x qual (ykL st) (yeM st) (ybl st) .none kV doc pm an cdv ct):=⟨⟨oc,od,kV,doc,pm,an,cdv,ct,osl,rfl,l,c⟩,k⟩
end
theorem yox {A:Around}{k:Nat}(hr:Room k A):A.units+1<cLine:=Nat.lt_of_le_of_lt (Nat.add_le_add_left (by decide:1<=64) _) hr.units
theorem ygF {n:Nat}(h:n<=1000):n<sizeLine:=Nat.lt_of_le_of_lt h (by decide)
section
variable {X:Cx}
end
def Same (H H':Hp):Prop:=∀ b o,H b=some o->H' b=some o
theorem Same.refl (H:Hp):Same H H:=fun _ _ h=>h
theorem Same.trans {H H1 H2:Hp}(a:Same H H1) (b:Same H1 H2):Same H H2:=fun c o h=>b c o (a c o h)
theorem Same.free {H H':Hp}(e:Same H H') {l:Addr}(h:H' l=Option.none):H l=Option.none:=by
 cases q:H l with
 | none=>rfl
 | some o =>
  rw [e l o q] at h
  cases h
theorem Same.seq {K:PySem.W.Frag}{H H':Hp}{a:Addr}{xs:List V}(e:Same H H') (h:SqL K H a xs):SqL K H' a xs:=by
 rcases h with (h|⟨o,h⟩)|h
 .exact .inl (.inl (e _ _ h))
 .exact .inl (.inr ⟨o,e _ _ h⟩)
 .exact .inr h
end L2
namespace L2
open PySem PySem.Spec PyProof.Rows
def cV:V->Option Value
 | .ty n=>some (.type n)
 | .ref a=>some (.ref a)
 | _=>none
def IsI (K:PySem.W.Frag) (H:Hp) (x c:V) (b:Bool):Prop:=∃ t u,ylW K H x t/\cV c=some u/\PySem.W.kitOne K t u=some b
theorem ykM {K:PySem.W.Frag}{H:Hp}{i:Int}:IsI K H (.int i) (.ty "int") true:=⟨_,_,.int i,rfl,by with_unfolding_all rfl⟩
theorem yji {K:PySem.W.Frag}{H:Hp}{i:Int}:IsI K H (.int i) (.ty "bool") false:=⟨_,_,.int i,rfl,by with_unfolding_all rfl⟩
theorem ykN {K:PySem.W.Frag}{H:Hp}:IsI K H .non (.ty "int") false:=⟨_,_,.non,rfl,by with_unfolding_all rfl⟩
theorem ykO {K:PySem.W.Frag}{H:Hp}{i:Bool}:IsI K H (.bl i) (.ty "bool") true:=⟨_,_,.bl i,rfl,by with_unfolding_all rfl⟩
theorem ykP {K:PySem.W.Frag}{H:Hp}{i:Str}:IsI K H (.str i) (.ty "str") true:=⟨_,_,.str i,rfl,by with_unfolding_all rfl⟩
theorem yjj {K:PySem.W.Frag}{H:Hp}{a:Addr}{xs:List V}(e:H a=some (.lst xs)):IsI K H (.ref a) (.ty "list") true:=⟨_,_,.lst e,rfl,by with_unfolding_all rfl⟩
theorem str_len {v:Int}(h0:0<=v) {k:Nat}(hk:0<k) (h:v<10 ^ k):(Str.ofString (toString v)).length<=k:=toString_length_le h0 hk h
end L2
namespace L2
open PySem
abbrev yAS:R2:=rI0 fun i j=>.int (i+j)
abbrev yAT:R2:=rI0 fun i j=>.int (i-j)
abbrev yAU:R2:=rI CMul fun i j=>.int (i*j)
abbrev yAV:R2:=rI yCP fun i j=>.int (i/j)
abbrev yAW:R2:=rI (fun _ j=>0<j) fun i j=>.int (i%j)
abbrev yAX:R2:=rI yAJ fun i j=>.int (i ^ j.toNat)
abbrev yDv:R2:=rI0 fun i j=>.bl (decide (i<j))
abbrev yDw:R2:=rI0 fun i j=>.bl (decide (i<=j))
abbrev yDx:R2:=rI0 fun i j=>.bl (decide (j<i))
abbrev yAY:V->Hp->VK->Prop:=rU fun i=>.int (-i)
def yDy:R2:=fun x y H Q=>y=.non/\Q (.bl (decide (x=.non))) H
def yAZ:R2:=fun x y H Q=>y=.non/\Q (.bl (!decide (x=.non))) H
noncomputable def yBa:List V->Hp->VK->Prop:=fun xs H Q=>(∃ i,xs=[.int i]/\Q (.int i) H)\/∃ k,xs=[.bl k]/\Q (.int (if k then 1 else 0)) H
def yBb:List V->Hp->VK->Prop:=fun xs H Q=>∃ z,xs=[.str z]/\z.length<=sizeLine/\Q (.int z.length) H
def yxS (K:PySem.W.Frag):List V->Hp->VK->Prop:=fun xs H Q=>∃ p ys,xs=[.ref p]/\(SqL K H p ys\/SqT K H p ys)/\Q (.int ys.length) H
def yBc:List V->Hp->VK->Prop:=fun xs H Q=>∃ i,xs=[.int i]/\i.natAbs.log2<1920/\Q (.str (toString i)) H
def yCW (K:PySem.W.Frag):List V->Hp->VK->Prop:=fun xs H Q=>∃ x c b,xs=[x,c]/\IsI K H x c b/\Q (.bl b) H
theorem ydf {H:Hp}{p:Addr}(h:H p=none) (o:HO):Same H (upd H p o):=fun b u q=>by rw [yy (yZ q h)];exact q
section
variable {K:PySem.W.Frag}{σ:St}{H:Hp}{Q:VK}{ta tb tc:TE}{tA tB':TT}{t u:TS}{D:Ends}
theorem w_not {Q:Bool->Hp->Prop}:yAB tA σ H Q=tA σ H fun c H1=>Q (!c) H1:=rfl
end
end L2
namespace L2
open PySem
def yuY (cs:List Nat):Int:=cs.foldl (fun (a:Int) (c:Nat)=>a*10+((c:Int)-48)) 0
noncomputable def yxT:List V->Hp->VK->Prop:=fun xs H Q=>∃ x:Str,xs=[.str x]/\x.cps.toList≠[]/\(∀ c∈x.cps.toList,48<=c/\c<=57)/\x.length<=640/\Q (.int (yuY x.cps.toList)) H
def yCX:R2:=fun x y H Q=>∃ (c:Nat) (j:Str),x=.str ⟨#[c]⟩/\y=.str j/\Q (.bl (decide (c∈j.cps.toList))) H
noncomputable def yoy:V->List V->Hp->VK->Prop:=fun x vs H Q=>∃ (z:Str) (c:Nat),x=.str z/\vs=[.str ⟨#[c]⟩]/\z.length<=1000/\c∈z.cps.toList/\Q (.int (z.cps.toList.idxOf c)) H
noncomputable def rJoin:V->List V->Hp->VK->Prop:=fun x vs H Q=>∃ (sep:Str) (p:Addr) (ts:List Str),x=.str sep/\vs=[.ref p]/\H p=some (.lst (ts.map V.str))/\sep.length<=16/\(ts.map (·.length)).sum+ts.length<=1048576/\Q (.str (Str.join sep ts)) H
noncomputable def yCY:List V->Hp->VK->Prop:=fun xs H Q=>∃ (p:Addr) (bs:List Bool),xs=[.ref p]/\H p=some (.lst (bs.map V.bl))/\Q (.bl (bs.all id)) H
noncomputable def yCZ:List V->Hp->VK->Prop:=fun xs H Q=>∃ (p:Addr) (ns:List Int),xs=[.ref p]/\H p=some (.lst (ns.map V.int))/\Q (.int ns.sum) H
def yuZ (K:PySem.W.Frag):List V->Hp->VK->Prop:=fun xs H Q=>∃ p ys,xs=[.ref p]/\(SqL K H p ys\/SqT K H p ys)/\∀ l,H l=none->Q (.ref l) (upd H l (.lst ys))
noncomputable def Its (z:Str):It:=⟨fun i _=>i<z.length,fun i H x H'=>H'=H/\∃ c,z.cps.toList[i]?=some c/\x=.str ⟨#[c]⟩,fun i _=>i=z.length⟩
def yDa (ta:TE):TI:=fun σ H R=>ta σ H fun x H1=>∃ z,x=.str z/\z.length<=sizeLine/\R (Its z) H1
noncomputable def yBd (J:It) (te:TE) (inn:V->St) (D:Addr) (Q:VK) (H:Hp):Prop:=∃ W:Nat->Nat->Hp->Prop,(∃ m,W 0 m H)/\∀ i m H,W i m H ->
 (J.stop i H/\Q (.ref D) H)\/(J.go i H/\∀ x H',J.yld i H x H'->te (inn x) H' fun y H2=>∃ acc,H2 D=some (.lst acc)/\acc.length<sizeLine/\∃ m',m'<m/\W (i+1) m' (upd H2 D (.lst (acc++[y]))))
def inner (ix:List Nat) (σ:St) (x:V):St:=some x::ix.map fun i=>(σ[i]?).getD none
def yoz (wi:TI) (ix:List Nat) (te:TE):TE:=fun σ H Q=>wi σ H fun J H1=>∀ D,H1 D=none->yBd J te (inner ix σ) D Q (upd H1 D (.lst []))
section
variable {K:PySem.W.Frag}{σ:St}{H:Hp}{Q:VK}{ta tb tc:TE}{tA tB':TT}{t u:TS}{D:Ends}
end
end L2
namespace L2
open PySem
noncomputable def ytD {κ:Type}(A:κ->Addr) (m:Str) (sp:κ->Sp) (ta:TE):TE:=fun σ H Q=>ta σ H fun x H1=>∃ a k dx fs,x=.ref a/\H1 a=some (.ins (A k) dx fs)/\fs.lookup m=none/\sp k [x] H1 Q E0
theorem yBe {k:Str}{v:V}{r:List (Str×V)}:List.lookup k ((k,v)::r)=some v:=by simp [List.lookup]
theorem yxU {k k':Str}{v:V}{r:List (Str×V)}(h:¬ k=k'):List.lookup k ((k',v)::r)=List.lookup k r:=by
 have:(k == k')=false:=by simpa using h
 simp [List.lookup,this]
section
variable {K:PySem.W.Frag}{σ:St}{H:Hp}{Q:VK}{ta tb tc:TE}{t u:TS}{D:Ends}
end
end L2
namespace L2
open PySem PySem.Builtin PySem.Builtin.Str
theorem at_one {z:Str}{c i:Nat}:StrLaws.At z ⟨#[c]⟩ z.length i ↔ z.cps.toList[i]?=some c:=by
 unfold StrLaws.At subAt
 have e1:(⟨#[c]⟩:Str).length=1:=rfl
 rw [e1]
 have e2:(z.cps.extract i (i+1) == (⟨#[c]⟩:Str).cps)=true ↔ z.cps.extract i (i+1) = #[c]:=by simp
 rw [e2]
 constructor
 .rintro ⟨h1,h2⟩
  have h3:(z.cps.extract i (i+1)).toList=[c]:=by rw [h2]
  rw [Array.toList_extract,List.extract_eq_take_drop] at h3
  have h4:((z.cps.toList.drop i).take (i+1-i))[0]?=some c:=by rw [h3];rfl
  rw [List.getElem?_take_of_lt (by omega),List.getElem?_drop] at h4
  simpa using h4
 .intro h
  obtain ⟨hlt,hc⟩:=List.getElem?_eq_some_iff.mp h
  have hl:i<z.length:=by simpa [Str.length] using hlt
  refine ⟨by omega,?_⟩
  apply Array.ext'
  rw [Array.toList_extract,List.extract_eq_take_drop]
  have e:i+1-i=1:=by omega
  rw [e,List.drop_eq_getElem_cons hlt,hc]
  rfl
theorem yoA (z:Str) (c:Nat):(occurrences z ⟨#[c]⟩ 0 z.length 1=[]/\c∉z.cps.toList)\/∃ r,occurrences z ⟨#[c]⟩ 0 z.length 1=z.cps.toList.idxOf c::r/\c∈z.cps.toList:=by
 rcases StrLaws.occ_head z ⟨#[c]⟩ 1 (Nat.le_refl _) with ⟨h1,h2⟩|⟨i,r,h1,h2,h3⟩
 .refine .inl ⟨h1,fun hc=>?_⟩
  obtain ⟨i,hi,e⟩:=getElem_of_mem hc
  exact h2 i (at_one.mpr (List.getElem?_eq_some_iff.mpr ⟨hi,e⟩))
 .have hi:=at_one.mp h2
  obtain ⟨hlt,hc⟩:=List.getElem?_eq_some_iff.mp hi
  have hm:c∈z.cps.toList:=mem_of_getElem? hi
  refine .inr ⟨r,?_,hm⟩
  have hj:z.cps.toList.idxOf c<z.cps.toList.length:=List.idxOf_lt_length_of_mem hm
  have hg:z.cps.toList[z.cps.toList.idxOf c]?=some c:=by
   rw [List.getElem?_eq_getElem hj,List.getElem_idxOf hj]
  have e:i=z.cps.toList.idxOf c:=by
   rcases Nat.lt_trichotomy i (z.cps.toList.idxOf c) with h|h|h
   .exact absurd hc (by
     have:=List.not_of_lt_findIdx (p:=(· == c)) (xs:=z.cps.toList) (i:=i) (by simpa [idxOf] using h)
     simpa using this)
   .exact h
   .exact absurd (at_one.mpr hg) (h3 _ h)
  rw [h1,e]
end L2
namespace L2
open PySem PySem.Spec PyProof.Rows
theorem ycd {env:Env}(y:Str):∀ names:List (Str×NameKind),
  (names.map fun (n,k)=>if (k == NameKind.free && env.scope.kind == .function && env.kindOf n == some .cell) then (n,NameKind.cell) else (n,k)).lookup y
   = (names.lookup y).map fun k=>if (k == NameKind.free && env.scope.kind == .function && env.kindOf y == some .cell) then NameKind.cell else k
 | []=>rfl
 | (n,k)::r=>by
  have ih:=ycd (env:=env) y r
  show List.lookup y ((if (k == NameKind.free && env.scope.kind == .function && env.kindOf n == some .cell)=true then (n,NameKind.cell) else (n,k))::_)=_
  cases hx:y == n with
  | true =>
   have e:y=n:=eq_of_beq hx
   subst e
   by_cases hc:(k == NameKind.free && env.scope.kind == .function && env.kindOf y == some .cell)=true
   .rw [if_pos hc]
    simp only [lookup_cons,hx,map_some,if_pos hc]
   .rw [if_neg hc]
    simp only [lookup_cons,hx,map_some,if_neg hc]
  | false =>
   by_cases hc:(k == NameKind.free && env.scope.kind == .function && env.kindOf n == some .cell)=true
   .rw [if_pos hc];simp only [lookup_cons,hx];exact ih
   .rw [if_neg hc];simp only [lookup_cons,hx];exact ih
theorem ydg {env:Env}:∀ (names:List (Str×NameKind)) (cs:List (Str×Addr)),(∀ n,(n,NameKind.free)∈names->∃ c,env.cells.lookup n=some c) ->
  ∃ cl,(forIn names cs (fun (x:Str×NameKind) (r:List (Str×Addr))=>if (x.2 == NameKind.free)=true then do let c <- cellOf env x.1;pure (ForInStep.yield ((x.1,c)::r)) else pure (ForInStep.yield r)):Sem (List (Str×Addr)))=pure cl /\
   (∀ y,(y,NameKind.free)∈names->cl.lookup y=env.cells.lookup y)/\(∀ y,(y,NameKind.free)∉names->cl.lookup y=cs.lookup y)
 | [],cs,_=>⟨cs,rfl,fun y h=>by simp at h,fun y _=>rfl⟩
 | (n,k)::r,cs,h=>by
  by_cases hk:k=.free
  .subst hk
   obtain ⟨c,hc⟩:=h n mem_cons_self
   obtain ⟨cl,e,h1,h2⟩:=ydg r ((n,c)::cs) fun y hy=>h y (mem_cons_of_mem _ hy)
   refine ⟨cl,?_,fun y hy=>?_,fun y hy=>?_⟩
   .rw [List.forIn_cons]
    have e0:cellOf env n=pure c:=by unfold cellOf;rw [hc]
    simp only [beq_self_eq_true,if_true,e0,pure_bind]
    exact e
   .by_cases hr:(y,NameKind.free)∈r
    .exact h1 y hr
    .rw [h2 y hr]
     rcases mem_cons.mp hy with z|z
     .cases z
      rw [hc];simp [List.lookup]
     .exact absurd z hr
   .have hr:(y,NameKind.free)∉r:=fun z=>hy (mem_cons_of_mem _ z)
    rw [h2 y hr]
    have hn:(y == n)=false:=by
     cases e:y == n with
     | false=>rfl
     | true=>exact absurd (by rw [eq_of_beq e];exact mem_cons_self) hy
    simp [List.lookup,hn]
  .obtain ⟨cl,e,h1,h2⟩:=ydg r cs fun y hy=>h y (mem_cons_of_mem _ hy)
   have hb:(k == NameKind.free)=false:=by simpa using hk
   refine ⟨cl,?_,fun y hy=>?_,fun y hy=>?_⟩
   .rw [List.forIn_cons]
    simp only [hb,Bool.false_eq_true,if_false,pure_bind]
    exact e
   .rcases mem_cons.mp hy with z|z
    .cases z;exact absurd rfl hk
    .exact h1 y z
   .exact h2 y fun z=>hy (mem_cons_of_mem _ z)
noncomputable def cxC (X:Cx) (scope:Scope) (cl:List (Str×Addr)) (C:Addr) (N:List Str) (s₃:Shared) (H₃:Hp) (fp:List Addr) (pins:List (Addr×Obj)):Cx :=
 { prog:=X.prog,w:=X.w,K:=X.K,mg:=X.mg,base:=X.base,A:=X.A,N:=N,s₀:=s₃,H₀:=H₃,env:=compEnvC scope cl C X.env,outer:=X.stack,stack:=X.stack,ex:=fp,fn:=fun _=>false,calm:=X.calm,pn:=X.pn++pins,xe:=fun _ _=>False }
noncomputable def FrOk (X:Cx) (scope:Scope):List Nat->List Str->Prop
 | [],[]=>True
 | i::is,y::ys=>X.N[i]?=some y/\scope.names.lookup y=some .free/\X.env.kindOf y=some .cell/\FrOk X scope is ys
 | _,_=>False
theorem FrOk.len {X:Cx}{scope:Scope}:∀ {is:List Nat}{ys:List Str},FrOk X scope is ys->is.length=ys.length
 | [],[],_=>rfl
 | _::is,_::ys,h=>by rw [length_cons,length_cons,FrOk.len h.2.2.2]
theorem FrOk.get {X:Cx}{scope:Scope}:∀ {is:List Nat}{ys:List Str}{j:Nat}{y:Str},FrOk X scope is ys->ys[j]?=some y->∃ i,is[j]?=some i/\X.N[i]?=some y/\scope.names.lookup y=some .free/\X.env.kindOf y=some .cell
 | [],[],_,_,_,e=>by simp at e
 | [],_::_,_,_,h,_=>h.elim
 | _::_,[],_,_,h,_=>h.elim
 | i::is,z::ys,0,y,h,e=>by
  simp at e
  subst e
  exact ⟨i,rfl,h.1,h.2.1,h.2.2.1⟩
 | i::is,z::ys,j+1,y,h,e=>by
  obtain ⟨k,h1,h2⟩:=FrOk.get (j:=j) h.2.2.2 (by simpa using e)
  exact ⟨k,by simpa using h1,h2⟩
end L2
namespace L2
open PySem PySem.Spec PyProof.Rows
theorem yrt {P:Program}{w:World}{K:PySem.W.Frag}{tg:Expr}{ty:String}(hty:ty = "str_ascii_iterator"\/ty = "str_iterator") (z:Str) (t:Tok) (it:Addr):Turn P w K tg (Its z) [it] it (fun i h=>h.IsStrIter it ty z t i) where
 mem:=by simp
 obj:=fun i h st b hb=>by
  have e:b=it:=by simpa using hb
  subst e
  obtain ⟨o,e,c,d⟩:=st
  exact ⟨o,e,fun v q=>by rw [d] at q;cases q⟩
 keep:=fun i h h' st k=>by
  obtain ⟨o,e,c,d⟩:=st
  exact ⟨o,k it (by simp) o e,c,d⟩
 item:=by
  intro X hP hw hK hc i pins s σ H E I hf st hg
  subst hP hw hK
  obtain ⟨f0,f1,f2,f3,f4,f5⟩:=hf it (by simp)
  have hg:i<z.length:=hg
  obtain ⟨ch,hz⟩:∃ ch,z.cps[i]?=some ch:=⟨_,Array.getElem?_eq_getElem (show i<z.cps.size from hg)⟩
  have fin:∀ h',h'.IsStrIter it ty z t (i+1)->Heap.SameBut it s.heap h'->∃ u,some (Value.str ⟨#[ch]⟩ s.toks)=some u /\
    wpAny (model X.prog X.w) X.A (letOwnedTupleGo tg (.ref it) u) (fun _ s2=>∃ x H',Inv X pins σ H' s2/\RelV x u/\(Its z).yld i H x H'/\s2.heap.IsStrIter it ty z t (i+1)/\∀ b∈[it],H' b=none) E { s with heap:=h',toks:=s.toks+1 }:=fun h' st' sb=>by
   have I1:Inv X pins σ H { s with heap:=h',toks:=s.toks+1 }:=I.turned (t':=s.toks+1) (fun b o hb e=>(sb.2 b hb).trans e) f0 f1 f3 f4 f5
   obtain ⟨o,e,c,d⟩:=id st'
   refine ⟨_,rfl,ynb (s:={ s with heap:=h',toks:=s.toks+1 }) e c d (by rcases hty with rfl|rfl<;>decide) ⟨.str ⟨#[ch]⟩,H,I1,⟨_,rfl⟩,⟨rfl,_,by simpa using hz,rfl⟩,st',fun b hb=>(hf b hb).1⟩⟩
  rcases hty with rfl|rfl
  .exact wpAny_pyNext_ascii_item st hz fun h' st' sb=>fin h' st' sb
  .exact wpAny_pyNext_wide_item st hz fun h' st' sb=>fin h' st' sb
 done:=by
  intro X hP hw hK hc i pins s σ H E I hf st hg
  subst hP hw hK
  obtain ⟨f0,f1,f2,f3,f4,f5⟩:=hf it (by simp)
  have hg:i=z.length:=hg
  have hz:z.cps[i]?=none:=by simp [hg,Str.length]
  rcases hty with rfl|rfl
  .exact wpAny_pyNext_ascii_end (I.ok.hd hc) st hz fun h' eb=>⟨rfl,I.turned (t':=s.toks) (fun b o hb e=>eb b o hb e) f0 f1 f3 f4 f5⟩
  .exact wpAny_pyNext_wide_end (I.ok.hd hc) st hz fun h' eb=>⟨rfl,I.turned (t':=s.toks) (fun b o hb e=>eb b o hb e) f0 f1 f3 f4 f5⟩
 self:=fun _ _ _ _ _ st h=>by
  rcases hty with rfl|rfl
  .exact wpAny_pyIter_striter_ascii st h
  .exact wpAny_pyIter_striter_wide st h
section
variable {X:Cx}{tg:Expr}
theorem yxV {l:Expr}{tl:TE}(hl:PE X l tl):PI X tg l (yDa tl):=by
 intro pins s σ H R I h
 refine thn (hl pins s σ H _ I h) fun v s1 ⟨x,H1,I1,r1,q1⟩=>?_
 obtain ⟨z,e,hz,q⟩:=q1
 subst e
 obtain ⟨t,rfl⟩:=r1
 have fin:∀ ty,(ty = "str_ascii_iterator"\/ty = "str_iterator")->PIE X pins σ tg R (.ref s1.heap.objs.size) { s1 with heap:=s1.heap.push { cls:=.type ty,data:=.fields #[.str z t,.int 0 0] } }:=fun ty hty=>by
  refine ⟨s1.heap.objs.size,[s1.heap.objs.size],_,_,H1,rfl,I1.kept (t':=s1.toks) fun b o e=>Heap.get?_push_of_some _ e,yrt hty z t _,⟨_,Heap.get?_push_size _ rfl,rfl,rfl⟩,fun b hb=>?_,q⟩
  have e:b=s1.heap.objs.size:=by simpa using hb
  subst e
  exact I1.fpOk (Nat.le_refl _) (I1.hok.fresh (Nat.le_refl _))
 cases ha:z.cps.all (· < 128)
 .exact wpAny_pyIter_wide ha (fin _ (.inr rfl))
 .exact wpAny_pyIter_ascii ha (fin _ (.inl rfl))
theorem yie:∀ {bs:List Bool}{us:List Value},Vals (bs.map V.bl) us->us=bs.map Value.bool
 | [],_,.nil=>rfl
 | b::bs,_,.cons r t=>by rw [show _=Value.bool b from r,yie t];rfl
theorem ymb (hc:X.calm=true):CallR X (.builtin "all") yCY:=by
 intro pins s σ H xs us Q I r h
 obtain ⟨p,bs,rfl,hp,q⟩:=h
 obtain ⟨u,rfl,rx⟩:=vals1 r
 cases rx
 obtain ⟨its,n,rv,e,hz⟩:=I.lst hp
 have eb:=yie rv
 subst eb
 have hl:s.heap.IsList p (bs.map Value.bool).toArray:=⟨_,e,rfl,n,rfl⟩
 have hlt:p<s.heap.objs.size:=Heap.lt_size e
 refine call_all_walk (wpAny_pyIter_list hl ?_)
 refine ⟨s.heap.objs.size,[s.heap.objs.size,p],[s.heap.objs.size],(bs.map Value.bool).toArray.size,_,_,fun i=>(bs[i]?).getD true,rfl,Walks.list (A:=X.A.in1) (I.ok.hd hc) _ p (ne_of_lt hlt) _,
  ⟨⟨_,Heap.get?_push_size _ rfl,rfl,rfl⟩,hl.push _⟩,fun i v s' Q' E' hP hQ=>?_,fun h' tk hk=>?_⟩
 .have hP:(bs.map Value.bool)[i]?=some v:=by simpa using hP
  rw [getElem?_map] at hP
  cases eb:bs[i]? with
  | none=>rw [eb] at hP;cases hP
  | some b =>
   rw [eb] at hP
   cases hP
   simp only [eb,Option.getD_some] at hQ
   exact wpAny_truthy_bool hQ
 .have ea:((List.range (bs.map Value.bool).toArray.size).all fun i=>(bs[i]?).getD true)=bs.all id:=by
   rw [size_toArray,length_map]
   exact LSm.range_all bs
  rw [ea]
  exact ⟨.bl _,H,I.kept (t':=tk) fun b o eo=>hk b o (fun hm=>by rw [List.mem_singleton.mp hm] at eo;exact absurd (Heap.lt_size eo) (lt_irrefl _)) (Heap.get?_push_of_some _ eo),rfl,q⟩
theorem yru (hc:X.calm=true):CallR X (.builtin "sum") yCZ:=by
 intro pins s σ H xs us Q I r h
 obtain ⟨p,ns,rfl,hp,q⟩:=h
 obtain ⟨u,rfl,rx⟩:=vals1 r
 cases rx
 obtain ⟨its,n,rv,e,hz⟩:=I.lst hp
 have hi:IntsAre its ns:=intsAre_of rv
 have hl:s.heap.IsList p its.toArray:=⟨_,e,rfl,n,rfl⟩
 obtain ⟨xs,hx⟩:=hi.allInts.items
 have hl':s.heap.IsList p (intItems xs):=hx ▸ hl
 refine sum_intListG (I.ok.hd hc) hl' fun h' tk t' hk=>?_
 have e1:ns=xs.toList.map (·.1):=by
  rw [<- nums_intItems,<- hx]
  exact (show numsOf its.toArray.toList=ns from hi.numsOf).symm
 have e2:preSum (numAt xs) xs.size=ns.sum:=by
  rw [preSum_eq,List.take_of_length_le (by simp),e1]
 rw [e2]
 exact ⟨.int ns.sum,H,I.kept (t':=tk) hk,⟨_,rfl⟩,q⟩
theorem yoB:∀ {ts:List Str}{us:List Value},Vals (ts.map V.str) us->StrsAre us ts
 | [],_,.nil=>.nil
 | y::ts,_,.cons r t=>by
  obtain ⟨k,e⟩:=(show ∃ t,_=Value.str y t from r)
  rw [e]
  exact .cons y k (yoB t)
theorem yoC:MtR X "str.join" rJoin:=by
 intro pins s σ H x xs v us Q I rx rv h
 obtain ⟨sep,p,ts,rfl,rfl,hp,h1,h2,q⟩:=h
 obtain ⟨t,rfl⟩:=rx
 obtain ⟨u,rfl,ru⟩:=vals1 rv
 cases ru
 obtain ⟨its,n,r,e,hz⟩:=I.lst hp
 have hl:s.heap.IsList p its.toArray:=⟨_,e,rfl,n,rfl⟩
 refine join_listW hl (yoB r) h1 h2 fun t' k=>⟨.str (Str.join sep ts),H,I.tok k,⟨t',?_⟩,q⟩
 show Value.str (Txt.join sep ts) t'=Value.str (Str.join sep ts) t'
 rw [show Txt.join sep ts=Str.join sep ts from StrLaws.glued_eq_join sep ts]
theorem yjk:OpR X (compareOp .In) yCX:=by
 intro pins s σ H x y v u Q I rx ry h
 obtain ⟨c,j,rfl,rfl,q⟩:=h
 refine yoj pins s σ H _ _ v u Q I rx ry ⟨_,_,rfl,rfl,?_⟩
 have e:(!(Builtin.Str.occurrences j ⟨#[c]⟩ 0 j.length 1).isEmpty)=decide (c∈j.cps.toList):=by
  rcases yoA j c with ⟨h1,h2⟩|⟨r,h1,h2⟩
  .rw [h1];simp [h2]
  .rw [h1];simp [h2]
 rw [e]
 exact q
def ykQ {κ:Type}(P:Program) (w:World) (K:PySem.W.Frag) (mg:Str->Option Value) (base:Heap) (k:Nat) (A:κ->Addr) (m:Str) (sp:κ->Sp):Prop :=
 ∀ c:κ,Cls K (A c)/\((∀ vs H Q E,¬ sp c vs H Q E)\/∃ f fd ps,Meth K (A c) m f/\FnOk P w K mg base CX0 k f fd ps (sp c)/\Binds K fd ps [])
theorem yoD {κ:Type}{A:κ->Addr}{m:Str}{sp:κ->Sp}{k:Nat}{o:Expr}{ta:TE}{apos pos:Pos}{pl:Sem Bool}(he:PE X o ta) (G:ykQ X.prog X.w X.K X.mg X.base k A m sp) (hr:Room k X.A)
  (ht:eval (.Call (.Attribute o m apos) [] [] pos) X.env=(do
   let ov <- eval o X.env
   standAt apos.atName
   let (f,first) <- holding [ov] (getMethod ov m pl)
   callWith pos f first (backTo pos (starEach [] X.env)) (backToKw pos (keywordEach [] X.env))):=by rfl):PE X (.Call (.Attribute o m apos) [] [] pos) (ytD A m sp ta):=by
 intro pins s σ H Q I h
 refine PySem.W.methodCall_KW (pl:=pl) (thn (he pins s σ H _ I h) fun u s1 ⟨x,H1,I1,rx,a,c,dx,fs,ex,ea,l,q⟩=>?_) ht
 subst ex
 obtain rfl:u=Value.ref a:=rx
 obtain ⟨cl,hn|⟨f,fd,ps,hm,F,hb⟩⟩:=G c
 .exact (hn _ _ _ _ q).elim
 refine yfE I1 ea cl hm l ?_
 exact PySem.W.callWith_K0 (first:=[.ref a]) I1.kIn hm.kp (yiZ (us:=[.ref a]) (vs:=[.ref a]) (dvs:=[]) (ds:=[]) F hr hb .nil yjh I1 (.cons rfl .nil) q)
end
end L2
namespace L2
open PySem PySem.Spec PyProof.Rows
section
variable {X:Cx}
theorem yF:CallR X (.builtin "isinstance") (yCW X.K):=by
 intro pins s σ H xs us Q I r h
 obtain ⟨x,c,b,rfl,⟨t,u',ty,hc,hk⟩,q⟩:=h
 obtain ⟨u,w',rfl,ru,rc⟩:=vals2 r
 have e:w'=u':=by
  cases c<;>first|(cases hc;exact rc)|cases hc
 subst e
 exact yon I ru ty hk fun tk=>⟨.bl b,H,I.tok tk,rfl,q⟩
theorem yhE:∀ (cs:List Nat) (a:Nat),(∀ c∈cs,48<=c/\c<=57)->((cs.foldl (fun acc c=>acc*10+(c-48)) a:Nat):Int)=cs.foldl (fun (a:Int) (c:Nat)=>a*10+((c:Int)-48)) (a:Int)
 | [],_,_=>rfl
 | c::cs,a,h=>by
  have hc:=h c mem_cons_self
  rw [List.foldl_cons,List.foldl_cons,yhE cs _ fun d hd=>h d (mem_cons_of_mem _ hd)]
  congr 1
  omega
theorem yjl:CallR X (.type "int") yxT:=by
 intro pins s σ H xs us Q I r h
 obtain ⟨z,rfl,hne,hd,hl,q⟩:=h
 obtain ⟨u,rfl,t,rfl⟩:=vals1 r
 have e:=PySem.intText_digits (x:=z) hd hne (by omega)
 have e2:((PySem.NumText.digitsVal z.cps.toList:Nat):Int)=yuY z.cps.toList:=yhE z.cps.toList 0 hd
 rw [e2] at e
 exact PySem.W.KIN.call_text e hl ⟨.int _,H,I.tok _,⟨_,rfl⟩,q⟩
end
end L2
namespace L2
open PySem PySem.Spec PyProof.Rows
section
variable {X:Cx}
theorem yva {x:Str}{n:Int}{t:Tok}{pos:Pos}(hg:Gl X x) (hm:X.mg x=some (.int n t)) (hd:(x == ("__debug__":Str))=false:=by decide):PE X (.Name x pos) (tC (.int n)):=ykF hg hm ⟨t,rfl⟩ hd
theorem yvb {x:Str}{n:Str}{t:Tok}{pos:Pos}(hg:Gl X x) (hm:X.mg x=some (.str n t)) (hd:(x == ("__debug__":Str))=false:=by decide):PE X (.Name x pos) (tC (.str n)):=ykF hg hm ⟨t,rfl⟩ hd
theorem ykR {x:Str}{a:Addr}{pos:Pos}(hg:Gl X x) (hm:X.mg x=some (.ref a)) (hd:(x == ("__debug__":Str))=false:=by decide):PE X (.Name x pos) (tC (.ref a)):=ykF hg hm rfl hd
theorem yxW {x:Str}{n:String}{pos:Pos}(hg:Gl X x) (hm:X.mg x=none) (hv:bootBuiltins x=some (.type n)) (hn:x≠"__name__":=by decide) (hd:(x == ("__debug__":Str))=false:=by decide):PE X (.Name x pos) (tC (.ty n)):=yuF hg hm hv rfl hn hd
end
end L2
namespace L2
open PySem PySem.Spec PyProof.Rows
theorem ykS {K:PySem.W.Frag}{H:Hp}{i:Int}:IsI K H (.int i) (.ty "str") false:=⟨_,_,.int i,rfl,by with_unfolding_all rfl⟩
theorem yjm {K:PySem.W.Frag}{H:Hp}{i:Int}:IsI K H (.int i) (.ty "list") false:=⟨_,_,.int i,rfl,by with_unfolding_all rfl⟩
theorem yif {K:PySem.W.Frag}{H:Hp}{i:Int}:IsI K H (.int i) (.ty "tuple") false:=⟨_,_,.int i,rfl,by with_unfolding_all rfl⟩
theorem yjn {K:PySem.W.Frag}{H:Hp}{i:Int}:IsI K H (.int i) (.ty "dict") false:=⟨_,_,.int i,rfl,by with_unfolding_all rfl⟩
theorem ynk {K:PySem.W.Frag}{H:Hp}{i:Bool}:IsI K H (.bl i) (.ty "int") true:=⟨_,_,.bl i,rfl,by with_unfolding_all rfl⟩
theorem ynl {K:PySem.W.Frag}{H:Hp}{i:Bool}:IsI K H (.bl i) (.ty "str") false:=⟨_,_,.bl i,rfl,by with_unfolding_all rfl⟩
theorem ykT {K:PySem.W.Frag}{H:Hp}{i:Bool}:IsI K H (.bl i) (.ty "list") false:=⟨_,_,.bl i,rfl,by with_unfolding_all rfl⟩
theorem yjo {K:PySem.W.Frag}{H:Hp}{i:Bool}:IsI K H (.bl i) (.ty "tuple") false:=⟨_,_,.bl i,rfl,by with_unfolding_all rfl⟩
theorem ykU {K:PySem.W.Frag}{H:Hp}{i:Bool}:IsI K H (.bl i) (.ty "dict") false:=⟨_,_,.bl i,rfl,by with_unfolding_all rfl⟩
theorem ykV {K:PySem.W.Frag}{H:Hp}{i:Str}:IsI K H (.str i) (.ty "int") false:=⟨_,_,.str i,rfl,by with_unfolding_all rfl⟩
theorem yjp {K:PySem.W.Frag}{H:Hp}{i:Str}:IsI K H (.str i) (.ty "bool") false:=⟨_,_,.str i,rfl,by with_unfolding_all rfl⟩
theorem yjq {K:PySem.W.Frag}{H:Hp}{i:Str}:IsI K H (.str i) (.ty "list") false:=⟨_,_,.str i,rfl,by with_unfolding_all rfl⟩
theorem yig {K:PySem.W.Frag}{H:Hp}{i:Str}:IsI K H (.str i) (.ty "tuple") false:=⟨_,_,.str i,rfl,by with_unfolding_all rfl⟩
theorem yjr {K:PySem.W.Frag}{H:Hp}{i:Str}:IsI K H (.str i) (.ty "dict") false:=⟨_,_,.str i,rfl,by with_unfolding_all rfl⟩
theorem yjs {K:PySem.W.Frag}{H:Hp}:IsI K H (.non) (.ty "bool") false:=⟨_,_,.non,rfl,by with_unfolding_all rfl⟩
theorem ykW {K:PySem.W.Frag}{H:Hp}:IsI K H (.non) (.ty "str") false:=⟨_,_,.non,rfl,by with_unfolding_all rfl⟩
theorem yjt {K:PySem.W.Frag}{H:Hp}:IsI K H (.non) (.ty "list") false:=⟨_,_,.non,rfl,by with_unfolding_all rfl⟩
theorem yih {K:PySem.W.Frag}{H:Hp}:IsI K H (.non) (.ty "tuple") false:=⟨_,_,.non,rfl,by with_unfolding_all rfl⟩
theorem yju {K:PySem.W.Frag}{H:Hp}:IsI K H (.non) (.ty "dict") false:=⟨_,_,.non,rfl,by with_unfolding_all rfl⟩
theorem ykX {K:PySem.W.Frag}{H:Hp}{a:Addr}{xs:List V}(e:H a=some (.lst xs)):IsI K H (.ref a) (.ty "int") false:=⟨_,_,.lst e,rfl,by with_unfolding_all rfl⟩
theorem yjv {K:PySem.W.Frag}{H:Hp}{a:Addr}{xs:List V}(e:H a=some (.lst xs)):IsI K H (.ref a) (.ty "bool") false:=⟨_,_,.lst e,rfl,by with_unfolding_all rfl⟩
theorem ykY {K:PySem.W.Frag}{H:Hp}{a:Addr}{xs:List V}(e:H a=some (.lst xs)):IsI K H (.ref a) (.ty "str") false:=⟨_,_,.lst e,rfl,by with_unfolding_all rfl⟩
theorem yii {K:PySem.W.Frag}{H:Hp}{a:Addr}{xs:List V}(e:H a=some (.lst xs)):IsI K H (.ref a) (.ty "tuple") false:=⟨_,_,.lst e,rfl,by with_unfolding_all rfl⟩
theorem yjw {K:PySem.W.Frag}{H:Hp}{a:Addr}{xs:List V}(e:H a=some (.lst xs)):IsI K H (.ref a) (.ty "dict") false:=⟨_,_,.lst e,rfl,by with_unfolding_all rfl⟩
theorem yij {K:PySem.W.Frag}{H:Hp}{a:Addr}(e:(∃ xs,H a=some (.tup xs))\/∃ o,K.lookup a=some o/\o.cls=.type "tuple"):IsI K H (.ref a) (.ty "tuple") true:=e.elim (fun ⟨_,e⟩=>⟨_,_,.tup e,rfl,by with_unfolding_all rfl⟩) fun ⟨_,e,c⟩=>⟨_,_,.kt e c,rfl,by with_unfolding_all rfl⟩
theorem ykZ {K:PySem.W.Frag}{H:Hp}{a:Addr}(e:(∃ xs,H a=some (.tup xs))\/∃ o,K.lookup a=some o/\o.cls=.type "tuple"):IsI K H (.ref a) (.ty "int") false:=e.elim (fun ⟨_,e⟩=>⟨_,_,.tup e,rfl,by with_unfolding_all rfl⟩) fun ⟨_,e,c⟩=>⟨_,_,.kt e c,rfl,by with_unfolding_all rfl⟩
theorem yjx {K:PySem.W.Frag}{H:Hp}{a:Addr}(e:(∃ xs,H a=some (.tup xs))\/∃ o,K.lookup a=some o/\o.cls=.type "tuple"):IsI K H (.ref a) (.ty "bool") false:=e.elim (fun ⟨_,e⟩=>⟨_,_,.tup e,rfl,by with_unfolding_all rfl⟩) fun ⟨_,e,c⟩=>⟨_,_,.kt e c,rfl,by with_unfolding_all rfl⟩
theorem yla {K:PySem.W.Frag}{H:Hp}{a:Addr}(e:(∃ xs,H a=some (.tup xs))\/∃ o,K.lookup a=some o/\o.cls=.type "tuple"):IsI K H (.ref a) (.ty "str") false:=e.elim (fun ⟨_,e⟩=>⟨_,_,.tup e,rfl,by with_unfolding_all rfl⟩) fun ⟨_,e,c⟩=>⟨_,_,.kt e c,rfl,by with_unfolding_all rfl⟩
theorem yjy {K:PySem.W.Frag}{H:Hp}{a:Addr}(e:(∃ xs,H a=some (.tup xs))\/∃ o,K.lookup a=some o/\o.cls=.type "tuple"):IsI K H (.ref a) (.ty "list") false:=e.elim (fun ⟨_,e⟩=>⟨_,_,.tup e,rfl,by with_unfolding_all rfl⟩) fun ⟨_,e,c⟩=>⟨_,_,.kt e c,rfl,by with_unfolding_all rfl⟩
theorem yjz {K:PySem.W.Frag}{H:Hp}{a:Addr}(e:(∃ xs,H a=some (.tup xs))\/∃ o,K.lookup a=some o/\o.cls=.type "tuple"):IsI K H (.ref a) (.ty "dict") false:=e.elim (fun ⟨_,e⟩=>⟨_,_,.tup e,rfl,by with_unfolding_all rfl⟩) fun ⟨_,e,c⟩=>⟨_,_,.kt e c,rfl,by with_unfolding_all rfl⟩
end L2
namespace L2
open PySem PySem.Spec PyProof.Rows
theorem yrv {K:PySem.W.Frag}{C:Addr}:PySem.W.kitOne K (.ref C) (.ref C)=some true:=by
 unfold PySem.W.kitOne
 have:((Value.ref C) == (Value.ref C))=true:=by simp
 rw [if_pos this]
theorem yrw {K:PySem.W.Frag}{C C':Addr}{b:Bool}(hm:mroIn K C' (.type "object")=some true) (ht:typeIn K (.ref C')=some (.type "type")) (hs:subIn K (.ref C) (.ref C')=some b):PySem.W.kitCls K (.ref C) (.ref C')=some b:=by
 unfold PySem.W.kitCls
 have h1:(PySem.W.clsIn K C').isSome=true:=by
  unfold mroIn at hm
  cases e:PySem.W.clsIn K C' with
  | none=>rw [e] at hm;cases hm
  | some c=>rfl
 have h2:(typeIn K (.ref C') == some (.type "type"))=true:=by rw [ht];simp
 show (if _ then _ else _)=_
 rw [if_pos (by rw [h1,h2];rfl)]
 exact hs
theorem yrx {K:PySem.W.Frag}{C C':Addr}(hn:(C == C')=false) (hm:mroIn K C' (.type "object")=some true) (ht:typeIn K (.ref C')=some (.type "type")) (hs:subIn K (.ref C) (.ref C')=some false):PySem.W.kitOne K (.ref C) (.ref C')=some false:=by
 unfold PySem.W.kitOne
 have:¬ ((Value.ref C) == (Value.ref C'))=true:=by
  intro z
  have z:=eq_of_beq z
  cases z
  simp at hn
 rw [if_neg this]
 exact yrw hm ht hs
end L2
namespace PX
open PySem L2
structure Ck where
 K:PySem.W.Frag
 A:Nat->Addr
inductive PV where
 | non|bl (b:Bool)|int (i:Int)|str (s:Str)|ty (n:String)|cls (k:Nat)
 | scr (ns:List Int)
 | lst (xs:List PV)|tup (xs:List PV)
 | ins (k:Nat) (ns:List Str) (xs:List PV)
 | loc (n:Nat)
inductive Nd where
 | lst (xs:List PV)|dct (ks:List Key) (xs:List PV)|fz (ks:List Key) (xs:List PV)|ins (k:Nat) (ns:List Str) (xs:List PV)|dead
abbrev AH:=List Nd
inductive PVar where|no|val (x:PV)|own (d:Nd)
abbrev PSt:=List PVar
inductive Out where|nx (ρ:PSt)|rt (x:PV)|bk (ρ:PSt)|ct (ρ:PSt)
abbrev XE:=PSt->AH->Option (PV×AH)
abbrev XT:=PSt->AH->Option (Bool×AH)
abbrev XA:=PSt->AH->Option (List PV×AH)
abbrev XO:=PSt->AH->Option (Nd×AH)
abbrev XS:=PSt->AH->Option (Out×AH)
abbrev Fn:=List PV->AH->Option (PV×AH)
def KTp (K:PySem.W.Frag) (a:Addr) (xs:List V):Prop:=∃ (o:Obj) (its:Array Value) (n:Nat),K.lookup a=some o/\o.cls=.type "tuple"/\o.data=.seq its n/\its.size<=sizeLine/\Vals xs its.toList
def TpAt (K:PySem.W.Frag) (F:Hp) (a:Addr) (xs:List V):Prop:=F a=some (.tup xs)\/KTp K a xs
theorem TpAt.mono {K:PySem.W.Frag}{F F':Hp}{a:Addr}{xs:List V}(s:Same F F') (h:TpAt K F a xs):TpAt K F' a xs:=h.elim (fun h=>.inl (s _ _ h)) .inr
mutual
noncomputable def Rep (K:Ck) (F:Hp) (m:List Addr):PV->V->Prop
 | .non,v=>v=.non
 | .bl b,v=>v=.bl b
 | .int i,v=>v=.int i
 | .str s,v=>v=.str s
 | .ty n,v=>v=.ty n
 | .cls k,v=>v=.ref (K.A k)
 | .scr ns,v=>∃ a,v=.ref a/\SqL K.K F a (ns.map V.int)
 | .lst xs,v=>∃ a vs,v=.ref a/\F a=some (.lst vs)/\RepL K F m xs vs
 | .tup xs,v=>∃ a vs,v=.ref a/\TpAt K.K F a vs/\RepL K F m xs vs
 | .ins k ns xs,v=>∃ a dx vs,v=.ref a/\F a=some (.ins (K.A k) dx (ns.zip vs))/\vs.length=ns.length/\RepL K F m xs vs
 | .loc n,v=>∃ a,v=.ref a/\m[n]?=some a
noncomputable def RepL (K:Ck) (F:Hp) (m:List Addr):List PV->List V->Prop
 | [],vs=>vs=[]
 | x::xs,vs=>∃ v r,vs=v::r/\Rep K F m x v/\RepL K F m xs r
end
section
variable {K:Ck}{F F' H H':Hp}{m m':List Addr}
theorem ydI {n:Nat}{a:Addr}(p:m <+: m') (h:m[n]?=some a):m'[n]?=some a:=by
 obtain ⟨r,rfl⟩:=p
 rw [getElem?_append_left (List.getElem?_eq_some_iff.mp h).1];exact h
mutual
theorem Rep.mono (s:Same F F') (p:m <+: m'):∀ (x:PV) (v:V),Rep K F m x v->Rep K F' m' x v
 | .non,_,h=>h
 | .bl _,_,h=>h
 | .int _,_,h=>h
 | .str _,_,h=>h
 | .ty _,_,h=>h
 | .cls _,_,h=>h
 | .scr _,_,⟨a,e,h⟩=>⟨a,e,s.seq h⟩
 | .lst xs,_,⟨a,vs,e,h,r⟩=>⟨a,vs,e,s _ _ h,RepL.mono s p xs vs r⟩
 | .tup xs,_,⟨a,vs,e,h,r⟩=>⟨a,vs,e,h.mono s,RepL.mono s p xs vs r⟩
 | .ins _ _ xs,_,⟨a,dx,vs,e,h,l,r⟩=>⟨a,dx,vs,e,s _ _ h,l,RepL.mono s p xs vs r⟩
 | .loc _,_,⟨a,e,h⟩=>⟨a,e,ydI p h⟩
theorem RepL.mono (s:Same F F') (p:m <+: m'):∀ (xs:List PV) (vs:List V),RepL K F m xs vs->RepL K F' m' xs vs
 | [],_,h=>h
 | x::xs,_,⟨v,r,e,h,l⟩=>⟨v,r,e,Rep.mono s p x v h,RepL.mono s p xs r l⟩
end
theorem RepL.len:∀ {xs:List PV}{vs:List V},RepL K F m xs vs->vs.length=xs.length
 | [],_,h=>by rw [show _=[] from h];rfl
 | x::xs,_,⟨v,r,e,h,l⟩=>by rw [e,length_cons,length_cons,RepL.len l]
theorem RepL.get:∀ {xs:List PV}{vs:List V}{i:Nat}{x:PV},RepL K F m xs vs->xs[i]?=some x->∃ v,vs[i]?=some v/\Rep K F m x v
 | x::xs,_,0,y,⟨v,r,e,h,l⟩,q=>by
  simp at q;subst q;subst e;exact ⟨v,rfl,h⟩
 | x::xs,_,i+1,y,⟨v,r,e,h,l⟩,q=>by
  subst e
  obtain ⟨w,h1,h2⟩:=RepL.get (i:=i) l (by simpa using q)
  exact ⟨w,by simpa using h1,h2⟩
theorem RepL.get' {xs:List PV}{vs:List V}{i:Nat}{v:V}(h:RepL K F m xs vs) (e:vs[i]?=some v):∃ x,xs[i]?=some x/\Rep K F m x v:=by
 have hl:=h.len
 have hi:i<vs.length:=(List.getElem?_eq_some_iff.mp e).1
 have hx:xs[i]?=some xs[i]:=List.getElem?_eq_getElem (by omega)
 obtain ⟨w,h1,h2⟩:=h.get hx
 rw [e] at h1;cases h1
 exact ⟨_,hx,h2⟩
theorem RepL.app:∀ {xs ys:List PV}{vs us:List V},RepL K F m xs vs->RepL K F m ys us->RepL K F m (xs++ys) (vs++us)
 | [],_,_,_,h,k=>by rw [show _=[] from h];exact k
 | x::xs,ys,_,us,⟨v,r,e,h,l⟩,k=>by subst e;exact ⟨v,r++us,rfl,h,RepL.app l k⟩
theorem RepL.snoc {xs:List PV}{vs:List V}{x:PV}{v:V}(h:RepL K F m xs vs) (k:Rep K F m x v):RepL K F m (xs++[x]) (vs++[v]):=h.app ⟨v,[],rfl,k,rfl⟩
theorem RepL.drop:∀ {xs:List PV}{vs:List V}(n:Nat),RepL K F m xs vs->RepL K F m (xs.drop n) (vs.drop n)
 | _,_,0,h=>by simpa using h
 | [],_,n+1,h=>by rw [show _=[] from h];rfl
 | x::xs,_,n+1,⟨v,r,e,h,l⟩=>by subst e;simpa using RepL.drop n l
theorem RepL.take:∀ {xs:List PV}{vs:List V}(n:Nat),RepL K F m xs vs->RepL K F m (xs.take n) (vs.take n)
 | _,_,0,h=>by simp;rfl
 | [],_,n+1,h=>by rw [show _=[] from h];rfl
 | x::xs,_,n+1,⟨v,r,e,h,l⟩=>by subst e;exact ⟨v,r.take n,rfl,h,RepL.take n l⟩
theorem RepL.set:∀ {xs:List PV}{vs:List V}{x:PV}{v:V}(i:Nat),RepL K F m xs vs->Rep K F m x v->RepL K F m (xs.set i x) (vs.set i v)
 | [],_,_,_,_,h,_=>by rw [show _=[] from h];rfl
 | y::xs,_,x,v,0,⟨w,r,e,h,l⟩,k=>by subst e;exact ⟨v,r,rfl,k,l⟩
 | y::xs,_,x,v,i+1,⟨w,r,e,h,l⟩,k=>by subst e;exact ⟨w,r.set i v,rfl,h,RepL.set i l k⟩
theorem RepL.of_ints:∀ (ns:List Int),RepL K F m (ns.map PV.int) (ns.map V.int)
 | []=>rfl
 | n::ns=>⟨_,_,rfl,rfl,RepL.of_ints ns⟩
end
noncomputable def NdAt (K:Ck) (F H:Hp) (m:List Addr):Nd->Addr->Prop
 | .dead,a=>∃ o,H a=some o
 | .lst xs,a=>F a=none/\∃ vs,H a=some (.lst vs)/\RepL K F m xs vs
 | .dct ks xs,a=>F a=none/\∃ vs,H a=some (.dK (ks.zip vs))/\vs.length=ks.length/\RepL K F m xs vs
 | .fz ks xs,a=>F a=none/\∃ o vs,H a=some (.frz o (.dK (ks.zip vs)))/\vs.length=ks.length/\RepL K F m xs vs
 | .ins k ns xs,a=>F a=none/\∃ dx vs,H a=some (.ins (K.A k) dx (ns.zip vs))/\vs.length=ns.length/\RepL K F m xs vs
structure Wd where
 F:Hp
 H:Hp
 m:List Addr
 h:AH
structure WOk (K:Ck) (W:Wd):Prop where
 le:Same W.F W.H
 len:W.m.length=W.h.length
 nd:W.m.Nodup
 at_:∀ (n:Nat) (d:Nd) (a:Addr),W.h[n]?=some d->W.m[n]?=some a->NdAt K W.F W.H W.m d a
structure Le (K:Ck) (W W':Wd):Prop where
 ok:WOk K W'
 fs:Same W.F W'.F
 pre:W.m <+: W'.m
 keep:∀ b o,W.H b=some o->b∉W.m->W'.H b=some o
 new:∀ b o,W.H b=some o->b∉W.m->W.F b=none->W'.F b=none
 mn:∀ b∈W'.m,b∉W.m->W.H b=none
 fz:∀ (n:Nat) (ks:List Key) (xs:List PV),W.h[n]?=some (.fz ks xs)->W'.h[n]?=some (.fz ks xs)/\∀ a,W.m[n]?=some a->W'.H a=W.H a
theorem Le.refl {K:Ck}{W:Wd}(h:WOk K W):Le K W W:=⟨h,Same.refl _,prefix_refl _,fun _ _ e _=>e,fun _ _ _ _ e=>e,fun _ h h'=>absurd h h',fun _ _ _ e=>⟨e,fun _ _=>rfl⟩⟩
theorem Le.trans {K:Ck}{W W1 W2:Wd}(a:Le K W W1) (b:Le K W1 W2):Le K W W2 where
 ok:=b.ok
 fs:=a.fs.trans b.fs
 pre:=a.pre.trans b.pre
 keep:=fun c o e n=>b.keep c o (a.keep c o e n) fun z=>by rw [a.mn c z n] at e;cases e
 new:=fun c o e n f=>b.new c o (a.keep c o e n) (fun z=>by rw [a.mn c z n] at e;cases e) (a.new c o e n f)
 mn:=fun c z n=>by
  by_cases hc:c∈W1.m
  .exact a.mn c hc n
  .have:=b.mn c z hc
   cases e:W.H c with
   | none=>rfl
   | some o=>rw [a.keep c o e n] at this;cases this
 fz:=fun n ks xs e=>by
  obtain ⟨e1,q1⟩:=a.fz n ks xs e
  obtain ⟨e2,q2⟩:=b.fz n ks xs e1
  exact ⟨e2,fun c em=>(q2 c (ydI a.pre em)).trans (q1 c em)⟩
abbrev ycm (K:Ck) (W:Wd) (x:PV) (v:V):Prop:=Rep K W.F W.m x v
abbrev ycn (K:Ck) (W:Wd) (x:List PV) (v:List V):Prop:=RepL K W.F W.m x v
theorem Le.rep {K:Ck}{W W':Wd}(l:Le K W W') {x:PV}{v:V}(h:ycm K W x v):ycm K W' x v:=Rep.mono l.fs l.pre x v h
theorem Le.repL {K:Ck}{W W':Wd}(l:Le K W W') {x:List PV}{v:List V}(h:ycn K W x v):ycn K W' x v:=RepL.mono l.fs l.pre x v h
theorem NdAt.mono {K:Ck}{F F' H H':Hp}{m m':List Addr}(s:Same F F') (p:m <+: m') {d:Nd}{a:Addr}(hH:∀ o,H a=some o->H' a=some o) (hF:F a=none->F' a=none) (h:NdAt K F H m d a):NdAt K F' H' m' d a:=by
 cases d with
 | dead=>obtain ⟨o,e⟩:=h;exact ⟨o,hH _ e⟩
 | lst xs=>obtain ⟨f,vs,e,r⟩:=h;exact ⟨hF f,vs,hH _ e,RepL.mono s p _ _ r⟩
 | dct ks xs=>obtain ⟨f,vs,e,l,r⟩:=h;exact ⟨hF f,vs,hH _ e,l,RepL.mono s p _ _ r⟩
 | fz ks xs=>obtain ⟨f,o,vs,e,l,r⟩:=h;exact ⟨hF f,o,vs,hH _ e,l,RepL.mono s p _ _ r⟩
 | ins C ns xs=>obtain ⟨f,dx,vs,e,l,r⟩:=h;exact ⟨hF f,dx,vs,hH _ e,l,RepL.mono s p _ _ r⟩
theorem NdAt.some {K:Ck}{F H:Hp}{m:List Addr}{d:Nd}{a:Addr}(h:NdAt K F H m d a):∃ o,H a=some o:=by
 cases d with
 | dead=>exact h
 | lst xs=>obtain ⟨f,vs,e,r⟩:=h;exact ⟨_,e⟩
 | dct ks xs=>obtain ⟨f,vs,e,r⟩:=h;exact ⟨_,e⟩
 | fz ks xs=>obtain ⟨f,o,vs,e,r⟩:=h;exact ⟨_,e⟩
 | ins C ns xs=>obtain ⟨f,dx,vs,e,r⟩:=h;exact ⟨_,e⟩
structure Good (K:Ck) (W0 W:Wd) (ρ:PSt) (σ:St):Prop where
 le:Le K W0 W
 len:σ.length=ρ.length
 val:∀ (i:Nat) (x:PV),ρ[i]?=some (.val x)->∃ v,σ[i]?=some (some v)/\ycm K W x v
 own:∀ (i:Nat) (d:Nd),ρ[i]?=some (.own d)->∃ p,σ[i]?=some (some (.ref p))/\p∉W.m/\W0.H p=none/\d≠.dead/\NdAt K W.F W.H W.m d p
 ne:∀ (i j:Nat) (d d':Nd),i≠j->ρ[i]?=some (.own d)->ρ[j]?=some (.own d')->σ[i]?≠σ[j]?
theorem Good.ok {K:Ck}{W0 W:Wd}{ρ:PSt}{σ:St}(g:Good K W0 W ρ σ):WOk K W:=g.le.ok
theorem Good.step {K:Ck}{W0 W W':Wd}{ρ:PSt}{σ:St}(g:Good K W0 W ρ σ) (l:Le K W W'):Good K W0 W' ρ σ where
 le:=g.le.trans l
 len:=g.len
 val:=fun i x e=>let ⟨v,h1,h2⟩:=g.val i x e;⟨v,h1,l.rep h2⟩
 own:=fun i d e=>by
  obtain ⟨p,h1,h2,h3,h4,h5⟩:=g.own i d e
  obtain ⟨o,ho⟩:=h5.some
  have n':p∉W'.m:=fun z=>by rw [l.mn p z h2] at ho;cases ho
  refine ⟨p,h1,n',h3,h4,h5.mono l.fs l.pre (fun o e=>l.keep p o e h2) fun f=>l.new p o ho h2 f⟩
 ne:=g.ne
theorem WOk.some {K:Ck}{W:Wd}(w:WOk K W) {a:Addr}(h:a∈W.m):∃ o,W.H a=some o:=by
 obtain ⟨n,hn,e⟩:=getElem_of_mem h
 have hl:n<W.h.length:=by rw [<- w.len];exact hn
 exact (w.at_ n W.h[n] a (List.getElem?_eq_getElem hl) (by rw [List.getElem?_eq_getElem hn,e])).some
theorem Le.fresh {K:Ck}{W W':Wd}(l:Le K W W') {p:Addr}(h:W'.H p=none):W.H p=none:=by
 cases e:W.H p with
 | none=>rfl
 | some o =>
  by_cases hm:p∈W.m
  .obtain ⟨o,q⟩:=l.ok.some (l.pre.subset hm)
   rw [h] at q;cases q
  .rw [l.keep p o e hm] at h;cases h
theorem WOk.out {K:Ck}{W:Wd}(w:WOk K W) {p:Addr}(h:W.H p=none):p∉W.m:=fun z=>by
 obtain ⟨o,q⟩:=w.some z
 rw [h] at q;cases q
theorem WOk.ff {K:Ck}{W:Wd}(w:WOk K W) {p:Addr}(h:W.H p=none):W.F p=none:=Same.free w.le h
structure Lf (K:Ck) (W W':Wd):Prop where
 fs:Same W.F W'.F
 pre:W.m <+: W'.m
 fz:∀ (n:Nat) (ks:List Key) (xs:List PV),W.h[n]?=some (.fz ks xs)->W'.h[n]?=some (.fz ks xs)/\∀ a,W.m[n]?=some a->W'.H a=W.H a
theorem Le.lf {K:Ck}{W W':Wd}(l:Le K W W'):Lf K W W':=⟨l.fs,l.pre,l.fz⟩
theorem Lf.refl {K:Ck}{W:Wd}:Lf K W W:=⟨Same.refl _,prefix_refl _,fun _ _ _ e=>⟨e,fun _ _=>rfl⟩⟩
theorem Lf.trans {K:Ck}{W W1 W2:Wd}(a:Lf K W W1) (b:Lf K W1 W2):Lf K W W2:=⟨a.fs.trans b.fs,a.pre.trans b.pre,fun n ks xs e=>by
  obtain ⟨e1,q1⟩:=a.fz n ks xs e
  obtain ⟨e2,q2⟩:=b.fz n ks xs e1
  exact ⟨e2,fun c em=>(q2 c (ydI a.pre em)).trans (q1 c em)⟩⟩
theorem Lf.rep {K:Ck}{W W':Wd}(l:Lf K W W') {x:PV}{v:V}(h:ycm K W x v):ycm K W' x v:=Rep.mono l.fs l.pre x v h
noncomputable def ybt (K:Ck) (t:TE) (e:XE):Prop:=∀ (W0 W:Wd) (ρ:PSt) (σ:St) (Q:VK) (x:PV) (h':AH),Good K W0 W ρ σ->e ρ W.h=some (x,h') ->
 (∀ v W',W'.h=h'->Le K W W'->ycm K W' x v->Q v W'.H)->t σ W.H Q
noncomputable def ykx (K:Ck) (t:TT) (e:XT):Prop:=∀ (W0 W:Wd) (ρ:PSt) (σ:St) (Q:Bool->Hp->Prop) (x:Bool) (h':AH),Good K W0 W ρ σ->e ρ W.h=some (x,h') ->
 (∀ W',W'.h=h'->Le K W W'->Q x W'.H)->t σ W.H Q
noncomputable def yky (K:Ck) (t:TA) (e:XA):Prop:=∀ (W0 W:Wd) (ρ:PSt) (σ:St) (Q:List V->Hp->Prop) (x:List PV) (h':AH),Good K W0 W ρ σ->e ρ W.h=some (x,h') ->
 (∀ v W',W'.h=h'->Le K W W'->ycn K W' x v->Q v W'.H)->t σ W.H Q
def ymc (K:Ck) (t:TE) (e:XO):Prop:=∀ (W0 W:Wd) (ρ:PSt) (σ:St) (Q:VK) (d:Nd) (h':AH),Good K W0 W ρ σ->e ρ W.h=some (d,h') ->
 (∀ p W',W'.h=h'->Le K W W'->p∉W'.m->W.H p=none->d≠.dead->NdAt K W'.F W'.H W'.m d p->Q (.ref p) W'.H)->t σ W.H Q
noncomputable def Ends.Ok (K:Ck) (W0 W:Wd) (D:Ends) (h':AH):Out->Prop
 | .nx ρ'=>∀ W' σ',W'.h=h'->Lf K W W'->Good K W0 W' ρ' σ'->D.nx σ' W'.H
 | .bk ρ'=>∀ W' σ',W'.h=h'->Lf K W W'->Good K W0 W' ρ' σ'->D.bk σ' W'.H
 | .ct ρ'=>∀ W' σ',W'.h=h'->Lf K W W'->Good K W0 W' ρ' σ'->D.ct σ' W'.H
 | .rt x=>∀ W' v,W'.h=h'->Le K W0 W'->ycm K W' x v->D.rt v W'.H
def yee (K:Ck) (t:TS) (s:XS):Prop:=∀ (W0 W:Wd) (ρ:PSt) (σ:St) (D:Ends) (o:Out) (h':AH),Good K W0 W ρ σ->s ρ W.h=some (o,h')->Ends.Ok K W0 W D h' o->t D σ W.H
noncomputable def ob {α β:Type}(o:Option (α×AH)) (f:α->AH->Option β):Option β:=o.bind fun q=>f q.1 q.2
theorem yg {α β:Type}{o:Option (α×AH)}{f:α->AH->Option β}{b:β}(h:ob o f=some b):∃ x h',o=some (x,h')/\f x h'=some b:=by
 obtain ⟨⟨x,h'⟩,e,k⟩:=Option.bind_eq_some_iff.mp h
 exact ⟨x,h',e,k⟩
end PX
namespace PX
open PySem L2
variable {K:Ck}
def yf (i:Nat):XE:=fun ρ h=>match ρ[i]? with|some (.val x)=>some (x,h)|_=>none
def xC (x:PV):XE:=fun _ h=>some (x,h)
abbrev P2:=PV->PV->AH->Option (PV×AH)
abbrev P2O:=PV->PV->AH->Option (Nd×AH)
def xOp (p:P2) (a b:XE):XE:=fun ρ h=>ob (a ρ h) fun x h1=>ob (b ρ h1) fun y h2=>p x y h2
def ytE (p:P2O) (a b:XE):XO:=fun ρ h=>ob (a ρ h) fun x h1=>ob (b ρ h1) fun y h2=>p x y h2
def xUn (p:PV->AH->Option (PV×AH)) (a:XE):XE:=fun ρ h=>ob (a ρ h) fun x h1=>p x h1
def oB (x:PV) (h:AH):Option (Bool×AH):=match x with|.bl b=>some (b,h)|_=>none
def yeW (p p':P2) (a b c:XE):XE:=fun ρ h=>ob (a ρ h) fun x h1=>ob (b ρ h1) fun y h2=>ob (p x y h2) fun z h3=>ob (oB z h3) fun k h3=>if k=true then ob (c ρ h3) fun w h4=>p' y w h4 else some (.bl false,h3)
def yo (a:XE):XT:=fun ρ h=>ob (a ρ h) oB
def ygc (a b:XE):XE:=fun ρ h=>ob (a ρ h) fun x h1=>ob (oB x h1) fun k h1=>if k=true then b ρ h1 else some (.bl false,h1)
def yoE (a:XE):XE:=fun ρ h=>ob (a ρ h) fun x h1=>ob (oB x h1) fun k h1=>some (.bl (!k),h1)
def yvc (a b:XT):XT:=fun ρ h=>ob (a ρ h) fun k h1=>if k=true then b ρ h1 else some (false,h1)
def xOr (a b:XT):XT:=fun ρ h=>ob (a ρ h) fun k h1=>if k=true then some (true,h1) else b ρ h1
def yfS (a:XT):XT:=fun ρ h=>ob (a ρ h) fun k h1=>some (!k,h1)
def xIf (c:XT) (a b:XE):XE:=fun ρ h=>ob (c ρ h) fun k h1=>if k=true then a ρ h1 else b ρ h1
def yk:XA:=fun _ h=>some ([],h)
def yc (a:XE) (r:XA):XA:=fun ρ h=>ob (a ρ h) fun x h1=>ob (r ρ h1) fun xs h2=>some (x::xs,h2)
def ygG (a:XA):XE:=fun ρ h=>ob (a ρ h) fun xs h1=>if xs.length<=1000 then some (.tup xs,h1) else none
def yeA (a:XA):XO:=fun ρ h=>ob (a ρ h) fun xs h1=>if xs.length<=1000 then some (.lst xs,h1) else none
def xFz (e:XO):XE:=fun ρ h=>ob (e ρ h) fun d h1=>match d with|.lst xs=>some (.lst xs,h1)|.ins k ns xs=>some (.ins k ns xs,h1)|_=>none
def ygd (e:XO):XE:=fun ρ h=>ob (e ρ h) fun d h1=>some (.loc h1.length,h1++[d])
def yT (f:Fn) (a:XA):XE:=fun ρ h=>ob (a ρ h) f
def xCB (p:List PV->AH->Option (PV×AH)) (a:XA):XE:=fun ρ h=>ob (a ρ h) p
def yjA (p:List PV->AH->Option (Nd×AH)) (a:XA):XO:=fun ρ h=>ob (a ρ h) p
abbrev PM:=PV->List PV->AH->Option (PV×AH)
def xBM (c:PV->AH->Bool) (p:PM) (o:XE) (a:XA):XE:=fun ρ h=>ob (o ρ h) fun x h1=>if c x h1=true then ob (a ρ h1) fun xs h2=>p x xs h2 else none
def ylb (e:XE):PSt->AH->Option (Option Int×AH):=fun ρ h=>ob (e ρ h) fun x h1=>match x with|.int i=>some (some i,h1)|_=>none
def yxX (p:PV->Option Int->Option Int->AH->Option (Nd×AH)) (e:XE) (lo hi:PSt->AH->Option (Option Int×AH)):XO:=fun ρ h=>ob (e ρ h) fun x h1=>ob (lo ρ h1) fun l h2=>ob (hi ρ h2) fun u h3=>p x l u h3
noncomputable def ybU (K:Ck) (r:R2) (p:P2):Prop:=∀ (W:Wd) (x y:PV) (v u:V) (Q:VK) (z:PV) (h':AH),WOk K W->ycm K W x v->ycm K W y u->p x y W.h=some (z,h')->(∀ w W',W'.h=h'->Le K W W'->ycm K W' z w->Q w W'.H)->r v u W.H Q
def ynm (K:Ck) (W:Wd) (d:Nd) (h':AH) (Q:VK):Prop:=∀ p W',W'.h=h'->Le K W W'->p∉W'.m->W.H p=none->d≠.dead->NdAt K W'.F W'.H W'.m d p->Q (.ref p) W'.H
def ymd (K:Ck) (r:R2) (p:P2O):Prop:=∀ (W:Wd) (x y:PV) (v u:V) (Q:VK) (d:Nd) (h':AH),WOk K W->ycm K W x v->ycm K W y u->p x y W.h=some (d,h')->ynm K W d h' Q->r v u W.H Q
noncomputable def yvd (K:Ck) (r:V->Hp->VK->Prop) (p:PV->AH->Option (PV×AH)):Prop:=∀ (W:Wd) (x:PV) (v:V) (Q:VK) (z:PV) (h':AH),WOk K W->ycm K W x v->p x W.h=some (z,h')->(∀ w W',W'.h=h'->Le K W W'->ycm K W' z w->Q w W'.H)->r v W.H Q
noncomputable def yge (K:Ck) (r:List V->Hp->VK->Prop) (p:List PV->AH->Option (PV×AH)):Prop:=∀ (W:Wd) (xs:List PV) (vs:List V) (Q:VK) (z:PV) (h':AH),WOk K W->ycn K W xs vs->p xs W.h=some (z,h')->(∀ w W',W'.h=h'->Le K W W'->ycm K W' z w->Q w W'.H)->r vs W.H Q
def yoF (K:Ck) (r:List V->Hp->VK->Prop) (p:List PV->AH->Option (Nd×AH)):Prop:=∀ (W:Wd) (xs:List PV) (vs:List V) (Q:VK) (d:Nd) (h':AH),WOk K W->ycn K W xs vs->p xs W.h=some (d,h')->ynm K W d h' Q->r vs W.H Q
def ynn (K:Ck) (T:String) (c:PV->AH->Bool) (r:V->List V->Hp->VK->Prop) (p:PM):Prop :=
 (∀ (W:Wd) (x:PV) (v:V),WOk K W->ycm K W x v->c x W.h=true->tyV K.K T v W.H) /\
 ∀ (W:Wd) (x:PV) (v:V) (xs:List PV) (vs:List V) (Q:VK) (z:PV) (h':AH),WOk K W->ycm K W x v->ycn K W xs vs->p x xs W.h=some (z,h')->(∀ w W',W'.h=h'->Le K W W'->ycm K W' z w->Q w W'.H)->r v vs W.H Q
theorem yve (i:Nat):ybt K (ynP i) (yf i):=by
 intro W0 W ρ σ Q x h' g e q
 unfold yf at e
 split at e
 .rename_i y hy
  cases e
  obtain ⟨v,h1,h2⟩:=g.val i _ hy
  exact ⟨v,h1,q v W rfl (.refl g.ok) h2⟩
 .cases e
theorem yno {v:V}{x:PV}(h:∀ W:Wd,ycm K W x v):ybt K (tC v) (xC x):=by
 intro W0 W ρ σ Q y h' g e q
 cases e
 exact q v W rfl (.refl g.ok) (h W)
theorem yoG {i:Int}:ybt K (tC (.int i)) (xC (.int i)):=yno fun _=>rfl
theorem yoH {i:Str}:ybt K (tC (.str i)) (xC (.str i)):=yno fun _=>rfl
theorem yxY {i:Bool}:ybt K (tC (.bl i)) (xC (.bl i)):=yno fun _=>rfl
theorem yvf:ybt K (tC .non) (xC .non):=yno fun _=>rfl
theorem yxZ {n:String}:ybt K (tC (.ty n)) (xC (.ty n)):=yno fun _=>rfl
theorem yvg {k:Nat}:ybt K (tC (.ref (K.A k))) (xC (.cls k)):=yno fun _=>rfl
section
variable {ta tb tc:TE}{ea eb ec:XE}{t:TA}{e:XA}
theorem yme {r:R2}{p:P2}(o:ybU K r p) (a:ybt K ta ea) (b:ybt K tb eb):ybt K (tOp r ta tb) (xOp p ea eb):=by
 intro W0 W ρ σ Q z h' g e q
 obtain ⟨x,h1,e1,f1⟩:=yg e
 obtain ⟨y,h2,e2,f2⟩:=yg f1
 refine a W0 W ρ σ _ x h1 g e1 fun v W1 w1 l1 r1=>?_
 subst w1
 refine b W0 W1 ρ σ _ y h2 (g.step l1) e2 fun u W2 w2 l2 r2=>?_
 subst w2
 exact o W2 x y v u Q z h' l2.ok (l2.rep r1) r2 f2 fun w W3 w3 l3 r3=>q w W3 w3 (l1.trans (l2.trans l3)) r3
theorem yfF {W W1:Wd}{d:Nd}{h':AH}{Q:VK}(l:Le K W W1) (q:ynm K W d h' Q):ynm K W1 d h' Q:=fun p W' e l' n f=>q p W' e (l.trans l') n (l.fresh f)
theorem yvh {r:R2}{p:P2O}(o:ymd K r p) (a:ybt K ta ea) (b:ybt K tb eb):ymc K (tOp r ta tb) (ytE p ea eb):=by
 intro W0 W ρ σ Q z h' g e q
 obtain ⟨x,h1,e1,f1⟩:=yg e
 obtain ⟨y,h2,e2,f2⟩:=yg f1
 refine a W0 W ρ σ _ x h1 g e1 fun v W1 w1 l1 r1=>?_
 subst w1
 refine b W0 W1 ρ σ _ y h2 (g.step l1) e2 fun u W2 w2 l2 r2=>?_
 subst w2
 exact o W2 x y v u Q z h' l2.ok (l2.rep r1) r2 f2 (yfF (l1.trans l2) q)
theorem yya {r} {p} (o:yvd K r p) (a:ybt K ta ea):ybt K (tUn r ta) (xUn p ea):=by
 intro W0 W ρ σ Q z h' g e q
 obtain ⟨x,h1,e1,f1⟩:=yg e
 refine a W0 W ρ σ _ x h1 g e1 fun v W1 w1 l1 r1=>?_
 subst w1
 exact o W1 x v Q z h' l1.ok r1 f1 fun w W3 w3 l3 r3=>q w W3 w3 (l1.trans l3) r3
theorem yik {x:PV}{h:AH}{k:Bool}{h':AH}(e:oB x h=some (k,h')):x=.bl k/\h'=h:=by
 unfold oB at e
 split at e
 .cases e;exact ⟨rfl,rfl⟩
 .cases e
theorem yjB {r r':R2}{p p':P2}(o:ybU K r p) (o':ybU K r' p') (a:ybt K ta ea) (b:ybt K tb eb) (c:ybt K tc ec):ybt K (yok r r' ta tb tc) (yeW p p' ea eb ec):=by
 intro W0 W ρ σ Q z h' g e q
 obtain ⟨x,h1,e1,f1⟩:=yg e
 obtain ⟨y,h2,e2,f2⟩:=yg f1
 obtain ⟨z',h3,e3,f3⟩:=yg f2
 obtain ⟨k,h3',e3',f4⟩:=yg f3
 obtain ⟨rfl,rfl⟩:=yik e3'
 refine a W0 W ρ σ _ x h1 g e1 fun v W1 w1 l1 r1=>?_
 subst w1
 refine b W0 W1 ρ σ _ y h2 (g.step l1) e2 fun u W2 w2 l2 r2=>?_
 subst w2
 refine o W2 x y v u _ _ _ l2.ok (l2.rep r1) r2 e3 fun w W3 w3 l3 r3=>⟨k,r3,?_⟩
 subst w3
 have l:=l1.trans (l2.trans l3)
 cases k with
 | false =>
  rw [if_neg (by decide)] at f4 ⊢
  cases f4
  exact q _ W3 rfl l rfl
 | true =>
  rw [if_pos rfl] at f4 ⊢
  obtain ⟨w',h4,e4,f5⟩:=yg f4
  refine c W0 W3 ρ σ _ w' h4 (g.step l) e4 fun u' W4 w4 l4 r4=>?_
  subst w4
  exact o' W4 y w' u u' Q z h' l4.ok ((l3.trans l4).rep r2) r4 f5 fun w W5 w5 l5 r5=>q w W5 w5 (l.trans (l4.trans l5)) r5
theorem yeX (a:ybt K ta ea):ykx K (yuN ta) (yo ea):=by
 intro W0 W ρ σ Q k h' g e q
 obtain ⟨x,h1,e1,f1⟩:=yg e
 obtain ⟨rfl,rfl⟩:=yik f1
 exact a W0 W ρ σ _ _ _ g e1 fun v W1 w1 l1 r1=>⟨k,r1,q W1 w1 l1⟩
theorem yyb (a:ybt K ta ea):ykx K (tB ta) (yo ea):=yeX a
theorem yry (a:ybt K ta ea) (b:ybt K tb eb):ybt K (yxw ta tb) (ygc ea eb):=by
 intro W0 W ρ σ Q z h' g e q
 obtain ⟨x,h1,e1,f1⟩:=yg e
 obtain ⟨k,h1',e1',f2⟩:=yg f1
 obtain ⟨rfl,rfl⟩:=yik e1'
 refine a W0 W ρ σ _ _ _ g e1 fun v W1 w1 l1 r1=>⟨k,r1,?_⟩
 subst w1
 cases k with
 | false =>
  rw [if_neg (by decide)] at f2 ⊢
  cases f2
  exact q _ W1 rfl l1 rfl
 | true =>
  rw [if_pos rfl] at f2 ⊢
  exact b W0 W1 ρ σ _ z h' (g.step l1) f2 fun v W2 w2 l2 r2=>q v W2 w2 (l1.trans l2) r2
theorem yrz (a:ybt K ta ea):ybt K (yxx ta) (yoE ea):=by
 intro W0 W ρ σ Q z h' g e q
 obtain ⟨x,h1,e1,f1⟩:=yg e
 obtain ⟨k,h1',e1',f2⟩:=yg f1
 obtain ⟨rfl,rfl⟩:=yik e1'
 cases f2
 exact a W0 W ρ σ _ _ _ g e1 fun v W1 w1 l1 r1=>⟨k,r1,q _ W1 w1 l1 rfl⟩
section
variable {tA tB':TT}{eA eB:XT}
theorem yvi (a:ykx K tA eA) (b:ykx K tB' eB):ykx K (yCG tA tB') (yvc eA eB):=by
 intro W0 W ρ σ Q z h' g e q
 obtain ⟨k,h1,e1,f1⟩:=yg e
 refine a W0 W ρ σ _ _ _ g e1 fun W1 w1 l1=>?_
 subst w1
 cases k with
 | false =>
  rw [if_neg (by decide)] at f1 ⊢
  cases f1
  exact q W1 rfl l1
 | true =>
  rw [if_pos rfl] at f1 ⊢
  exact b W0 W1 ρ σ _ z h' (g.step l1) f1 fun W2 w2 l2=>q W2 w2 (l1.trans l2)
theorem yyc (a:ykx K tA eA) (b:ykx K tB' eB):ykx K (tOr tA tB') (xOr eA eB):=by
 intro W0 W ρ σ Q z h' g e q
 obtain ⟨k,h1,e1,f1⟩:=yg e
 refine a W0 W ρ σ _ _ _ g e1 fun W1 w1 l1=>?_
 subst w1
 cases k with
 | true =>
  rw [if_pos rfl] at f1 ⊢
  cases f1
  exact q W1 rfl l1
 | false =>
  rw [if_neg (by decide)] at f1 ⊢
  exact b W0 W1 ρ σ _ z h' (g.step l1) f1 fun W2 w2 l2=>q W2 w2 (l1.trans l2)
theorem yvj (a:ykx K tA eA):ykx K (yAB tA) (yfS eA):=by
 intro W0 W ρ σ Q z h' g e q
 obtain ⟨k,h1,e1,f1⟩:=yg e
 cases f1
 exact a W0 W ρ σ _ _ _ g e1 fun W1 w1 l1=>q W1 w1 l1
theorem yyd (c:ykx K tA eA) (a:ybt K ta ea) (b:ybt K tb eb):ybt K (tIf tA ta tb) (xIf eA ea eb):=by
 intro W0 W ρ σ Q z h' g e q
 obtain ⟨k,h1,e1,f1⟩:=yg e
 refine c W0 W ρ σ _ _ _ g e1 fun W1 w1 l1=>?_
 subst w1
 cases k with
 | true =>
  rw [if_pos rfl] at f1 ⊢
  exact a W0 W1 ρ σ _ z h' (g.step l1) f1 fun v W2 w2 l2 r2=>q v W2 w2 (l1.trans l2) r2
 | false =>
  rw [if_neg (by decide)] at f1 ⊢
  exact b W0 W1 ρ σ _ z h' (g.step l1) f1 fun v W2 w2 l2 r2=>q v W2 w2 (l1.trans l2) r2
end
theorem ylc:yky K yty yk:=by
 intro W0 W ρ σ Q z h' g e q
 cases e
 exact q [] W rfl (.refl g.ok) rfl
theorem yrA (a:ybt K ta ea) (r:yky K t e):yky K (ykG ta t) (yc ea e):=by
 intro W0 W ρ σ Q z h' g e q
 obtain ⟨x,h1,e1,f1⟩:=yg e
 obtain ⟨xs,h2,e2,f2⟩:=yg f1
 cases f2
 refine a W0 W ρ σ _ x h1 g e1 fun v W1 w1 l1 r1=>?_
 subst w1
 exact r W0 W1 ρ σ _ xs _ (g.step l1) e2 fun vs W2 w2 l2 r2=>q (v::vs) W2 w2 (l1.trans l2) ⟨v,vs,rfl,l2.rep r1,r2⟩
def ytF (W:Wd) (p:Addr) (o:HO):Wd:=⟨upd W.F p o,upd W.H p o,W.m,W.h⟩
theorem yle {W:Wd}{p:Addr}{o:HO}(w:WOk K W) (h:W.H p=none):Le K W (ytF W p o):=by
 have hm:=w.out h
 have hf:=w.ff h
 have sF:Same W.F (upd W.F p o):=ydf hf o
 refine ⟨⟨?_,w.len,w.nd,fun n d a e1 e2=>?_⟩,sF,prefix_refl _,fun b u e _=>ydf h o b u e,fun b u e _ f=>?_,fun b z n=>absurd z n,fun n ks xs e1=>⟨e1,fun a e2=>yy fun z=>hm (z ▸ mem_of_getElem? e2)⟩⟩
 .intro b u e
  show upd W.H p o b=some u
  by_cases hb:b=p
  .subst hb;rw [show (ytF W b o).F b=upd W.F b o b from rfl,yu] at e;rw [yu];exact e
  .rw [show (ytF W p o).F b=upd W.F p o b from rfl,yy hb] at e;rw [yy hb];exact w.le _ _ e
 .have ha:a≠p:=fun z=>hm (z ▸ mem_of_getElem? e2)
  exact (w.at_ n d a e1 e2).mono sF (prefix_refl _) (fun u e=>by rw [show (ytF W p o).H a=upd W.H p o a from rfl,yy ha];exact e) fun f=>(yy ha).trans f
 .have:b≠p:=yZ e h
  rw [show (ytF W p o).F b=upd W.F p o b from rfl,yy this];exact f
def yfT (W:Wd) (p:Addr) (o:HO):Wd:=⟨W.F,upd W.H p o,W.m,W.h⟩
theorem ycO {W:Wd}{p:Addr}{o:HO}(w:WOk K W) (h:W.H p=none):Le K W (yfT W p o):=by
 have hm:=w.out h
 refine ⟨⟨?_,w.len,w.nd,fun n d a e1 e2=>?_⟩,Same.refl _,prefix_refl _,fun b u e _=>ydf h o b u e,fun b u e _ f=>f,fun b z n=>absurd z n,fun n ks xs e1=>⟨e1,fun a e2=>yy fun z=>hm (z ▸ mem_of_getElem? e2)⟩⟩
 .exact fun b u e=>ydf h o b u (w.le _ _ e)
 .exact (w.at_ n d a e1 e2).mono (Same.refl _) (prefix_refl _) (fun u e=>ydf h o _ _ e) id
theorem small {n:Nat}(h:n<=1000):n<=sizeLine:=le_of_lt (ygF h)
theorem yvk (a:yky K t e):ybt K (yCR t) (ygG e):=by
 intro W0 W ρ σ Q z h' g e q
 obtain ⟨xs,h1,e1,f1⟩:=yg e
 split at f1
 .rename_i hl
  cases f1
  refine a W0 W ρ σ _ xs _ g e1 fun vs W1 w1 l1 r1=>⟨small (by rw [r1.len];exact hl),fun p hp=>?_⟩
  have l2:=yle (o:=.tup vs) l1.ok hp
  exact q (.ref p) (ytF W1 p (.tup vs)) w1 (l1.trans l2) ⟨p,vs,rfl,.inl yu,l2.repL r1⟩
 .cases f1
theorem yvl (a:yky K t e):ymc K (yCS t) (yeA e):=by
 intro W0 W ρ σ Q z h' g e q
 obtain ⟨xs,h1,e1,f1⟩:=yg e
 split at f1
 .rename_i hl
  cases f1
  refine a W0 W ρ σ _ xs _ g e1 fun vs W1 w1 l1 r1=>⟨small (by rw [r1.len];exact hl),fun p hp=>?_⟩
  have l2:=ycO (o:=.lst vs) l1.ok hp
  exact q p (yfT W1 p (.lst vs)) w1 (l1.trans l2) (l1.ok.out hp) (l1.fresh hp) (fun z=>by cases z) ⟨l1.ok.ff hp,vs,yu,r1⟩
 .cases f1
def yrB (W:Wd) (p:Addr) (o:HO):Wd:=⟨upd W.F p o,W.H,W.m,W.h⟩
theorem yoI {W:Wd}{p:Addr}{o:HO}(w:WOk K W) (h:W.H p=some o) (hm:p∉W.m) (hf:W.F p=none):WOk K (yrB W p o)/\Same W.F (upd W.F p o):=by
 have sF:Same W.F (upd W.F p o):=ydf hf o
 refine ⟨⟨?_,w.len,w.nd,fun n d a e1 e2=>?_⟩,sF⟩
 .intro b u e
  by_cases hb:b=p
  .subst hb;rw [show (yrB W b o).F b=upd W.F b o b from rfl,yu] at e;cases e;exact h
  .rw [show (yrB W p o).F b=upd W.F p o b from rfl,yy hb] at e;exact w.le _ _ e
 .have ha:a≠p:=fun z=>hm (z ▸ mem_of_getElem? e2)
  exact (w.at_ n d a e1 e2).mono sF (prefix_refl _) (fun u e=>e) fun f=>(yy ha).trans f
theorem ylf {W W1:Wd}{p:Addr}{o:HO}(l:Le K W W1) (h:W1.H p=some o) (hm:p∉W1.m) (hf:W1.F p=none) (hn:W.H p=none):Le K W (yrB W1 p o):=by
 obtain ⟨k,sF⟩:=yoI l.ok h hm hf
 refine ⟨k,l.fs.trans sF,l.pre,l.keep,fun b u e n f=>?_,l.mn,l.fz⟩
 have:b≠p:=yZ e hn
 rw [show (yrB W1 p o).F b=upd W1.F p o b from rfl,yy this];exact l.new b u e n f
theorem ytG {o:XO}(a:ymc K ta o):ybt K ta (xFz o):=by
 intro W0 W ρ σ Q z h' g e q
 obtain ⟨d,h1,e1,f1⟩:=yg e
 refine a W0 W ρ σ _ d h1 g e1 fun p W1 w1 l1 hm hn hd at_=>?_
 split at f1
 .rename_i xs
  cases f1
  obtain ⟨hf,vs,hp,r⟩:=at_
  have l2:=ylf l1 hp hm hf hn
  exact q (.ref p) (yrB W1 p (.lst vs)) w1 l2 ⟨p,vs,rfl,yu,RepL.mono (ydf hf _) (prefix_refl _) _ _ r⟩
 .rename_i k ns xs
  cases f1
  obtain ⟨hf,dx,vs,hp,hl,r⟩:=at_
  have l2:=ylf l1 hp hm hf hn
  exact q (.ref p) (yrB W1 p _) w1 l2 ⟨p,dx,vs,rfl,yu,hl,RepL.mono (ydf hf _) (prefix_refl _) _ _ r⟩
 .cases f1
theorem yoJ {o:XO}(a:ymc K ta o):ybt K ta (ygd o):=by
 intro W0 W ρ σ Q z h' g e q
 obtain ⟨d,h1,e1,f1⟩:=yg e
 cases f1
 refine a W0 W ρ σ _ d h1 g e1 fun p W1 w1 l1 hm hn hd at_=>?_
 subst w1
 have pre:W1.m <+: W1.m++[p]:=List.prefix_append _ _
 refine q (.ref p) ⟨W1.F,W1.H,W1.m++[p],W1.h++[d]⟩ rfl ⟨⟨l1.ok.le,?_,?_,fun n d' a e1 e2=>?_⟩,l1.fs,l1.pre.trans pre,l1.keep,l1.new,fun b z n=>?_,fun n ks xs e1=>⟨by
  have:=(l1.fz n ks xs e1).1
  show (W1.h++[d])[n]?=_
  rw [getElem?_append_left (List.getElem?_eq_some_iff.mp this).1];exact this,(l1.fz n ks xs e1).2⟩⟩ ⟨p,rfl,?_⟩
 .show (W1.m++[p]).length=(W1.h++[d]).length
  rw [length_append,length_append,l1.ok.len];rfl
 .show (W1.m++[p]).Nodup
  rw [List.nodup_append]
  refine ⟨l1.ok.nd,by simp,?_⟩
  intro a ha b hb
  simp at hb
  subst hb
  exact fun z=>hm (z ▸ ha)
 .have e1:(W1.h++[d])[n]?=some d':=e1
  have e2:(W1.m++[p])[n]?=some a:=e2
  by_cases hlt:n<W1.h.length
  .rw [getElem?_append_left hlt] at e1
   rw [getElem?_append_left (by rw [l1.ok.len];exact hlt)] at e2
   exact (l1.ok.at_ n d' a e1 e2).mono (Same.refl _) pre (fun _ f1=>f1) id
  .rw [getElem?_append_right (by omega)] at e1
   rw [getElem?_append_right (by rw [l1.ok.len];omega)] at e2
   rw [l1.ok.len] at e2
   cases hk:n-W1.h.length with
   | zero =>
    rw [hk] at e1 e2
    simp at e1 e2
    subst e1 e2
    exact at_.mono (Same.refl _) pre (fun _ f1=>f1) id
   | succ k=>rw [hk] at e1;simp at e1
 .have z:b∈W1.m++[p]:=z
  rcases List.mem_append.mp z with z|z
  .exact l1.mn b z n
  .simp at z;subst z;exact hn
 .show (W1.m++[p])[W1.h.length]?=some p
  rw [<- l1.ok.len];simp
noncomputable def spE (K:Ck) (n:Nat) (f:Fn):Sp:=fun vs H Q _=>∃ (W:Wd) (xs:List PV) (x:PV) (h':AH),W.H=H/\WOk K W/\ycn K W xs vs/\xs.length=n/\f xs W.h=some (x,h')/\∀ v W',W'.h=h'->Le K W W'->ycm K W' x v->Q v W'.H
theorem yrC {n:Nat}{f:Fn}{ex:XK}(a:yky K t e) (hn:∀ ρ h xs h',e ρ h=some (xs,h')->xs.length=n):ybt K (yrm (spE K n f) [] ex t) (yT f e):=by
 intro W0 W ρ σ Q z h' g e' q
 obtain ⟨xs,h1,e1,e2⟩:=yg e'
 refine a W0 W ρ σ _ xs h1 g e1 fun vs W1 w1 l1 r1=>?_
 subst w1
 rw [append_nil]
 exact ⟨W1,xs,z,h',rfl,l1.ok,r1,hn _ _ _ _ e1,e2,fun v W2 w2 l2 r2=>q v W2 w2 (l1.trans l2) r2⟩
theorem ylg:∀ ρ h xs h',yk ρ h=some (xs,h')->xs.length=0:=fun ρ h xs h' e=>by cases e;rfl
theorem yrD {n:Nat}(l:∀ ρ h xs h',e ρ h=some (xs,h')->xs.length=n):∀ ρ h xs h',yc ea e ρ h=some (xs,h')->xs.length=n+1:=fun ρ h xs h' q=>by
 obtain ⟨x,h1,e1,q⟩:=yg q
 obtain ⟨ys,h2,e2,q⟩:=yg q
 cases q
 rw [length_cons,l _ _ _ _ e2]
theorem ytH {r} {p} (o:yge K r p) (a:yky K t e):ybt K (tCB r t) (xCB p e):=by
 intro W0 W ρ σ Q z h' g e' q
 obtain ⟨xs,h1,e1,e2⟩:=yg e'
 refine a W0 W ρ σ _ xs h1 g e1 fun vs W1 w1 l1 r1=>?_
 subst w1
 exact o W1 xs vs Q z h' l1.ok r1 e2 fun v W2 w2 l2 r2=>q v W2 w2 (l1.trans l2) r2
theorem yvm {r} {p} (o:yoF K r p) (a:yky K t e):ymc K (tCB r t) (yjA p e):=by
 intro W0 W ρ σ Q z h' g e' q
 obtain ⟨xs,h1,e1,e2⟩:=yg e'
 refine a W0 W ρ σ _ xs h1 g e1 fun vs W1 w1 l1 r1=>?_
 subst w1
 exact o W1 xs vs Q z h' l1.ok r1 e2 (yfF l1 q)
theorem yye {T:String}{c} {r} {p} (o:ynn K T c r p) (b:ybt K ta ea) (a:yky K t e):ybt K (tBM K.K T r ta t) (xBM c p ea e):=by
 intro W0 W ρ σ Q z h' g e' q
 obtain ⟨x,h1,e1,f1⟩:=yg e'
 split at f1
 .rename_i hc
  obtain ⟨xs,h2,e2,f2⟩:=yg f1
  refine b W0 W ρ σ _ x h1 g e1 fun v W1 w1 l1 r1=>⟨o.1 W1 x v l1.ok r1 (by rw [w1];exact hc),?_⟩
  subst w1
  refine a W0 W1 ρ σ _ xs h2 (g.step l1) e2 fun vs W2 w2 l2 r2=>?_
  subst w2
  exact o.2 W2 x v xs vs Q z h' l2.ok (l2.rep r1) r2 f2 fun w W3 w3 l3 r3=>q w W3 w3 (l1.trans (l2.trans l3)) r3
 .cases f1
end
noncomputable def yyf (K:Ck) (t:TO) (e:PSt->AH->Option (Option Int×AH)):Prop:=∀ (W0 W:Wd) (ρ:PSt) (σ:St) (Q:Option Int->Hp->Prop) (x:Option Int) (h':AH),Good K W0 W ρ σ->e ρ W.h=some (x,h') ->
 (∀ W',W'.h=h'->Le K W W'->Q x W'.H)->t σ W.H Q
theorem yrE {ta:TE}{ea:XE}(a:ybt K ta ea):yyf K (yxO ta) (ylb ea):=by
 intro W0 W ρ σ Q z h' g e q
 obtain ⟨x,h1,e1,f1⟩:=yg e
 split at f1
 .rename_i i
  cases f1
  exact a W0 W ρ σ _ _ _ g e1 fun v W1 w1 l1 r1=>⟨i,r1,q W1 w1 l1⟩
 .cases f1
def yoK (K:Ck) (r:V->Option Int->Option Int->Hp->VK->Prop) (p:PV->Option Int->Option Int->AH->Option (Nd×AH)):Prop:=∀ (W:Wd) (x:PV) (v:V) (lo hi:Option Int) (Q:VK) (d:Nd) (h':AH),WOk K W->ycm K W x v->p x lo hi W.h=some (d,h')->ynm K W d h' Q->r v lo hi W.H Q
theorem yvn {r} {p} {ta:TE}{ea:XE}{tl th:TO}{el eh} (o:yoK K r p) (a:ybt K ta ea) (b:yyf K tl el) (c:yyf K th eh):ymc K (tSl r ta tl th) (yxX p ea el eh):=by
 intro W0 W ρ σ Q z h' g e q
 obtain ⟨x,h1,e1,f1⟩:=yg e
 obtain ⟨l,h2,e2,f2⟩:=yg f1
 obtain ⟨u,h3,e3,f3⟩:=yg f2
 refine a W0 W ρ σ _ x h1 g e1 fun v W1 w1 l1 r1=>?_
 subst w1
 refine b W0 W1 ρ σ _ l h2 (g.step l1) e2 fun W2 w2 l2=>?_
 subst w2
 refine c W0 W2 ρ σ _ u h3 (g.step (l1.trans l2)) e3 fun W3 w3 l3=>?_
 subst w3
 exact o W3 x v l u Q z h' l3.ok ((l2.trans l3).rep r1) f3 (yfF (l1.trans (l2.trans l3)) q)
end PX
namespace PX
open PySem L2
variable {K:Ck}
def yD:XS:=fun ρ h=>some (.nx ρ,h)
def yn (s u:XS):XS:=fun ρ h=>ob (s ρ h) fun o h1=>match o with|.nx ρ'=>u ρ' h1|.rt x=>some (.rt x,h1)|.bk ρ'=>some (.bk ρ',h1)|.ct ρ'=>some (.ct ρ',h1)
def yco (e:XE):XS:=fun ρ h=>ob (e ρ h) fun _ h1=>some (.nx ρ,h1)
def yK (e:XE):XS:=fun ρ h=>ob (e ρ h) fun x h1=>some (.rt x,h1)
def ybn (c:XT) (s u:XS):XS:=fun ρ h=>ob (c ρ h) fun k h1=>if k=true then s ρ h1 else u ρ h1
abbrev XG:=PV->PSt->Option PSt
abbrev XGs:=List PV->PSt->Option PSt
def yz (i:Nat):XG:=fun x ρ=>some (ρ.set i (.val x))
def yvo:XGs:=fun xs ρ=>match xs with|[]=>some ρ|_=>none
def ygf (g:XG) (r:XGs):XGs:=fun xs ρ=>match xs with|[]=>none|x::xs=>(g x ρ).bind fun ρ'=>r xs ρ'
def ytI (n:Nat) (g:XGs):XG:=fun x ρ=>match x with|.tup xs=>if xs.length=n then g xs ρ else none|_=>none
def ycl (e:XE) (g:XG):XS:=fun ρ h=>ob (e ρ h) fun x h1=>(g x ρ).bind fun ρ'=>some (.nx ρ',h1)
def yoL (e:XO) (i:Nat):XS:=fun ρ h=>ob (e ρ h) fun d h1=>some (.nx (ρ.set i (.own d)),h1)
def yrF:PVar->PVar
 | .own (.lst xs)=>.val (.lst xs)
 | .own (.ins k ns xs)=>.val (.ins k ns xs)
 | v=>v
def ylh (i:Nat) (ρ:PSt):PSt:=ρ.modify i yrF
def yyg (i:Nat) (s:XS):XS:=fun ρ h=>s (ylh i ρ) h
def ynp (i:Nat) (e:XE):XS:=fun ρ h=>match ρ[i]? with
 | some (.own (.lst xs))=>ob (e ρ h) fun x h1=>if xs.length<100000 then some (.nx (ρ.set i (.own (.lst (xs++[x])))),h1) else none
 | _=>none
def yeU (g:XG) (s:XS):List PV->PSt->AH->Option (Out×AH)
 | [],ρ,h=>some (.nx ρ,h)
 | x::xs,ρ,h=>(g x ρ).bind fun ρ1=>ob (s ρ1 h) fun o h1=>match o with|.nx ρ'=>yeU g s xs ρ' h1|.ct ρ'=>yeU g s xs ρ' h1|.bk ρ'=>some (.nx ρ',h1)|.rt y=>some (.rt y,h1)
def yoM (it:XA) (g:XG) (s:XS):XS:=fun ρ h=>ob (it ρ h) fun xs h1=>yeU g s xs ρ h1
def whl (c:XT) (s:XS):Nat->PSt->AH->Option (Out×AH)
 | 0,_,_=>none
 | n+1,ρ,h=>ob (c ρ h) fun k h1=>if k=true then ob (s ρ h1) fun o h2=>(match o with|.nx ρ'=>whl c s n ρ' h2|.ct ρ'=>whl c s n ρ' h2|.bk ρ'=>some (.nx ρ',h2)|.rt y=>some (.rt y,h2)) else some (.nx ρ,h1)
def yjC (fuel:Nat) (c:XT) (s:XS):XS:=fun ρ h=>whl c s fuel ρ h
def ybC (N:Nat) (s:XS):Fn:=fun xs h=>ob (s (xs.map .val++replicate (N-xs.length) .no) h) fun o h1=>match o with|.rt x=>some (x,h1)|.nx _=>some (.non,h1)|_=>none
def yoN (ρ:PSt) (i:Nat):PVar:=match ρ[i]? with|some (.val y)=>.val y|_=>.no
def yeY (ix:List Nat) (ρ:PSt) (x:PV):PSt:=.val x::ix.map (yoN ρ)
def ygt (e:XE) (inn:PV->PSt):List PV->AH->Option (List PV×AH)
 | [],h=>some ([],h)
 | x::xs,h=>ob (e (inn x) h) fun y h1=>ob (ygt e inn xs h1) fun ys h2=>some (y::ys,h2)
def ydd (it:XA) (ix:List Nat) (e:XE):XO:=fun ρ h=>ob (it ρ h) fun xs h1=>if xs.length<=100000 then ob (ygt e (yeY ix ρ) xs h1) fun ys h2=>some (.lst ys,h2) else none
theorem Ends.Ok.from_ {W0 W W1:Wd}{D:Ends}{h':AH}{o:Out}(l:Lf K W W1) (k:Ends.Ok K W0 W D h' o):Ends.Ok K W0 W1 D h' o:=by
 cases o with
 | nx ρ=>exact fun W' σ' e l' g=>k W' σ' e (l.trans l') g
 | bk ρ=>exact fun W' σ' e l' g=>k W' σ' e (l.trans l') g
 | ct ρ=>exact fun W' σ' e l' g=>k W' σ' e (l.trans l') g
 | rt x=>exact k
section
variable {ta tb:TE}{ea eb:XE}{t u:TS}{s s':XS}{tA:TT}{eA:XT}
theorem yrG:yee K yxB yD:=by
 intro W0 W ρ σ D o h' g e q
 cases e
 exact q W σ rfl .refl g
theorem yvp (a:yee K t s) (b:yee K u s'):yee K (yAD t u) (yn s s'):=by
 intro W0 W ρ σ D o h' g e q
 obtain ⟨o1,h1,e1,f1⟩:=yg e
 refine a W0 W ρ σ _ o1 h1 g e1 ?_
 cases o1 with
 | nx ρ'=>exact fun W' σ' w l g'=>b W0 W' ρ' σ' D o h' g' (by rw [w];exact f1) (q.from_ l)
 | rt x=>cases f1;exact q
 | bk ρ'=>cases f1;exact q
 | ct ρ'=>cases f1;exact q
theorem yrH (a:ybt K ta ea):yee K (yob ta) (yco ea):=by
 intro W0 W ρ σ D o h' g e q
 obtain ⟨x,h1,e1,f1⟩:=yg e
 cases f1
 exact a W0 W ρ σ _ x _ g e1 fun v W1 w1 l1 r1=>q W1 σ w1 l1.lf (g.step l1)
theorem yvq (a:ybt K ta ea):yee K (yCH ta) (yK ea):=by
 intro W0 W ρ σ D o h' g e q
 obtain ⟨x,h1,e1,f1⟩:=yg e
 cases f1
 exact a W0 W ρ σ _ x _ g e1 fun v W1 w1 l1 r1=>q W1 v w1 (g.le.trans l1) r1
theorem yvr (c:ykx K tA eA) (a:yee K t s) (b:yee K u s'):yee K (yCI tA t u) (ybn eA s s'):=by
 intro W0 W ρ σ D o h' g e q
 obtain ⟨k,h1,e1,f1⟩:=yg e
 refine c W0 W ρ σ _ k h1 g e1 fun W1 w1 l1=>?_
 subst w1
 cases k with
 | true =>
  rw [if_pos rfl] at f1 ⊢
  exact a W0 W1 ρ σ D o h' (g.step l1) f1 (q.from_ l1.lf)
 | false =>
  rw [if_neg (by decide)] at f1 ⊢
  exact b W0 W1 ρ σ D o h' (g.step l1) f1 (q.from_ l1.lf)
theorem Good.set {W0 W:Wd}{ρ:PSt}{σ:St}(g:Good K W0 W ρ σ) (i:Nat) {x:PV}{v:V}(r:ycm K W x v):Good K W0 W (ρ.set i (.val x)) (σ.set i (some v)) where
 le:=g.le
 len:=by simp [g.len]
 val:=fun j y e=>by
  by_cases hj:i=j
  .subst hj
   by_cases hl:i<ρ.length
   .rw [getElem?_set_self hl] at e
    cases e
    exact ⟨v,getElem?_set_self (by rw [g.len];exact hl),r⟩
   .rw [getElem?_eq_none (by simp;omega)] at e;cases e
  .rw [getElem?_set_ne hj] at e
   obtain ⟨w,h1,h2⟩:=g.val j y e
   exact ⟨w,by rw [getElem?_set_ne hj];exact h1,h2⟩
 own:=fun j d e=>by
  by_cases hj:i=j
  .subst hj
   by_cases hl:i<ρ.length
   .rw [getElem?_set_self hl] at e;cases e
   .rw [getElem?_eq_none (by simp;omega)] at e;cases e
  .rw [getElem?_set_ne hj] at e
   obtain ⟨p,h1,h2⟩:=g.own j d e
   exact ⟨p,by rw [getElem?_set_ne hj];exact h1,h2⟩
 ne:=fun j k d d' hjk e1 e2=>by
  have f:∀ {j:Nat}{d:Nd},(ρ.set i (.val x))[j]?=some (.own d)->i≠j/\ρ[j]?=some (.own d):=fun {j d} e=>by
   by_cases hj:i=j
   .subst hj
    by_cases hl:i<ρ.length
    .rw [getElem?_set_self hl] at e;cases e
    .rw [getElem?_eq_none (by simp;omega)] at e;cases e
   .rw [getElem?_set_ne hj] at e;exact ⟨hj,e⟩
  obtain ⟨a1,a2⟩:=f e1
  obtain ⟨b1,b2⟩:=f e2
  rw [getElem?_set_ne a1,getElem?_set_ne b1]
  exact g.ne j k d d' hjk a2 b2
theorem Good.setO {W0 W:Wd}{ρ:PSt}{σ:St}(g:Good K W0 W ρ σ) (i:Nat) {d:Nd}{p:Addr}(hm:p∉W.m) (h0:W0.H p=none) (hd:d≠.dead) (at_:NdAt K W.F W.H W.m d p)
  (ne:∀ j d',i≠j->ρ[j]?=some (.own d')->σ[j]?≠some (some (.ref p))):Good K W0 W (ρ.set i (.own d)) (σ.set i (some (.ref p))) where
 le:=g.le
 len:=by simp [g.len]
 val:=fun j y e=>by
  by_cases hj:i=j
  .subst hj
   by_cases hl:i<ρ.length
   .rw [getElem?_set_self hl] at e;cases e
   .rw [getElem?_eq_none (by simp;omega)] at e;cases e
  .rw [getElem?_set_ne hj] at e
   obtain ⟨w,h1,h2⟩:=g.val j y e
   exact ⟨w,by rw [getElem?_set_ne hj];exact h1,h2⟩
 own:=fun j d' e=>by
  by_cases hj:i=j
  .subst hj
   by_cases hl:i<ρ.length
   .rw [getElem?_set_self hl] at e
    cases e
    exact ⟨p,getElem?_set_self (by rw [g.len];exact hl),hm,h0,hd,at_⟩
   .rw [getElem?_eq_none (by simp;omega)] at e;cases e
  .rw [getElem?_set_ne hj] at e
   obtain ⟨p,h1,h2⟩:=g.own j d' e
   exact ⟨p,by rw [getElem?_set_ne hj];exact h1,h2⟩
 ne:=fun j k d1 d2 hjk e1 e2=>by
  have self:∀ {j:Nat}{d':Nd},i=j->(ρ.set i (.own d))[j]?=some (.own d')->(σ.set i (some (.ref p)))[j]?=some (some (.ref p)):=fun {j d'} hj e=>by
   subst hj
   by_cases hl:i<ρ.length
   .exact getElem?_set_self (by rw [g.len];exact hl)
   .rw [getElem?_eq_none (by simp;omega)] at e;cases e
  by_cases hj:i=j
  .have hk:i≠k:=fun z=>hjk (hj.symm.trans z)
   rw [self hj e1,getElem?_set_ne hk]
   rw [getElem?_set_ne hk] at e2
   exact (ne k d2 hk e2).symm
  .rw [getElem?_set_ne hj]
   rw [getElem?_set_ne hj] at e1
   by_cases hk:i=k
   .rw [self hk e2]
    exact ne j d1 hj e1
   .rw [getElem?_set_ne hk] at e2 ⊢
    exact g.ne j k d1 d2 hjk e1 e2
noncomputable def ynQ (K:Ck) (g:TG) (y:XG):Prop:=∀ (W0 W:Wd) (ρ ρ':PSt) (σ:St) (x:PV) (v:V) (Q:St->Hp->Prop),Good K W0 W ρ σ->ycm K W x v->y x ρ=some ρ'->(∀ σ',Good K W0 W ρ' σ'->Q σ' W.H)->g v σ W.H Q
noncomputable def ynq (K:Ck) (g:TGs) (y:XGs):Prop:=∀ (W0 W:Wd) (ρ ρ':PSt) (σ:St) (x:List PV) (v:List V) (Q:St->Hp->Prop),Good K W0 W ρ σ->ycn K W x v->y x ρ=some ρ'->(∀ σ',Good K W0 W ρ' σ'->Q σ' W.H)->g v σ W.H Q
theorem yeZ (i:Nat):ynQ K (ymZ i) (yz i):=by
 intro W0 W ρ ρ' σ x v Q g r e q
 cases e
 exact q _ (g.set i r)
theorem yrI:ynq K yCK yvo:=by
 intro W0 W ρ ρ' σ x v Q g r e q
 cases x with
 | nil=>cases e;exact ⟨r,q _ g⟩
 | cons _ _=>cases e
theorem yoO {g:TG}{gs:TGs}{y:XG}{ys:XGs}(a:ynQ K g y) (b:ynq K gs ys):ynq K (yxD g gs) (ygf y ys):=by
 intro W0 W ρ ρ' σ x v Q gd r e q
 cases x with
 | nil=>cases e
 | cons x xs =>
  obtain ⟨v1,vs,rfl,r1,r2⟩:=r
  obtain ⟨ρ1,e1,e2⟩:=Option.bind_eq_some_iff.mp e
  exact ⟨v1,vs,rfl,a W0 W ρ ρ1 σ x v1 _ gd r1 e1 fun σ' g'=>b W0 W ρ1 ρ' σ' xs vs Q g' r2 e2 q⟩
theorem yrJ {n:Nat}{gs:TGs}{ys:XGs}(b:ynq K gs ys):ynQ K (yCL K.K n gs) (ytI n ys):=by
 intro W0 W ρ ρ' σ x v Q g r e q
 unfold ytI at e
 split at e
 .rename_i xs
  split at e
  .rename_i hl
   obtain ⟨a,vs,rfl,hs,rs⟩:=r
   exact ⟨a,vs,rfl,(hs.elim (fun h=>SqT.of (g.ok.le _ _ h)) .inr),by rw [rs.len];exact hl,b W0 W ρ ρ' σ xs vs Q g rs e q⟩
  .cases e
 .cases e
theorem yil {g:TG}{y:XG}(a:ybt K ta ea) (b:ynQ K g y):yee K (ytr ta g) (ycl ea y):=by
 intro W0 W ρ σ D o h' gd e q
 obtain ⟨x,h1,e1,f1⟩:=yg e
 obtain ⟨ρ',e2,f2⟩:=Option.bind_eq_some_iff.mp f1
 cases f2
 exact a W0 W ρ σ _ x _ gd e1 fun v W1 w1 l1 r1=>b W0 W1 ρ ρ' σ x v _ (gd.step l1) r1 e2 fun σ' g'=>q W1 σ' w1 l1.lf g'
theorem yrK {o:XO}(i:Nat) (a:ymc K ta o):yee K (ytr ta (ymZ i)) (yoL o i):=by
 intro W0 W ρ σ D o h' gd e q
 obtain ⟨d,h1,e1,f1⟩:=yg e
 cases f1
 refine a W0 W ρ σ _ d _ gd e1 fun p W1 w1 l1 hm hn hd at_=>q W1 _ w1 l1.lf ((gd.step l1).setO i hm (gd.le.fresh hn) hd at_ fun j d' hj e hs=>?_)
 obtain ⟨p',h1,h2,_,_,h5⟩:=gd.own j d' e
 rw [h1] at hs
 cases hs
 obtain ⟨o,ho⟩:=h5.some
 rw [hn] at ho;cases ho
theorem Good.frz {W0 W:Wd}{ρ:PSt}{σ:St}(g:Good K W0 W ρ σ) (i:Nat):∃ W',W'.h=W.h/\W'.H=W.H/\Lf K W W'/\Good K W0 W' (ylh i ρ) σ:=by
 unfold ylh
 cases e:ρ[i]? with
 | none=>exact ⟨W,rfl,rfl,.refl,by rw [List.modify_eq_self (by simpa using e)];exact g⟩
 | some v =>
  have hl:i<ρ.length:=(List.getElem?_eq_some_iff.mp e).1
  have em:ρ.modify i yrF=ρ.set i (yrF v):=by
   apply List.ext_getElem?
   intro j
   rw [List.getElem?_modify,List.getElem?_set]
   by_cases hj:i=j
   .subst hj
    obtain ⟨_,ev⟩:=List.getElem?_eq_some_iff.mp e
    simp [hl,ev]
   .simp [hj]
  have same:yrF v=v->∃ W',W'.h=W.h/\W'.H=W.H/\Lf K W W'/\Good K W0 W' (ρ.modify i yrF) σ:=fun z=>⟨W,rfl,rfl,.refl,by
   rw [em,z]
   have:ρ.set i v=ρ:=by
    apply List.ext_getElem?
    intro j
    by_cases hj:i=j
    .subst hj;rw [getElem?_set_self hl,e]
    .rw [getElem?_set_ne hj]
   rw [this];exact g⟩
  have go:∀ (d:Nd) (x:PV) (p:Addr) (o:HO),v=.own d->yrF v=.val x->σ[i]?=some (some (.ref p))->p∉W.m->W0.H p=none->W.H p=some o->W.F p=none->(∀ (F':Hp),Same W.F F'->F' p=some o->Rep K F' W.m x (.ref p)) ->
    ∃ W',W'.h=W.h/\W'.H=W.H/\Lf K W W'/\Good K W0 W' (ρ.modify i yrF) σ:=fun d x p o hv hx hs hm h0 hp hf hr=>by
   obtain ⟨k,sF⟩:=yoI (K:=K) g.ok hp hm hf
   have lf:Lf K W (yrB W p o):=⟨sF,prefix_refl _,fun _ _ _ e=>⟨e,fun _ _=>rfl⟩⟩
   refine ⟨yrB W p o,rfl,rfl,lf,⟨ylf g.le hp hm hf h0,by rw [List.length_modify];exact g.len,fun j y e'=>?_,fun j d' e'=>?_,fun j1 j2 d1 d2 hj e1 e2=>?_⟩⟩
   .rw [em,hx] at e'
    by_cases hj:i=j
    .subst hj
     rw [getElem?_set_self hl] at e'
     cases e'
     exact ⟨_,hs,hr _ sF yu⟩
    .rw [getElem?_set_ne hj] at e'
     obtain ⟨w,a1,a2⟩:=g.val j y e'
     exact ⟨w,a1,lf.rep a2⟩
   .rw [em,hx] at e'
    by_cases hj:i=j
    .subst hj
     rw [getElem?_set_self hl] at e'
     cases e'
    .rw [getElem?_set_ne hj] at e'
     obtain ⟨q,a1,a2,a3,a4,a5⟩:=g.own j d' e'
     have hq:q≠p:=fun z=>g.ne j i d' d (fun z=>hj z.symm) e' (hv ▸ e) (by rw [a1,hs,z])
     exact ⟨q,a1,a2,a3,a4,a5.mono sF (prefix_refl _) (fun _ e=>e) fun f=>(yy hq).trans f⟩
   .rw [em,hx] at e1 e2
    have f:∀ {j:Nat}{d:Nd},(ρ.set i (.val x))[j]?=some (.own d)->ρ[j]?=some (.own d):=fun {j d} e=>by
     by_cases hj:i=j
     .subst hj;rw [getElem?_set_self hl] at e;cases e
     .rw [getElem?_set_ne hj] at e;exact e
    exact g.ne j1 j2 d1 d2 hj (f e1) (f e2)
  cases v with
  | no=>exact same rfl
  | val x=>exact same rfl
  | own d =>
   obtain ⟨p,a1,a2,a3,a4,a5⟩:=g.own i d e
   cases d with
   | lst xs =>
    obtain ⟨hf,vs,hp,r⟩:=a5
    exact go _ (.lst xs) p _ rfl rfl a1 a2 a3 hp hf fun F' s hF=>⟨p,vs,rfl,hF,RepL.mono s (prefix_refl _) _ _ r⟩
   | dct ks xs=>exact same rfl
   | fz ks xs=>exact same rfl
   | ins k ns xs =>
    obtain ⟨hf,dx,vs,hp,hl,r⟩:=a5
    exact go _ (.ins k ns xs) p _ rfl rfl a1 a2 a3 hp hf fun F' s hF=>⟨p,dx,vs,rfl,hF,hl,RepL.mono s (prefix_refl _) _ _ r⟩
   | dead=>exact same rfl
theorem yvs (i:Nat) (a:yee K t s):yee K t (yyg i s):=by
 intro W0 W ρ σ D o h' g e q
 obtain ⟨W',e1,e2,l,g'⟩:=g.frz i
 rw [<- e2]
 exact a W0 W' _ σ D o h' g' (by rw [e1];exact e) (q.from_ l)
end
end PX
namespace PX
open PySem L2
variable {K:Ck}
section
variable {ta tb:TE}{ea eb:XE}{t u:TS}{s s':XS}{tA:TT}{eA:XT}
def yrL (W:Wd) (p:Addr) (o:HO):Wd:=⟨W.F,upd W.H p o,W.m,W.h⟩
theorem yvt {W:Wd}{p:Addr}{o:HO}(w:WOk K W) (hm:p∉W.m) (hf:W.F p=none):WOk K (yrL W p o):=by
 refine ⟨fun b u e=>?_,w.len,w.nd,fun n d a e1 e2=>?_⟩
 .have:b≠p:=yZ e hf
  exact (yy this).trans (w.le _ _ e)
 .have ha:a≠p:=fun z=>hm (z ▸ mem_of_getElem? e2)
  exact (w.at_ n d a e1 e2).mono (Same.refl _) (prefix_refl _) (fun u e=>(yy ha).trans e) id
theorem yli {W W1:Wd}{p:Addr}{o:HO}(l:Le K W W1) (hm:p∉W1.m) (hf:W1.F p=none) (hn:W.H p=none):Le K W (yrL W1 p o) :=
 ⟨yvt l.ok hm hf,l.fs,l.pre,fun b u e n=>(yy (yZ e hn)).trans (l.keep b u e n),l.new,l.mn,fun n ks xs e1=>⟨(l.fz n ks xs e1).1,fun a e2=>(yy (fun (z:a=p)=>hm (z ▸ mem_of_getElem? (ydI l.pre e2)))).trans ((l.fz n ks xs e1).2 a e2)⟩⟩
theorem yoP {W W1:Wd}{p:Addr}{o:HO}(l:Le K W W1) (hm:p∉W1.m):Lf K W (yrL W1 p o) :=
 ⟨l.fs,l.pre,fun n ks xs e1=>⟨(l.fz n ks xs e1).1,fun a e2=>(yy (fun (z:a=p)=>hm (z ▸ mem_of_getElem? (ydI l.pre e2)))).trans ((l.fz n ks xs e1).2 a e2)⟩⟩
theorem Good.mut {W0 W:Wd}{ρ:PSt}{σ:St}(g:Good K W0 W ρ σ) {i:Nat}{d d':Nd}{p:Addr}{o:HO}(e:ρ[i]?=some (.own d)) (hs:σ[i]?=some (some (.ref p))) (hm:p∉W.m) (h0:W0.H p=none) (hf:W.F p=none) (hd:d'≠.dead)
  (at_:NdAt K W.F (upd W.H p o) W.m d' p):Good K W0 (yrL W p o) (ρ.set i (.own d')) σ:=by
 have hl:i<ρ.length:=(List.getElem?_eq_some_iff.mp e).1
 refine ⟨yli g.le hm hf h0,by rw [length_set];exact g.len,fun j y e'=>?_,fun j d1 e'=>?_,fun j1 j2 d1 d2 hj e1 e2=>?_⟩
 .by_cases hj:i=j
  .subst hj;rw [getElem?_set_self hl] at e';cases e'
  .rw [getElem?_set_ne hj] at e';exact g.val j y e'
 .by_cases hj:i=j
  .subst hj;rw [getElem?_set_self hl] at e';cases e';exact ⟨p,hs,hm,h0,hd,at_⟩
  .rw [getElem?_set_ne hj] at e'
   obtain ⟨q,a1,a2,a3,a4,a5⟩:=g.own j d1 e'
   have hq:q≠p:=fun z=>g.ne j i d1 d (fun z=>hj z.symm) e' e (by rw [a1,hs,z])
   exact ⟨q,a1,a2,a3,a4,a5.mono (Same.refl _) (prefix_refl _) (fun u e=>(yy hq).trans e) id⟩
 .have f:∀ {j:Nat}{d1:Nd},(ρ.set i (.own d'))[j]?=some (.own d1)->∃ d2,ρ[j]?=some (.own d2):=fun {j d1} e'=>by
   by_cases hj:i=j
   .subst hj;exact ⟨d,e⟩
   .rw [getElem?_set_ne hj] at e';exact ⟨_,e'⟩
  obtain ⟨_,f1⟩:=f e1
  obtain ⟨_,f2⟩:=f e2
  exact g.ne j1 j2 _ _ hj f1 f2
theorem big {n:Nat}(h:n<100000):n<sizeLine:=lt_of_lt_of_le h (by decide)
theorem yxb {n:Nat}(h:n<=100000):n<=sizeLine:=Nat.le_trans h (by decide)
theorem yrM (i:Nat) (a:ybt K ta ea):yee K (yob (tBM K.K "list" ykK (ynP i) (ykG ta yty))) (ynp i ea):=by
 intro W0 W ρ σ D o h' g e q
 unfold ynp at e
 split at e
 .rename_i xs0 hx
  obtain ⟨x,h1,e1,f1⟩:=yg e
  split at f1
  .rename_i hlen
   cases f1
   obtain ⟨p,a1,a2,a3,a4,hf,vs,hp,r⟩:=g.own i _ hx
   refine ⟨.ref p,a1,.inl ⟨rfl,_,SqL.of hp⟩,?_⟩
   refine a W0 W ρ σ _ x _ g e1 fun v W1 w1 l1 r1=>⟨p,vs,v,rfl,rfl,l1.keep _ _ hp a2,by rw [r.len];exact big hlen,?_⟩
   have g1:=g.step l1
   obtain ⟨p',b1,b2,b3,b4,b5,vs',b6,b7⟩:=g1.own i _ hx
   rw [a1] at b1
   cases b1
   rw [l1.keep _ _ hp a2] at b6
   cases b6
   exact q (yrL W1 p (.lst (vs++[v]))) σ w1 (yoP l1 b2) (g1.mut hx a1 b2 b3 b5 (fun z=>by cases z) ⟨b5,_,yu,b7.snoc r1⟩)
  .cases f1
 .cases e
structure yBf (K:Ck) (W:Wd) (J:It) (xs:List PV):Prop where
 go:∀ (i:Nat) (W':Wd),Lf K W W'->WOk K W'->i<xs.length->J.go i W'.H
 yld:∀ (i:Nat) (W':Wd) (v:V) (H2:Hp),Lf K W W'->WOk K W'->i<xs.length->J.yld i W'.H v H2->H2=W'.H/\∃ x,xs[i]?=some x/\ycm K W' x v
 stop:∀ (W':Wd),Lf K W W'->WOk K W'->J.stop xs.length W'.H
noncomputable def ytJ (K:Ck) (wi:TI) (e:XA):Prop:=∀ (W0 W:Wd) (ρ:PSt) (σ:St) (R:It->Hp->Prop) (xs:List PV) (h':AH),Good K W0 W ρ σ->e ρ W.h=some (xs,h')->(∀ J W',W'.h=h'->Le K W W'->yBf K W' J xs->R J W'.H)->wi σ W.H R
def xIL (e:XE):XA:=fun ρ h=>ob (e ρ h) fun x h1=>match x with|.lst xs=>some (xs,h1)|.scr ns=>some (ns.map .int,h1)|_=>none
def xIT (e:XE):XA:=fun ρ h=>ob (e ρ h) fun x h1=>match x with|.tup xs=>some (xs,h1)|_=>none
def sgn (c:Nat):PV:=.str ⟨#[c]⟩
def xIS (e:XE):XA:=fun ρ h=>ob (e ρ h) fun x h1=>match x with|.str z=>if z.length<=100000 then some (z.cps.toList.map sgn,h1) else none|_=>none
def ygH (lo:Int) (n:Nat):List PV:=(List.range n).map fun (k:Nat)=>.int (lo+(k:Int))
def ymf (a:XA):XA:=fun ρ h=>ob (a ρ h) fun xs h1=>match xs with|[.int j]=>if -1000000000<=j/\j<=1000000000 then some (ygH 0 j.toNat,h1) else none|_=>none
theorem yeN {W:Wd}(w:WOk K W) {a:Addr}{vs:List V}(h:SqL K.K W.F a vs):SqL K.K W.H a vs:=Same.seq w.le h
theorem ybY {W:Wd}(w:WOk K W) {a:Addr}{vs:List V}(h:TpAt K.K W.F a vs):SqT K.K W.H a vs:=h.elim (fun h=>SqT.of (w.le _ _ h)) .inr
theorem yoQ (a:ybt K ta ea):ytJ K (yuJ K.K ta) (xIL ea):=by
 intro W0 W ρ σ R xs h' g e q
 obtain ⟨x,h1,e1,f1⟩:=yg e
 refine a W0 W ρ σ _ x h1 g e1 fun v W1 w1 l1 r1=>?_
 have key:∀ (a:Addr) (vs:List V),v=.ref a->SqL K.K W1.F a vs->RepL K W1.F W1.m xs vs->h1=h'->∃ a,v=.ref a/\(∃ xs,SqL K.K W1.H a xs)/\R (Itl K.K a) W1.H:=fun a vs ev hs rs eh=>by
  subst eh
  refine ⟨a,ev,⟨vs,yeN l1.ok hs⟩,q _ W1 w1 l1 ⟨fun i W' l w hi=>?_,fun i W' v' H2 l w hi hy=>?_,fun W' l w=>?_⟩⟩
  .obtain ⟨v',h1,_⟩:=rs.get (List.getElem?_eq_getElem hi)
   exact ⟨vs,v',yeN w (Same.seq l.fs hs),h1⟩
  .obtain ⟨h1,h2⟩:=hy
   have:=h2 vs (yeN w (Same.seq l.fs hs))
   obtain ⟨x,h3,h4⟩:=rs.get' this
   exact ⟨h1,x,h3,l.rep h4⟩
  .exact ⟨vs,yeN w (Same.seq l.fs hs),by rw [rs.len];exact Nat.le_refl _⟩
 split at f1
 .cases f1
  obtain ⟨a,vs,ev,hs,rs⟩:=r1
  exact key a vs ev (SqL.of hs) rs rfl
 .rename_i ns
  cases f1
  obtain ⟨a,ev,hs⟩:=r1
  exact key a _ ev hs (RepL.of_ints ns) rfl
 .cases f1
theorem yrN (a:ybt K ta ea):ytJ K (yCN K.K ta) (xIT ea):=by
 intro W0 W ρ σ R xs h' g e q
 obtain ⟨x,h1,e1,f1⟩:=yg e
 refine a W0 W ρ σ _ x h1 g e1 fun v W1 w1 l1 r1=>?_
 split at f1
 .cases f1
  obtain ⟨a,vs,ev,hs,rs⟩:=r1
  refine ⟨a,ev,⟨vs,ybY l1.ok hs⟩,q _ W1 w1 l1 ⟨fun i W' l w hi=>?_,fun i W' v' H2 l w hi hy=>?_,fun W' l w=>?_⟩⟩
  .obtain ⟨v',h1,_⟩:=rs.get (List.getElem?_eq_getElem hi)
   exact ⟨vs,v',ybY w (hs.mono l.fs),h1⟩
  .obtain ⟨h1,h2⟩:=hy
   have:=h2 vs (ybY w (hs.mono l.fs))
   obtain ⟨x,h3,h4⟩:=rs.get' this
   exact ⟨h1,x,h3,l.rep h4⟩
  .exact ⟨vs,ybY w (hs.mono l.fs),by rw [rs.len];exact Nat.le_refl _⟩
 .cases f1
theorem yrO (a:ybt K ta ea):ytJ K (yDa ta) (xIS ea):=by
 intro W0 W ρ σ R xs h' g e q
 obtain ⟨x,h1,e1,f1⟩:=yg e
 refine a W0 W ρ σ _ x h1 g e1 fun v W1 w1 l1 r1=>?_
 split at f1
 .rename_i z
  split at f1
  .rename_i hz
   cases f1
   have hl:z.length=z.cps.toList.length:=by simp [Str.length]
   refine ⟨z,r1,yxb hz,q _ W1 w1 l1 ⟨fun i W' l w hi=>?_,fun i W' v' H2 l w hi hy=>?_,fun W' l w=>?_⟩⟩
   .show i<z.length
    rw [hl];simpa using hi
   .obtain ⟨h1,c,h2,h3⟩:=hy
    exact ⟨h1,sgn c,by rw [getElem?_map,h2];rfl,h3⟩
   .show _=z.length
    rw [hl];simp
  .cases f1
 .cases f1
theorem yyh (W:Wd) (lo:Int) (n:Nat):yBf K W (Itr lo n) (ygH lo n):=by
 refine ⟨fun i W' l w hi=>?_,fun i W' v' H2 l w hi hy=>?_,fun W' l w=>?_⟩
 .show i<n
  simpa [ygH] using hi
 .obtain ⟨h1,h2⟩:=hy
  have hi:i<n:=by simpa [ygH] using hi
  exact ⟨h1,.int (lo+(i:Int)),by simp [ygH,hi],h2⟩
 .show n<=_
  simp [ygH]
theorem yoR {t:TA}{e:XA}(a:yky K t e):ytJ K (yxH t) (ymf e):=by
 intro W0 W ρ σ R xs h' g e q
 obtain ⟨ys,h1,e1,f1⟩:=yg e
 split at f1
 .rename_i j
  split at f1
  .rename_i hj
   cases f1
   refine a W0 W ρ σ _ _ _ g e1 fun vs W1 w1 l1 r1=>?_
   obtain ⟨v,r,rfl,rv,rr⟩:=r1
   obtain rfl:r=[]:=rr
   exact ⟨j,by rw [show v=.int j from rv],by omega,by omega,q _ W1 w1 l1 (yyh W1 0 _)⟩
  .cases f1
 .cases f1
theorem yvu {wi:TI}{it:XA}{g:TG}{y:XG}(a:ytJ K wi it) (b:ynQ K g y) (c:yee K t s):yee K (yxI wi g t) (yoM it y s):=by
 intro W0 W ρ σ D o h' gd e q
 obtain ⟨xs,h1,e1,f1⟩:=yg e
 refine a W0 W ρ σ _ xs h1 gd e1 fun J W1 w1 l1 J1=>?_
 subst w1
 have q1:=q.from_ l1.lf
 refine ⟨fun i m σ H=>m=xs.length-i/\i<=xs.length/\∃ W' ρ',W'.H=H/\Lf K W1 W'/\Good K W0 W' ρ' σ/\yeU y s (xs.drop i) ρ' W'.h=some (o,h'),⟨_,rfl,zero_le _,W1,ρ,rfl,.refl,gd.step l1,by simpa using f1⟩,?_⟩
 rintro i m σ _ ⟨rfl,hi,W',ρ',rfl,l,g',f⟩
 by_cases hlt:i<xs.length
 .rw [List.drop_eq_getElem_cons hlt] at f
  obtain ⟨ρ1,k1,f⟩:=Option.bind_eq_some_iff.mp f
  obtain ⟨o1,h2,k2,f3⟩:=yg f
  refine .inr ⟨J1.go i W' l g'.ok hlt,fun σ2 H2=>i+1<=xs.length/\∃ W2 ρ2,W2.H=H2/\Lf K W1 W2/\Good K W0 W2 ρ2 σ2/\yeU y s (xs.drop (i+1)) ρ2 W2.h=some (o,h'),fun σ2 H2 ⟨n1,n2⟩=>⟨xs.length-(i+1),by omega,rfl,n1,n2⟩,fun v H2 hy=>?_⟩
  obtain ⟨rfl,x,hx,rx⟩:=J1.yld i W' v H2 l g'.ok hlt hy
  rw [List.getElem?_eq_getElem hlt] at hx
  cases hx
  refine b W0 W' ρ' ρ1 σ _ v _ g' rx k1 fun σ2 g2=>?_
  refine c W0 W' ρ1 σ2 _ o1 h2 g2 k2 ?_
  cases o1 with
  | nx ρ2=>exact fun W2 σ3 w2 l2 g3=>⟨hlt,W2,ρ2,rfl,l.trans l2,g3,by rw [w2];exact f3⟩
  | ct ρ2=>exact fun W2 σ3 w2 l2 g3=>⟨hlt,W2,ρ2,rfl,l.trans l2,g3,by rw [w2];exact f3⟩
  | bk ρ2=>cases f3;exact fun W2 σ3 w2 l2 g3=>q1 W2 σ3 w2 (l.trans l2) g3
  | rt x=>cases f3;exact q1
 .have ei:i=xs.length:=by omega
  subst ei
  refine .inl ⟨J1.stop W' l g'.ok,?_⟩
  rw [List.drop_length] at f
  cases f
  exact q1 W' σ rfl l g'
theorem yoS (n:Nat) (c:ykx K tA eA) (a:yee K t s):yee K (ytu tA t) (yjC n eA s):=by
 intro W0 W ρ σ D o h' gd e q
 refine ⟨fun m σ H=>∃ W' ρ',W'.H=H/\Lf K W W'/\Good K W0 W' ρ' σ/\whl eA s m ρ' W'.h=some (o,h'),⟨n,W,ρ,rfl,.refl,gd,e⟩,?_⟩
 rintro m σ _ ⟨W',ρ',rfl,l,g',f⟩
 cases m with
 | zero=>cases f
 | succ m =>
  obtain ⟨k,h1,e1,f1⟩:=yg f
  refine c W0 W' ρ' σ _ k h1 g' e1 fun W1 w1 l1=>?_
  subst w1
  cases k with
  | false =>
   rw [if_neg (by decide)] at f1 ⊢
   cases f1
   exact q W1 σ rfl (l.trans l1.lf) (g'.step l1)
  | true =>
   rw [if_pos rfl] at f1 ⊢
   obtain ⟨o1,h2,k2,f3⟩:=yg f1
   refine ⟨fun σ2 H2=>∃ W2 ρ2,W2.H=H2/\Lf K W W2/\Good K W0 W2 ρ2 σ2/\whl eA s m ρ2 W2.h=some (o,h'),fun σ2 H2 z=>⟨m,Nat.lt_succ_self _,z⟩,?_⟩
   refine a W0 W1 ρ' σ _ o1 h2 (g'.step l1) k2 ?_
   have l':=l.trans l1.lf
   cases o1 with
   | nx ρ2=>exact fun W2 σ3 w2 l2 g3=>⟨W2,ρ2,rfl,l'.trans l2,g3,by rw [w2];exact f3⟩
   | ct ρ2=>exact fun W2 σ3 w2 l2 g3=>⟨W2,ρ2,rfl,l'.trans l2,g3,by rw [w2];exact f3⟩
   | bk ρ2=>cases f3;exact fun W2 σ3 w2 l2 g3=>q W2 σ3 w2 (l'.trans l2) g3
   | rt x=>cases f3;exact q
theorem ylj {e:XE}{inn:PV->PSt}:∀ {xs:List PV}{h:AH}{ys:List PV}{h':AH},ygt e inn xs h=some (ys,h')->ys.length=xs.length
 | [],_,_,_,e=>by cases e;rfl
 | x::xs,_,_,_,e=>by
  obtain ⟨y,h1,e1,f1⟩:=yg e
  obtain ⟨ys,h2,e2,f2⟩:=yg f1
  cases f2
  rw [length_cons,length_cons,ylj e2]
theorem ymg {W0 W W':Wd}{ρ:PSt}{σ:St}(g:Good K W0 W ρ σ) (l:Le K W W') (ix:List Nat) {x:PV}{v:V}(r:ycm K W' x v):Good K W' W' (yeY ix ρ x) (inner ix σ v) where
 le:=.refl l.ok
 len:=by simp [yeY,inner]
 val:=fun j y e=>by
  cases j with
  | zero=>simp [yeY] at e;subst e;exact ⟨v,rfl,r⟩
  | succ j =>
   have e:(ix.map (yoN ρ))[j]?=some (.val y):=e
   rw [getElem?_map] at e
   cases ei:ix[j]? with
   | none=>rw [ei] at e;cases e
   | some i =>
    rw [ei] at e
    have e:yoN ρ i=.val y:=Option.some.inj e
    unfold yoN at e
    split at e
    .rename_i z hz
     cases e
     obtain ⟨w,h1,h2⟩:=g.val i _ hz
     exact ⟨w,by show (ix.map fun i=>(σ[i]?).getD none)[j]?=_;rw [getElem?_map,ei];simp [h1],l.rep h2⟩
    .cases e
 own:=fun j d e=>by
  cases j with
  | zero=>simp [yeY] at e
  | succ j =>
   have e:(ix.map (yoN ρ))[j]?=some (.own d):=e
   rw [getElem?_map] at e
   cases ei:ix[j]? with
   | none=>rw [ei] at e;cases e
   | some i =>
    rw [ei] at e
    have e:yoN ρ i=.own d:=Option.some.inj e
    unfold yoN at e
    split at e<;>cases e
 ne:=fun j k d d' _ e _=>by
  cases j with
  | zero=>simp [yeY] at e
  | succ j =>
   have e:(ix.map (yoN ρ))[j]?=some (.own d):=e
   rw [getElem?_map] at e
   cases ei:ix[j]? with
   | none=>rw [ei] at e;cases e
   | some i =>
    rw [ei] at e
    have e:yoN ρ i=.own d:=Option.some.inj e
    unfold yoN at e
    split at e<;>cases e
theorem yim {wi:TI}{it:XA}(ix:List Nat) (a:ytJ K wi it) (b:ybt K ta ea):ymc K (yoz wi ix ta) (ydd it ix ea):=by
 intro W0 W ρ σ Q d h' gd e q
 obtain ⟨xs,h1,e1,f1⟩:=yg e
 split at f1
 .rename_i hlen
  obtain ⟨zs,h2,e2,f2⟩:=yg f1
  cases f2
  have hz:=ylj e2
  refine a W0 W ρ σ _ xs h1 gd e1 fun J W1 w1 l1 J1=>?_
  subst w1
  intro D hD
  have nm:=l1.ok.out hD
  have nf:=l1.ok.ff hD
  refine ⟨fun i m H=>m=xs.length-i/\i<=xs.length/\∃ W' acc done rest,W'.H=H/\Le K W1 W'/\D∉W'.m/\W'.F D=none/\H D=some (.lst acc)/\ycn K W' done acc/\done.length=i/\zs=done++rest/\ygt ea (yeY ix ρ) (xs.drop i) W'.h=some (rest,h'),⟨_,rfl,zero_le _,yfT W1 D (.lst []),[],[],zs,rfl,ycO l1.ok hD,nm,nf,yu,rfl,rfl,rfl,by rw [List.drop_zero];exact e2⟩,?_⟩
  rintro i m _ ⟨rfl,hi,W',acc,done,rest,rfl,l,n1,n2,hd,rd,ld,ez,f⟩
  by_cases hlt:i<xs.length
  .rw [List.drop_eq_getElem_cons hlt] at f
   obtain ⟨y,h3,k1,f3⟩:=yg f
   obtain ⟨ys,h4,k2,f4⟩:=yg f3
   cases f4
   refine .inr ⟨J1.go i W' l.lf l.ok hlt,fun v H2 hy=>?_⟩
   obtain ⟨rfl,x,hx,rx⟩:=J1.yld i W' v H2 l.lf l.ok hlt hy
   rw [List.getElem?_eq_getElem hlt] at hx
   cases hx
   refine b W' W' _ _ _ y h3 (ymg gd (l1.trans l) ix rx) k1 fun w W2 w2 l2 r2=>?_
   obtain ⟨o2,n2'⟩:∃ o,W'.H D=some o:=⟨_,hd⟩
   have nm2:D∉W2.m:=fun z=>by rw [l2.mn D z n1] at hd;cases hd
   have nf2:W2.F D=none:=l2.new D _ hd n1 n2
   refine ⟨acc,l2.keep _ _ hd n1,?_,xs.length-(i+1),by omega,rfl,hlt,yrL W2 D (.lst (acc++[w])),acc++[w],done++[y],ys,rfl,yli (l.trans l2) nm2 nf2 hD,nm2,nf2,yu,(l2.repL rd).snoc r2,by simp [ld],by simp [ez],?_⟩
   .rw [rd.len,ld];exact big (by omega)
   .show ygt ea (yeY ix ρ) (xs.drop (i+1)) W2.h=some (ys,h')
    rw [w2];exact k2
  .have ei:i=xs.length:=by omega
   subst ei
   rw [List.drop_length] at f
   cases f
   refine .inl ⟨J1.stop W' l.lf l.ok,?_⟩
   rw [append_nil] at ez
   subst ez
   exact q D W' rfl (l1.trans l) n1 (l1.fresh hD) (fun z=>by cases z) ⟨n2,acc,hd,rd⟩
 .cases f1
theorem yfG {W:Wd}(w:WOk K W) {N:List Str}{xs:List PV}{vs:List V}(r:ycn K W xs vs):Good K W W (xs.map .val++replicate (N.length-xs.length) .no) (L2.start N vs) where
 le:=.refl w
 len:=by simp [L2.start,r.len]
 val:=fun j y e=>by
  by_cases hj:j<xs.length
  .rw [getElem?_append_left (by simpa using hj),getElem?_map,List.getElem?_eq_getElem hj] at e
   cases e
   obtain ⟨v,h1,h2⟩:=r.get (List.getElem?_eq_getElem hj)
   refine ⟨v,?_,h2⟩
   unfold L2.start
   rw [getElem?_append_left (by simp [r.len,hj]),getElem?_map,h1];rfl
  .rw [getElem?_append_right (by simp;omega),getElem?_replicate] at e
   split at e<;>cases e
 own:=fun j d e=>by
  by_cases hj:j<xs.length
  .rw [getElem?_append_left (by simpa using hj),getElem?_map,List.getElem?_eq_getElem hj] at e
   cases e
  .rw [getElem?_append_right (by simp;omega),getElem?_replicate] at e
   split at e<;>cases e
 ne:=fun j k d d' _ e _=>by
  by_cases hj:j<xs.length
  .rw [getElem?_append_left (by simpa using hj),getElem?_map,List.getElem?_eq_getElem hj] at e
   cases e
  .rw [getElem?_append_right (by simp;omega),getElem?_replicate] at e
   split at e<;>cases e
theorem yrP {N:List Str}{n:Nat}{vs:List V}{H:Hp}{Q:VK}{E:XK}{bk ct:St->Hp->Prop}(a:yee K t s) (h:spE K n (ybC N.length s) vs H Q E):t ⟨fun _ H'=>Q .non H',Q,bk,ct⟩ (L2.start N vs) H:=by
 obtain ⟨W,xs,x,h',rfl,w,r,_,e,q⟩:=h
 obtain ⟨o,h1,e1,f1⟩:=yg e
 refine a W W _ _ _ o h1 (yfG w r) e1 ?_
 cases o with
 | rt y=>cases f1;exact fun W' v ew l rv=>q v W' ew l rv
 | nx ρ=>cases f1;exact fun W' σ' ew _ g=>q .non W' ew g.le rfl
 | bk ρ=>cases f1
 | ct ρ=>cases f1
theorem yvv {n:Nat}{f:Fn}{vs:List V}{H:Hp}{Q:VK}{E:XK}(h:spE K n f vs H Q E):vs.length=n:=by
 obtain ⟨W,xs,x,h',rfl,w,r,hn,_⟩:=h
 rw [r.len,hn]
end
end PX
namespace PX
open PySem L2
variable {K:Ck}
def oI (g:Int->Int->PV):P2:=fun x y h=>match x,y with|.int i,.int j=>some (g i j,h)|_,_=>none
noncomputable def oIc (C:Int->Int->Prop) [∀ i j,Decidable (C i j)] (g:Int->Int->PV):P2:=fun x y h=>match x,y with|.int i,.int j=>if C i j then some (g i j,h) else none|_,_=>none
abbrev ylk:P2:=oI fun i j=>.int (i+j)
abbrev yyi:P2:=oI fun i j=>.int (i-j)
noncomputable def MulOk (i j:Int):Prop:=(-18446744073709551616<i/\i<18446744073709551616)\/(-18446744073709551616<j/\j<18446744073709551616)
instance (i j:Int):Decidable (MulOk i j):=by unfold MulOk;infer_instance
def yoT (i j:Int):Prop:=(0<=i/\i<18446744073709551616)/\0<=j/\j<=1000000
instance (i j:Int):Decidable (yoT i j):=by unfold yoT;infer_instance
abbrev yxc:P2:=oIc MulOk fun i j=>.int (i*j)
abbrev oDiv:P2:=oIc (fun _ j=>0<j/\j<1073741824) fun i j=>.int (i/j)
abbrev oMod:P2:=oIc (fun _ j=>0<j) fun i j=>.int (i%j)
abbrev yvw:P2:=oIc yoT fun i j=>.int (i ^ j.toNat)
abbrev oLt:P2:=oI fun i j=>.bl (decide (i<j))
abbrev oLe:P2:=oI fun i j=>.bl (decide (i<=j))
abbrev oGt:P2:=oI fun i j=>.bl (decide (j<i))
abbrev yBg:PV->AH->Option (PV×AH):=fun x h=>match x with|.int i=>some (.int (-i),h)|_=>none
theorem yyj {g:Int->Int->PV}{gV:Int->Int->V}(h:∀ (W:Wd) i j,ycm K W (g i j) (gV i j)):ybU K (rI0 gV) (oI g):=by
 intro W x y v u Q z h' w rx ry e q
 unfold oI at e
 split at e
 .rename_i i j
  cases e
  exact ⟨i,j,rx,ry,q _ W rfl (.refl w) (h W i j)⟩
 .cases e
theorem yrQ {C:Int->Int->Prop} [∀ i j,Decidable (C i j)] {C':Int->Int->Prop}{g:Int->Int->PV}{gV:Int->Int->V}(hc:∀ i j,C i j->C' i j) (h:∀ (W:Wd) i j,ycm K W (g i j) (gV i j)):ybU K (rI C' gV) (oIc C g):=by
 intro W x y v u Q z h' w rx ry e q
 unfold oIc at e
 split at e
 .rename_i i j
  split at e
  .rename_i c
   cases e
   exact ⟨i,j,rx,ry,hc i j c,q _ W rfl (.refl w) (h W i j)⟩
  .cases e
 .cases e
theorem yfH:ybU K yAS ylk:=yyj fun _ _ _=>rfl
theorem yrR:ybU K yAT yyi:=yyj fun _ _ _=>rfl
theorem yoU:ybU K yAU yxc:=yrQ (fun i j h=>by unfold CMul;rw [show (2:Int) ^ 64=18446744073709551616 by decide];exact h) fun _ _ _=>rfl
theorem ynr:ybU K yAV oDiv:=yrQ (fun i j h=>h) fun _ _ _=>rfl
theorem ycT:ybU K yAW oMod:=yrQ (fun i j h=>h) fun _ _ _=>rfl
theorem yoV:ybU K yAX yvw:=yrQ (fun i j h=>by unfold yAJ;rw [show 2 ^ 64=18446744073709551616 by decide];unfold yoT at h;omega) fun _ _ _=>rfl
theorem yqV:ybU K yDv oLt:=yyj fun _ _ _=>rfl
theorem ytK:ybU K yDw oLe:=yyj fun _ _ _=>rfl
theorem yBh:ybU K yDx oGt:=yyj fun _ _ _=>rfl
theorem yBi:yvd K yAY yBg:=by
 intro W x v Q z h' w rx e q
 unfold yBg at e
 split at e
 .rename_i i
  cases e
  exact ⟨i,rx,q _ W rfl (.refl w) rfl⟩
 .cases e
def sv:PV->Option V
 | .non=>some .non
 | .bl b=>some (.bl b)
 | .int i=>some (.int i)
 | .str s=>some (.str s)
 | _=>none
theorem yeF {W:Wd}{x:PV}{v u:V}(e:sv x=some u) (r:ycm K W x v):v=u:=by
 cases x<;>cases e<;>exact r
def oEq:P2:=fun x y h=>match sv x,sv y with|some v,some u=>if ytv v u=true then some (.bl (decide (v=u)),h) else none|_,_=>none
def oNe:P2:=fun x y h=>match sv x,sv y with|some v,some u=>if ytv v u=true then some (.bl (!decide (v=u)),h) else none|_,_=>none
theorem ycB:ybU K rEq oEq:=by
 intro W x y v u Q z h' w rx ry e q
 unfold oEq at e
 split at e
 .rename_i v' u' e1 e2
  obtain rfl:=yeF e1 rx
  obtain rfl:=yeF e2 ry
  split at e
  .rename_i c
   cases e
   exact ⟨c,q _ W rfl (.refl w) rfl⟩
  .cases e
 .cases e
theorem yxd:ybU K rNe oNe:=by
 intro W x y v u Q z h' w rx ry e q
 unfold oNe at e
 split at e
 .rename_i v' u' e1 e2
  obtain rfl:=yeF e1 rx
  obtain rfl:=yeF e2 ry
  split at e
  .rename_i c
   cases e
   exact ⟨c,q _ W rfl (.refl w) rfl⟩
  .cases e
 .cases e
def isN:PV->Bool
 | .non=>true
 | _=>false
def yvx:P2:=fun x y h=>match y with|.non=>some (.bl (isN x),h)|_=>none
def yrS:P2:=fun x y h=>match y with|.non=>some (.bl (!isN x),h)|_=>none
theorem yoW {W:Wd}{x:PV}{v:V}(r:ycm K W x v):decide (v=.non)=isN x:=by
 cases x with
 | non=>rw [show v=.non from r];rfl
 | bl b=>rw [show v=.bl b from r];rfl
 | int b=>rw [show v=.int b from r];rfl
 | str b=>rw [show v=.str b from r];rfl
 | ty b=>rw [show v=.ty b from r];rfl
 | cls b=>rw [show v=.ref _ from r];rfl
 | scr b=>obtain ⟨a,e,_⟩:=r;rw [e];rfl
 | lst b=>obtain ⟨a,_,e,_⟩:=r;rw [e];rfl
 | tup b=>obtain ⟨a,_,e,_⟩:=r;rw [e];rfl
 | ins k n b=>obtain ⟨a,_,_,e,_⟩:=r;rw [e];rfl
 | loc n=>obtain ⟨a,e,_⟩:=r;rw [e];rfl
theorem yrT:ybU K yDy yvx:=by
 intro W x y v u Q z h' w rx ry e q
 unfold yvx at e
 split at e
 .cases e
  exact ⟨ry,by rw [yoW rx];exact q _ W rfl (.refl w) rfl⟩
 .cases e
theorem yyk:ybU K yAZ yrS:=by
 intro W x y v u Q z h' w rx ry e q
 unfold yrS at e
 split at e
 .cases e
  exact ⟨ry,by rw [yoW rx];exact q _ W rfl (.refl w) rfl⟩
 .cases e
noncomputable def yDz:P2:=fun x y h=>match x,y with|.str i,.str j=>if i.length+j.length<=100000 then some (.str (i++j),h) else none|_,_=>none
noncomputable def yyl:P2:=fun x y h=>match x,y with|.str s,.str j=>(match s.cps.toList with|[c]=>some (.bl (decide (c∈j.cps.toList)),h)|_=>none)|_,_=>none
theorem one_sign {s:Str}{c:Nat}(h:s.cps.toList=[c]):s=⟨#[c]⟩:=by
 obtain ⟨⟨l⟩⟩:=s
 have:l=[c]:=h
 rw [this]
theorem yym:ybU K yCX yyl:=by
 intro W x y v u Q z h' w rx ry e q
 unfold yyl at e
 split at e
 .rename_i s j
  split at e
  .rename_i c hc
   cases e
   exact ⟨c,j,by rw [<- one_sign hc];exact rx,ry,q _ W rfl (.refl w) rfl⟩
  .cases e
 .cases e
def ycp:P2:=fun x y h=>match y with
 | .int i=>(match x with
  | .lst xs=>(match atI xs i with|some v=>some (v,h)|none=>none)
  | .scr ns=>(match atI ns i with|some v=>some (.int v,h)|none=>none)
  | .loc n=>(match h[n]? with|some (.lst xs)=>(match atI xs i with|some v=>some (v,h)|none=>none)|_=>none)
  | _=>none)
 | _=>none
def ybD:P2:=fun x y h=>match x,y with|.tup xs,.int i=>(match atI xs i with|some v=>some (v,h)|none=>none)|_,_=>none
def ytL:P2:=fun x y h=>match x,y with|.str s,.int i=>(match atI s.cps.toList i with|some c=>if s.length<=100000 then some (sgn c,h) else none|none=>none)|_,_=>none
theorem RepL.at {F:Hp}{m:List Addr}{xs:List PV}{vs:List V}(r:RepL K F m xs vs) {i:Int}{x:PV}(e:atI xs i=some x):∃ v,atI vs i=some v/\Rep K F m x v:=by
 unfold atI at e ⊢
 rw [r.len]
 obtain ⟨j,e1,e2⟩:=Option.bind_eq_some_iff.mp e
 rw [e1]
 exact r.get e2
theorem WOk.loc {W:Wd}(w:WOk K W) {n:Nat}{d:Nd}{v:V}(e:W.h[n]?=Option.some d) (r:ycm K W (.loc n) v):∃ a,v=.ref a/\W.m[n]?=Option.some a/\NdAt K W.F W.H W.m d a:=by
 obtain ⟨a,ea,h⟩:=r
 exact ⟨a,ea,h,w.at_ n d a e h⟩
theorem ybV:ybU K (yAN K.K) ycp:=by
 intro W x y v u Q z h' w rx ry e q
 unfold ycp at e
 split at e
 .rename_i i
  split at e
  .rename_i xs
   split at e
   .rename_i y hy
    cases e
    obtain ⟨a,vs,ev,hs,rs⟩:=rx
    obtain ⟨v',h1,h2⟩:=rs.at hy
    exact ⟨a,vs,i,v',ev,ry,SqL.of (w.le _ _ hs),h1,q _ W rfl (.refl w) h2⟩
   .cases e
  .rename_i ns
   split at e
   .rename_i y hy
    cases e
    obtain ⟨a,ev,hs⟩:=rx
    refine ⟨a,_,i,.int y,ev,ry,yeN w hs,?_,q _ W rfl (.refl w) rfl⟩
    unfold atI at hy ⊢
    rw [length_map]
    obtain ⟨j,e1,e2⟩:=Option.bind_eq_some_iff.mp hy
    rw [e1]
    show (ns.map V.int)[j]?=_
    rw [getElem?_map,e2];rfl
   .cases e
  .rename_i n
   split at e
   .rename_i xs hn
    split at e
    .rename_i y hy
     cases e
     obtain ⟨a,ev,hm,hf,vs,hp,rs⟩:=w.loc hn rx
     obtain ⟨v',h1,h2⟩:=rs.at hy
     exact ⟨a,vs,i,v',ev,ry,SqL.of hp,h1,q _ W rfl (.refl w) h2⟩
    .cases e
   .cases e
  .cases e
 .cases e
theorem ybc:ybU K (yAO K.K) ybD:=by
 intro W x y v u Q z h' w rx ry e q
 unfold ybD at e
 split at e
 .rename_i xs i
  split at e
  .rename_i y hy
   cases e
   obtain ⟨a,vs,ev,hs,rs⟩:=rx
   obtain ⟨v',h1,h2⟩:=rs.at hy
   exact ⟨a,vs,i,v',ev,ry,ybY w hs,h1,q _ W rfl (.refl w) h2⟩
  .cases e
 .cases e
theorem yrU:ybU K yAP ytL:=by
 intro W x y v u Q z h' w rx ry e q
 unfold ytL at e
 split at e
 .rename_i s i
  split at e
  .rename_i c hc
   split at e
   .rename_i hl
    cases e
    exact ⟨s,i,c,rx,ry,yxb hl,hc,q _ W rfl (.refl w) rfl⟩
   .cases e
  .cases e
 .cases e
noncomputable def yrV {α:Type}(xs:List α) (lo hi:Option Int):List α:=(xs.drop (HT.sIx xs.length 0 lo)).take (HT.sIx xs.length xs.length hi-HT.sIx xs.length 0 lo)
noncomputable def listOf (x:PV) (h:AH):Option (List PV):=match x with|.lst xs=>some xs|.scr ns=>some (ns.map .int)|.loc n=>(match h[n]? with|some (.lst xs)=>some xs|_=>none)|_=>none
theorem yfI {W:Wd}(w:WOk K W) {x:PV}{v:V}{xs:List PV}(e:listOf x W.h=some xs) (r:ycm K W x v):∃ a vs,v=.ref a/\SqL K.K W.H a vs/\ycn K W xs vs:=by
 unfold listOf at e
 split at e
 .cases e
  obtain ⟨a,vs,ev,hs,rs⟩:=r
  exact ⟨a,vs,ev,SqL.of (w.le _ _ hs),rs⟩
 .rename_i ns
  cases e
  obtain ⟨a,ev,hs⟩:=r
  exact ⟨a,_,ev,yeN w hs,RepL.of_ints ns⟩
 .rename_i n
  split at e
  .rename_i ys hn
   cases e
   obtain ⟨a,ev,hm,hf,vs,hp,rs⟩:=w.loc hn r
   exact ⟨a,vs,ev,SqL.of hp,rs⟩
  .cases e
 .cases e
noncomputable def yba (x:PV) (h:AH):Option (List PV):=match x with|.lst xs=>some xs|.loc n=>(match h[n]? with|some (.lst xs)=>some xs|_=>none)|_=>none
theorem yN {W:Wd}(w:WOk K W) {x:PV}{v:V}{xs:List PV}(e:yba x W.h=some xs) (r:ycm K W x v):∃ a vs,v=.ref a/\W.H a=some (.lst vs)/\ycn K W xs vs:=by
 unfold yba at e
 split at e
 .cases e
  obtain ⟨a,vs,ev,hs,rs⟩:=r
  exact ⟨a,vs,ev,w.le _ _ hs,rs⟩
 .rename_i n
  split at e
  .rename_i ys hn
   cases e
   obtain ⟨a,ev,hm,hf,vs,hp,rs⟩:=w.loc hn r
   exact ⟨a,vs,ev,hp,rs⟩
  .cases e
 .cases e
theorem yyn {W:Wd}(w:WOk K W) {p:Addr}(hp:W.H p=none) {xs:List PV}{vs:List V}(r:ycn K W xs vs) {Q:VK}(q:ynm K W (.lst xs) W.h Q):Q (.ref p) (upd W.H p (.lst vs)) :=
 q p (yfT W p (.lst vs)) rfl (ycO w hp) (w.out hp) hp (fun z=>by cases z) ⟨w.ff hp,vs,yu,r⟩
def yyo:PV->Option Int->Option Int->AH->Option (Nd×AH):=fun x lo hi h=>match listOf x h with|some xs=>some (.lst (yrV xs lo hi),h)|none=>none
theorem yBj:yoK K (yCT K.K) yyo:=by
 intro W x v lo hi Q d h' w rx e q
 unfold yyo at e
 split at e
 .rename_i xs hx
  cases e
  obtain ⟨a,vs,ev,hs,rs⟩:=yfI w hx rx
  refine ⟨a,vs,ev,hs,fun p hp=>yyn w hp ?_ q⟩
  have:=(rs.drop (HT.sIx xs.length 0 lo)).take (HT.sIx xs.length xs.length hi-HT.sIx xs.length 0 lo)
  unfold yrV yxP
  rw [rs.len]
  exact this
 .cases e
def yAq:P2O:=fun x y h=>match yba x h,yba y h with|some xs,some ys=>if xs.length+ys.length<=100000 then some (.lst (xs++ys),h) else none|_,_=>none
theorem yBk:ymd K yCU yAq:=by
 intro W x y v u Q d h' w rx ry e q
 unfold yAq at e
 split at e
 .rename_i xs ys hx hy
  split at e
  .rename_i hl
   cases e
   obtain ⟨a,vs,ev,hs,rs⟩:=yN w hx rx
   obtain ⟨b,us,eu,ht,ru⟩:=yN w hy ry
   refine ⟨a,b,vs,us,ev,eu,hs,ht,by rw [rs.len,ru.len];exact yxb hl,fun p hp=>yyn w hp (rs.app ru) q⟩
  .cases e
 .cases e
def repL {α:Type}(k:Nat) (xs:List α):List α:=(replicate k xs).flatten
theorem RepL.rep {F:Hp}{m:List Addr}{xs:List PV}{vs:List V}(r:RepL K F m xs vs):∀ k:Nat,RepL K F m (repL k xs) (repL k vs)
 | 0=>rfl
 | k+1=>by
  show RepL K F m ((replicate (k+1) xs).flatten) ((replicate (k+1) vs).flatten)
  rw [List.replicate_succ,List.replicate_succ,List.flatten_cons,List.flatten_cons]
  exact r.app (RepL.rep r k)
def yvy:P2O:=fun x y h=>match yba x h,y with|some xs,.int k=>if -1000000<=k/\k<=100000/\xs.length*k.toNat<=100000 then some (.lst (repL k.toNat xs),h) else none|_,_=>none
theorem yrW:ymd K yCV yvy:=by
 intro W x y v u Q d h' w rx ry e q
 unfold yvy at e
 split at e
 .rename_i xs k hx
  split at e
  .rename_i hl
   cases e
   obtain ⟨a,vs,ev,hs,rs⟩:=yN w hx rx
   refine ⟨a,k,vs,ev,ry,hs,by omega,by omega,by rw [rs.len];exact yxb hl.2.2,fun p hp=>yyn w hp (rs.rep _) q⟩
  .cases e
 .cases e
noncomputable def ymh (x:PV) (h:AH):Option Nat:=match x with|.tup xs=>some xs.length|.lst xs=>some xs.length|.scr ns=>some ns.length|.loc n=>(match h[n]? with|some (.lst xs)=>some xs.length|_=>none)|_=>none
def yce:List PV->AH->Option (PV×AH):=fun xs h=>match xs with|[x]=>(match ymh x h with|some n=>some (.int n,h)|none=>none)|_=>none
noncomputable def yns:List PV->AH->Option (PV×AH):=fun xs h=>match xs with|[.str z]=>if z.length<=100000 then some (.int z.length,h) else none|_=>none
theorem yjD {W:Wd}{x:PV}{vs:List V}(r:ycn K W [x] vs):∃ v,vs=[v]/\ycm K W x v:=by
 obtain ⟨v,r',e,h,l⟩:=r
 exact ⟨v,by rw [e,show r'=[] from l],h⟩
theorem yDA {W:Wd}{x y:PV}{vs:List V}(r:ycn K W [x,y] vs):∃ v u,vs=[v,u]/\ycm K W x v/\ycm K W y u:=by
 obtain ⟨v,r',e,h,l⟩:=r
 obtain ⟨u,e2,h2⟩:=yjD l
 exact ⟨v,u,by rw [e,e2],h,h2⟩
theorem ycC:yge K (yxS K.K) yce:=by
 intro W xs vs Q z h' w r e q
 unfold yce at e
 split at e
 .rename_i x
  split at e
  .rename_i n hn
   cases e
   obtain ⟨v,rfl,rx⟩:=yjD r
   have fin:∀ (ys:List V),ys.length=n->Q (.int ys.length) W.H:=fun ys hl=>by rw [hl];exact q _ W rfl (.refl w) rfl
   unfold ymh at hn
   split at hn
   .cases hn
    obtain ⟨a,us,rfl,hs,rs⟩:=rx
    exact ⟨a,us,rfl,.inr (ybY w hs),fin _ rs.len⟩
   .rename_i ys
    cases hn
    obtain ⟨a,us,rfl,hs,rs⟩:=rx
    exact ⟨a,us,rfl,.inl (SqL.of (w.le _ _ hs)),fin _ rs.len⟩
   .rename_i ns
    cases hn
    obtain ⟨a,rfl,hs⟩:=rx
    exact ⟨a,_,rfl,.inl (yeN w hs),fin _ (by simp)⟩
   .split at hn
    .rename_i ys hy
     cases hn
     obtain ⟨a,rfl,hm,hf,us,hp,rs⟩:=w.loc hy rx
     exact ⟨a,us,rfl,.inl (SqL.of hp),fin _ rs.len⟩
    .cases hn
   .cases hn
  .cases e
 .cases e
theorem yoX:yge K yBb yns:=by
 intro W xs vs Q z h' w r e q
 unfold yns at e
 split at e
 .rename_i s
  split at e
  .rename_i hl
   cases e
   obtain ⟨v,rfl,rx⟩:=yjD r
   exact ⟨s,by rw [show v=_ from rx],yxb hl,q _ W rfl (.refl w) rfl⟩
  .cases e
 .cases e
noncomputable def yoY:List PV->AH->Option (PV×AH):=fun xs h=>match xs with|[.int i]=>some (.int i,h)|[.bl k]=>some (.int (if k then 1 else 0),h)|_=>none
theorem ytM:yge K yBa yoY:=by
 intro W xs vs Q z h' w r e q
 unfold yoY at e
 split at e
 .rename_i i
  cases e
  obtain ⟨v,rfl,rx⟩:=yjD r
  exact .inl ⟨i,by rw [show v=_ from rx],q _ W rfl (.refl w) rfl⟩
 .rename_i k
  cases e
  obtain ⟨v,rfl,rx⟩:=yjD r
  exact .inr ⟨k,by rw [show v=_ from rx],q _ W rfl (.refl w) rfl⟩
 .cases e
noncomputable def yoZ:List PV->AH->Option (PV×AH):=fun xs h=>match xs with|[.str z]=>if z.cps.toList≠[]/\(∀ c∈z.cps.toList,48<=c/\c<=57)/\z.length<=640 then some (.int (yuY z.cps.toList),h) else none|_=>none
theorem yyp:yge K yxT yoZ:=by
 intro W xs vs Q z h' w r e q
 unfold yoZ at e
 split at e
 .rename_i i
  split at e
  .rename_i hl
   cases e
   obtain ⟨v,rfl,rx⟩:=yjD r
   exact ⟨i,by rw [show v=_ from rx],hl.1,hl.2.1,hl.2.2,q _ W rfl (.refl w) rfl⟩
  .cases e
 .cases e
def ybe:List PV->AH->Option (Nd×AH):=fun xs h=>match xs with|[.tup ys]=>some (.lst ys,h)|[x]=>(match listOf x h with|some ys=>some (.lst ys,h)|none=>none)|_=>none
theorem ycj:yoF K (yuZ K.K) ybe:=by
 intro W xs vs Q d h' w r e q
 unfold ybe at e
 split at e
 .rename_i ys
  cases e
  obtain ⟨v,rfl,a,us,rfl,hs,rs⟩:=yjD r
  exact ⟨a,us,rfl,.inr (ybY w hs),fun p hp=>yyn w hp rs q⟩
 .rename_i x _
  split at e
  .rename_i ys hy
   cases e
   obtain ⟨v,rfl,rx⟩:=yjD r
   obtain ⟨a,us,rfl,hs,rs⟩:=yfI w hy rx
   exact ⟨a,us,rfl,.inl hs,fun p hp=>yyn w hp rs q⟩
  .cases e
 .cases e
def strsOf:List PV->Option (List Str)
 | []=>some []
 | .str s::r=>(strsOf r).map (s::·)
 | _=>none
def intsOf:List PV->Option (List Int)
 | []=>some []
 | .int s::r=>(intsOf r).map (s::·)
 | _=>none
def ygI:List PV->Option (List Bool)
 | []=>some []
 | .bl s::r=>(ygI r).map (s::·)
 | _=>none
theorem yhF:∀ ss:List Str,strsOf (ss.map .str)=some ss
 | []=>rfl
 | s::ss=>by show (strsOf (ss.map .str)).map _=_;rw [yhF ss];rfl
theorem yhG:∀ ss:List Int,intsOf (ss.map .int)=some ss
 | []=>rfl
 | s::ss=>by show (intsOf (ss.map .int)).map _=_;rw [yhG ss];rfl
theorem yjE:∀ ss:List Bool,ygI (ss.map .bl)=some ss
 | []=>rfl
 | s::ss=>by show (ygI (ss.map .bl)).map _=_;rw [yjE ss];rfl
theorem yhH {F:Hp}{m:List Addr}:∀ {xs:List PV}{ss:List Str}{vs:List V},strsOf xs=some ss->RepL K F m xs vs->vs=ss.map V.str
 | [],_,_,e,r=>by cases e;exact r
 | x::xs,ss,_,e,⟨v,r',ev,h,l⟩=>by
  cases x<;>try cases e
  rename_i s
  obtain ⟨ts,e1,e2⟩:=Option.map_eq_some_iff.mp e
  subst e2
  rw [ev,show v=_ from h,yhH e1 l];rfl
theorem yhI {F:Hp}{m:List Addr}:∀ {xs:List PV}{ss:List Int}{vs:List V},intsOf xs=some ss->RepL K F m xs vs->vs=ss.map V.int
 | [],_,_,e,r=>by cases e;exact r
 | x::xs,ss,_,e,⟨v,r',ev,h,l⟩=>by
  cases x<;>try cases e
  rename_i s
  obtain ⟨ts,e1,e2⟩:=Option.map_eq_some_iff.mp e
  subst e2
  rw [ev,show v=_ from h,yhI e1 l];rfl
theorem ygJ {F:Hp}{m:List Addr}:∀ {xs:List PV}{ss:List Bool}{vs:List V},ygI xs=some ss->RepL K F m xs vs->vs=ss.map V.bl
 | [],_,_,e,r=>by cases e;exact r
 | x::xs,ss,_,e,⟨v,r',ev,h,l⟩=>by
  cases x<;>try cases e
  rename_i s
  obtain ⟨ts,e1,e2⟩:=Option.map_eq_some_iff.mp e
  subst e2
  rw [ev,show v=_ from h,ygJ e1 l];rfl
def yyq:List PV->AH->Option (PV×AH):=fun xs h=>match xs with|[x]=>(match yba x h with|some ys=>(match intsOf ys with|some ns=>some (.int ns.sum,h)|none=>none)|none=>none)|_=>none
theorem yBl:yge K yCZ yyq:=by
 intro W xs vs Q z h' w r e q
 unfold yyq at e
 split at e
 .split at e
  .rename_i ys hy
   split at e
   .rename_i ns hn
    cases e
    obtain ⟨v,rfl,rx⟩:=yjD r
    obtain ⟨a,us,rfl,hs,rs⟩:=yN w hy rx
    have:=yhI hn rs
    subst this
    exact ⟨a,ns,rfl,hs,q _ W rfl (.refl w) rfl⟩
   .cases e
  .cases e
 .cases e
def ytN:List PV->AH->Option (PV×AH):=fun xs h=>match xs with|[x]=>(match yba x h with|some ys=>(match ygI ys with|some ns=>some (.bl (ns.all id),h)|none=>none)|none=>none)|_=>none
theorem yyr:yge K yCY ytN:=by
 intro W xs vs Q z h' w r e q
 unfold ytN at e
 split at e
 .split at e
  .rename_i ys hy
   split at e
   .rename_i ns hn
    cases e
    obtain ⟨v,rfl,rx⟩:=yjD r
    obtain ⟨a,us,rfl,hs,rs⟩:=yN w hy rx
    have:=ygJ hn rs
    subst this
    exact ⟨a,ns,rfl,hs,q _ W rfl (.refl w) rfl⟩
   .cases e
  .cases e
 .cases e
def isStr:PV->AH->Bool:=fun x _=>match x with|.str _=>true|_=>false
def yjF:PM:=fun x xs h=>match x,xs with|.str sep,[y]=>(match yba y h with|some ys=>(match strsOf ys with|some ts=>if sep.length<=16/\(ts.map (·.length)).sum+ts.length<=1048576 then some (.str (Str.join sep ts),h) else none|none=>none)|none=>none)|_,_=>none
theorem ytO:ynn K "str" isStr rJoin yjF:=by
 refine ⟨fun W x v w r c=>?_,fun W x v xs vs Q z h' w rx r e q=>?_⟩
 .unfold isStr at c
  split at c
  .rw [show v=_ from r];rfl
  .cases c
 .unfold yjF at e
  split at e
  .rename_i sep y
   split at e
   .rename_i ys hy
    split at e
    .rename_i ts ht
     split at e
     .rename_i c
      cases e
      obtain ⟨u,rfl,ru⟩:=yjD r
      obtain ⟨a,us,rfl,hs,rs⟩:=yN w hy ru
      have:=yhH ht rs
      subst this
      exact ⟨sep,a,ts,rx,rfl,hs,c.1,c.2,q _ W rfl (.refl w) rfl⟩
     .cases e
    .cases e
   .cases e
  .cases e
noncomputable def yll:PM:=fun x xs h=>match x,xs with|.str z,[.str s]=>(match s.cps.toList with|[c]=>if z.length<=1000/\c∈z.cps.toList then some (.int (z.cps.toList.idxOf c),h) else none|_=>none)|_,_=>none
theorem yrX:ynn K "str" isStr yoy yll:=by
 refine ⟨fun W x v w r c=>?_,fun W x v xs vs Q z h' w rx r e q=>?_⟩
 .unfold isStr at c
  split at c
  .rw [show v=_ from r];rfl
  .cases c
 .unfold yll at e
  split at e
  .rename_i z s
   split at e
   .rename_i c hc
    split at e
    .rename_i hl
     cases e
     obtain ⟨u,rfl,ru⟩:=yjD r
     exact ⟨z,c,rx,by rw [show u=_ from ru,one_sign hc],hl.1,hl.2,q _ W rfl (.refl w) rfl⟩
    .cases e
   .cases e
  .cases e
end PX
namespace PX
open PySem L2
variable {K:Ck}
noncomputable def putN (f:Str) (x:PV) (ns:List Str) (xs:List PV):List Str×List PV:=if f∈ns then (ns,xs.set (ns.idxOf f) x) else (ns++[f],xs++[x])
theorem ymi (f:Str) (y:V):∀ (ns:List Str) (vs:List V),vs.length=ns.length->yeT f y (ns.zip vs)=if f∈ns then ns.zip (vs.set (ns.idxOf f) y) else (ns++[f]).zip (vs++[y])
 | [],[],_=>by simp [yeT]
 | n::ns,v::vs,hl=>by
  have ih:=ymi f y ns vs (by simpa using hl)
  show (if n=f then (n,y)::ns.zip vs else (n,v)::yeT f y (ns.zip vs))=_
  by_cases h:n=f
  .subst h
   simp [List.idxOf_cons_self]
  .have h':¬ f=n:=fun z=>h z.symm
   have hb:(n == f)=false:=by simpa using h
   rw [if_neg h,ih]
   by_cases hm:f∈ns
   .simp [hm,h',List.idxOf_cons,hb]
   .simp [hm,h']
theorem yhJ {f:Str}:∀ {ns:List Str}{vs:List V},vs.length=ns.length->f∈ns->(ns.zip vs).lookup f=vs[ns.idxOf f]?
 | [],_,_,h=>by simp at h
 | n::ns,v::vs,hl,h=>by
  show List.lookup f ((n,v)::ns.zip vs)=_
  by_cases hn:f=n
  .subst hn
   rw [yBe,List.idxOf_cons_self];rfl
  .rw [yxU hn,yhJ (by simpa using hl) (by simpa [hn] using h)]
   have hb:(n == f)=false:=by simpa using fun z:n=f=>hn z.symm
   simp [List.idxOf_cons,hb]
theorem ycY {f:Str}:∀ {ns:List Str}{vs:List V},f∉ns->(ns.zip vs).lookup f=none
 | [],_,_=>by simp
 | n::ns,[],_=>by simp
 | n::ns,v::vs,h=>by
  show List.lookup f ((n,v)::ns.zip vs)=_
  rw [yxU (fun z:f=n=>h (by rw [z];exact mem_cons_self)),ycY fun z=>h (mem_cons_of_mem _ z)]
noncomputable def ydX (x:PV) (h:AH):Option (Nat×List Str×List PV):=match x with|.ins k ns xs=>some (k,ns,xs)|.loc n=>(match h[n]? with|some (.ins k ns xs)=>some (k,ns,xs)|_=>none)|_=>none
theorem yfa {W:Wd}(w:WOk K W) {x:PV}{v:V}{k:Nat}{ns:List Str}{xs:List PV}(e:ydX x W.h=some (k,ns,xs)) (r:ycm K W x v):∃ a dx vs,v=.ref a/\W.H a=some (.ins (K.A k) dx (ns.zip vs))/\vs.length=ns.length/\ycn K W xs vs:=by
 unfold ydX at e
 split at e
 .cases e
  obtain ⟨a,dx,vs,ev,hs,hl,rs⟩:=r
  exact ⟨a,dx,vs,ev,w.le _ _ hs,hl,rs⟩
 .rename_i n
  split at e
  .rename_i hn
   cases e
   obtain ⟨a,ev,hm,hf,dx,vs,hp,hl,rs⟩:=w.loc hn r
   exact ⟨a,dx,vs,ev,hp,hl,rs⟩
  .cases e
 .cases e
def ybm (cs:List Nat) (f:Str) (e:XE):XE:=fun ρ h=>ob (e ρ h) fun x h1=>match ydX x h1 with|some (k,ns,xs)=>if k∈cs/\f∈ns then (match xs[ns.idxOf f]? with|some y=>some (y,h1)|none=>none) else none|none=>none
theorem yvz {cs:List Nat}{f:Str}{ta:TE}{ea:XE}(hc:∀ k∈cs,Cls K.K (K.A k)/\NoAttr K.K (K.A k) f) (a:ybt K ta ea):ybt K (yCQ K.K ta f) (ybm cs f ea):=by
 intro W0 W ρ σ Q z h' g e q
 obtain ⟨x,h1,e1,f1⟩:=yg e
 refine a W0 W ρ σ _ x h1 g e1 fun v W1 w1 l1 r1=>?_
 subst w1
 split at f1
 .rename_i k ns xs hi
  split at f1
  .rename_i c
   split at f1
   .rename_i y hy
    cases f1
    obtain ⟨a,dx,vs,ev,hp,hl,rs⟩:=yfa l1.ok hi r1
    obtain ⟨u,h2,h3⟩:=rs.get hy
    exact ⟨a,_,dx,_,u,ev,hp,(hc k c.1).1,(hc k c.1).2,by rw [yhJ hl c.2];exact h2,q _ W1 rfl l1 h3⟩
   .cases f1
  .cases f1
 .cases f1
def ycZ (cs:List Nat) (i:Nat) (f:Str) (e:XE):XS:=fun ρ h=>ob (e ρ h) fun x h1=>match ρ[i]? with
 | some (.own (.ins k ns xs))=>if k∈cs/\ns.length<1000 then some (.nx (ρ.set i (.own (.ins k (putN f x ns xs).1 (putN f x ns xs).2))),h1) else none
 | _=>none
theorem RepL.putN {F:Hp}{m:List Addr}{f:Str}{x:PV}{v:V}{ns:List Str}{xs:List PV}{vs:List V}(r:RepL K F m xs vs) (hl:vs.length=ns.length) (rx:Rep K F m x v) :
  ∃ us,yeT f v (ns.zip vs)=(PX.putN f x ns xs).1.zip us/\us.length=(PX.putN f x ns xs).1.length/\RepL K F m (PX.putN f x ns xs).2 us:=by
 rw [ymi f v ns vs hl]
 unfold PX.putN
 by_cases h:f∈ns
 .rw [if_pos h,if_pos h]
  exact ⟨_,rfl,by rw [length_set];exact hl,r.set _ rx⟩
 .rw [if_neg h,if_neg h]
  exact ⟨_,rfl,by rw [length_append,length_append,hl];rfl,r.snoc rx⟩
noncomputable def yqW (K:Ck) (t:TS) (s:XS):Prop:=∀ (W0 W:Wd) (ρ ρ':PSt) (σ:St) (D:Ends) (h':AH),Good K W0 W ρ σ->s ρ W.h=some (.nx ρ',h')->(∀ W',W'.h=h'->Lf K W W'->Good K W0 W' ρ' σ->D.nx σ W'.H)->t D σ W.H
theorem yrY {cs:List Nat}{i:Nat}{f:Str}{ta:TE}{ea:XE}(hc:∀ k∈cs,Cls K.K (K.A k)/\NoAttr K.K (K.A k) f) (a:ybt K ta ea):yqW K (yAK K.K (ynP i) ta f) (ycZ cs i f ea):=by
 intro W0 W ρ ρ' σ D h' g e q
 obtain ⟨x,h1,e1,f1⟩:=yg e
 split at f1
 .rename_i k ns xs hi
  split at f1
  .rename_i c
   cases f1
   refine a W0 W ρ σ _ x _ g e1 fun v W1 w1 l1 r1=>?_
   have g1:=g.step l1
   obtain ⟨p,b1,b2,b3,b4,b5,dx,vs,b6,b7,b8⟩:=g1.own i _ hi
   obtain ⟨us,p1,p2,p3⟩:=b8.putN (f:=f) b7 r1
   refine ⟨_,b1,p,_,dx,_,rfl,b6,(hc k c.1).1,(hc k c.1).2,by rw [length_zip,b7];simpa using c.2,?_⟩
   rw [p1]
   exact q (yrL W1 p _) w1 (yoP l1 b2) (g1.mut hi b1 b2 b3 b5 (fun z=>by cases z) ⟨b5,dx,us,yu,p2,p3⟩)
  .cases f1
 .cases f1
theorem yrZ {t u:TS}{s s':XS}(a:yqW K t s) (b:yqW K u s'):yqW K (yAD t u) (yn s s'):=by
 intro W0 W ρ ρ' σ D h' g e q
 obtain ⟨o1,h1,e1,f1⟩:=yg e
 cases o1 with
 | nx ρ1=>exact a W0 W ρ ρ1 σ _ h1 g e1 fun W1 w1 l1 g1=>b W0 W1 ρ1 ρ' σ D h' g1 (by rw [w1];exact f1) fun W2 w2 l2 g2=>q W2 w2 (l1.trans l2) g2
 | rt y=>cases f1
 | bk y=>cases f1
 | ct y=>cases f1
def ynR (N:Nat) (k:Nat) (s:XS):List PV->AH->Option (Nd×AH):=fun xs h=>ob (s (.own (.ins k [] [])::(xs.map .val++replicate (N-(xs.length+1)) .no)) h) fun o h1=>match o with|.nx ρ=>(match ρ[0]? with|some (PVar.own d)=>some (d,h1)|_=>none)|_=>none
def spI (K:Ck) (n k:Nat) (f:List PV->AH->Option (Nd×AH)):Sp:=fun vs H Q _=>∃ (W:Wd) (x dx:Addr) (args:List V) (xs:List PV) (d:Nd) (h':AH),vs=.ref x::args/\W.H x=none/\W.H dx=none/\dx≠x/\H=upd (upd W.H dx (.own x)) x (.ins (K.A k) dx []) /\
 WOk K W/\ycn K W xs args/\xs.length=n/\f xs W.h=some (d,h')/\∀ W',W'.h=h'->Le K W W'->x∉W'.m->d≠.dead->NdAt K W'.F W'.H W'.m d x->Q .non W'.H
theorem yvA {n k:Nat}{f} {vs:List V}{H:Hp}{Q:VK}{E:XK}(h:spI K n k f vs H Q E):vs.length=n+1:=by
 obtain ⟨W,x,dx,args,xs,d,h',rfl,_,_,_,_,w,r,hn,_⟩:=h
 rw [length_cons,r.len,hn]
theorem ysa {N:List Str}{n k:Nat}{t:TS}{s:XS}{vs:List V}{H:Hp}{Q:VK}{E:XK}{bk ct:St->Hp->Prop}(hN:n+1<=N.length) (a:yqW K t s) (h:spI K n k (ynR N.length k s) vs H Q E):t ⟨fun _ H'=>Q .non H',Q,bk,ct⟩ (L2.start N vs) H:=by
 obtain ⟨W,x,dx,args,xs,d,h',rfl,hx,hd,hne,rfl,w,r,hn,e,q⟩:=h
 obtain ⟨o,h1,e1,f1⟩:=yg e
 have l1:Le K W (yfT W dx (.own x)):=ycO w hd
 have hx1:(yfT W dx (.own x)).H x=none:=(yy hne.symm).trans hx
 have l2:Le K (yfT W dx (.own x)) (yfT (yfT W dx (.own x)) x (.ins (K.A k) dx [])):=ycO l1.ok hx1
 have l:=l1.trans l2
 have gs:=yfG (K:=K) (N:=N.drop 1) w r
 have g:Good K W (yfT (yfT W dx (.own x)) x (.ins (K.A k) dx [])) (.own (.ins k [] [])::(xs.map .val++replicate (N.length-(xs.length+1)) .no)) (L2.start N (.ref x::args)):=by
  have es:L2.start N (.ref x::args)=some (.ref x)::L2.start (N.drop 1) args:=by
   have e3:N.length-(args.length+1)=(N.drop 1).length-args.length:=by rw [length_drop];omega
   unfold L2.start
   rw [map_cons,List.cons_append,length_cons,e3]
  have eN:N.length-(xs.length+1)=(N.drop 1).length-xs.length:=by rw [length_drop];omega
  rw [es,eN]
  have gs':=gs.step l
  have noown:∀ (j:Nat) (d:Nd),(xs.map PVar.val++replicate ((N.drop 1).length-xs.length) .no)[j]?≠some (.own d):=fun j d z=>by
   by_cases hj:j<xs.length
   .rw [getElem?_append_left (by simpa using hj),getElem?_map,List.getElem?_eq_getElem hj] at z
    cases z
   .rw [getElem?_append_right (by simp;omega),getElem?_replicate] at z
    split at z<;>cases z
  refine ⟨l,by rw [length_cons,length_cons,gs.len],fun j y z=>?_,fun j d z=>?_,fun i j d d' hij z z'=>?_⟩
  .cases j with
   | zero=>cases z
   | succ j=>exact gs'.val j y z
  .cases j with
   | zero=>cases z;exact ⟨x,rfl,w.out hx,hx,(fun z=>by cases z),w.ff hx,dx,[],yu,rfl,rfl⟩
   | succ j=>exact absurd z (noown j d)
  .cases i with
   | zero =>
    cases j with
    | zero=>exact absurd rfl hij
    | succ j=>exact absurd z' (noown j d')
   | succ i=>exact absurd z (noown i d)
 cases o with
 | rt y=>cases f1
 | bk ρ=>cases f1
 | ct ρ=>cases f1
 | nx ρ =>
  refine a W _ _ ρ _ _ h1 g e1 fun W' ew lf g'=>?_
  dsimp only at f1
  split at f1
  .rename_i d' hd'
   cases f1
   obtain ⟨p,b1,b2,b3,b4,b5⟩:=g'.own 0 _ hd'
   have b1:some (some (V.ref x))=some (some (V.ref p)):=b1
   cases b1
   exact q W' ew g'.le b2 b4 b5
  .cases f1
def ygK (f:List PV->AH->Option (Nd×AH)) (a:XA):XO:=fun ρ h=>ob (a ρ h) f
theorem ymj {n k:Nat}{f} {ex:XK}{t:TA}{e:XA}(a:yky K t e) (hn:∀ ρ h xs h',e ρ h=some (xs,h')->xs.length=n):ymc K (yrn (K.A k) (spI K n k f) [] ex t) (ygK f e):=by
 intro W0 W ρ σ Q d h' g e' q
 obtain ⟨xs,h1,e1,e2⟩:=yg e'
 refine a W0 W ρ σ _ xs h1 g e1 fun vs W1 w1 l1 r1=>?_
 subst w1
 intro x dx hx hd hne
 rw [append_nil]
 exact ⟨W1,x,dx,vs,xs,d,h',rfl,hx,hd,hne,rfl,l1.ok,r1,hn _ _ _ _ e1,e2,fun W2 w2 l2 hm hdd at_=>⟨rfl,q x W2 w2 (l1.trans l2) hm (l1.fresh hx) hdd at_⟩⟩
def ypa (m:Str) (f:Nat->Fn) (e:XE):XE:=fun ρ h=>ob (e ρ h) fun x h1=>match ydX x h1 with|some (k,ns,_)=>if m∈ns then none else f k [x] h1|none=>none
theorem ysb {m:Str}{f:Nat->Fn}{ta:TE}{ea:XE}(a:ybt K ta ea):ybt K (ytD K.A m (fun k=>spE K 1 (f k)) ta) (ypa m f ea):=by
 intro W0 W ρ σ Q z h' g e q
 obtain ⟨x,h1,e1,f1⟩:=yg e
 refine a W0 W ρ σ _ x h1 g e1 fun v W1 w1 l1 r1=>?_
 subst w1
 split at f1
 .rename_i k ns xs hi
  split at f1
  .cases f1
  .rename_i hm
   obtain ⟨b,dx,vs,ev,hp,hl,rs⟩:=yfa l1.ok hi r1
   exact ⟨b,k,dx,_,ev,hp,ycY hm,W1,[x],z,h',rfl,l1.ok,⟨v,[],rfl,r1,rfl⟩,rfl,f1,fun u W2 w2 l2 r2=>q u W2 w2 (l1.trans l2) r2⟩
 .cases f1
def ynt (tb:List (Nat×Nat×Bool)) (x c:PV) (h:AH):Option Bool:=match c with
 | .ty n=>(match x with
  | .int _=>if n = "int" then some true else if n = "bool"\/n = "str"\/n = "list"\/n = "tuple"\/n = "dict" then some false else none
  | .bl _=>if n = "int"\/n = "bool" then some true else if n = "str"\/n = "list"\/n = "tuple"\/n = "dict" then some false else none
  | .str _=>if n = "str" then some true else if n = "int"\/n = "bool"\/n = "list"\/n = "tuple"\/n = "dict" then some false else none
  | .non=>if n = "int"\/n = "bool"\/n = "str"\/n = "list"\/n = "tuple"\/n = "dict" then some false else none
  | .tup _=>if n = "tuple" then some true else if n = "int"\/n = "bool"\/n = "str"\/n = "list"\/n = "dict" then some false else none
  | _=>(match yba x h with|some _=>if n = "list" then some true else if n = "int"\/n = "bool"\/n = "str"\/n = "tuple"\/n = "dict" then some false else none|none=>none))
 | .cls c'=>(match ydX x h with|some (k,_)=>(tb.find? fun r=>r.1 == k && r.2.1 == c').map (·.2.2)|none=>none)
 | _=>none
def yeB (tb:List (Nat×Nat×Bool)):List PV->AH->Option (PV×AH):=fun xs h=>match xs with|[x,c]=>(match ynt tb x c h with|some b=>some (.bl b,h)|none=>none)|_=>none
theorem ydJ {tb:List (Nat×Nat×Bool)}(ht:∀ r∈tb,∀ (H:Hp) (a dx:Addr) (fs:List (Str×V)),H a=some (.ins (K.A r.1) dx fs)->IsI K.K H (.ref a) (.ref (K.A r.2.1)) r.2.2):yge K (yCW K.K) (yeB tb):=by
 intro W xs vs Q z h' w r e q
 unfold yeB at e
 split at e
 .rename_i x c
  split at e
  .rename_i b hb
   cases e
   obtain ⟨v,u,rfl,rx,ru⟩:=yDA r
   refine ⟨v,u,b,rfl,?_,q _ W rfl (.refl w) rfl⟩
   unfold ynt at hb
   split at hb
   .rename_i n
    obtain rfl:u=.ty n:=ru
    split at hb
    .rw [show v=_ from rx]
     repeat' split at hb
     all_goals cases hb
     .rename_i hn;subst hn;exact ykM
     .rename_i hn;rcases hn with rfl|rfl|rfl|rfl|rfl
      .exact yji
      .exact ykS
      .exact yjm
      .exact yif
      .exact yjn
    .rw [show v=_ from rx]
     repeat' split at hb
     all_goals cases hb
     .rename_i hn;rcases hn with rfl|rfl
      .exact ynk
      .exact ykO
     .rename_i hn;rcases hn with rfl|rfl|rfl|rfl
      .exact ynl
      .exact ykT
      .exact yjo
      .exact ykU
    .rw [show v=_ from rx]
     repeat' split at hb
     all_goals cases hb
     .rename_i hn;subst hn;exact ykP
     .rename_i hn;rcases hn with rfl|rfl|rfl|rfl|rfl
      .exact ykV
      .exact yjp
      .exact yjq
      .exact yig
      .exact yjr
    .rw [show v=_ from rx]
     repeat' split at hb
     all_goals cases hb
     .rename_i hn;rcases hn with rfl|rfl|rfl|rfl|rfl|rfl
      .exact ykN
      .exact yjs
      .exact ykW
      .exact yjt
      .exact yih
      .exact yju
    .obtain ⟨a,us,rfl,hs,_⟩:=rx
     have hp:(∃ xs,W.H a=some (.tup xs))\/∃ o,K.K.lookup a=some o/\o.cls=.type "tuple":=hs.elim (fun h=>.inl ⟨_,w.le _ _ h⟩) fun ⟨o,its,n,e1,e2,_⟩=>.inr ⟨o,e1,e2⟩
     repeat' split at hb
     all_goals cases hb
     .rename_i hn;subst hn;exact yij hp
     .rename_i hn;rcases hn with rfl|rfl|rfl|rfl|rfl
      .exact ykZ hp
      .exact yjx hp
      .exact yla hp
      .exact yjy hp
      .exact yjz hp
    .split at hb
     .rename_i ys hy
      obtain ⟨a,us,rfl,hp,_⟩:=yN w hy rx
      repeat' split at hb
      all_goals cases hb
      .rename_i hn;subst hn;exact yjj hp
      .rename_i hn;rcases hn with rfl|rfl|rfl|rfl|rfl
       .exact ykX hp
       .exact yjv hp
       .exact ykY hp
       .exact yii hp
       .exact yjw hp
     .cases hb
   .rename_i c'
    obtain rfl:u=.ref (K.A c'):=ru
    split at hb
    .rename_i k p hi
     obtain ⟨r',h1,h2⟩:=Option.map_eq_some_iff.mp hb
     have hm:=List.mem_of_find?_eq_some h1
     have hp:=List.find?_some h1
     simp only [and_eq_true,beq_iff_eq] at hp
     obtain ⟨a,dx,us,rfl,hs,_⟩:=yfa w hi rx
     obtain ⟨p1,p2⟩:=hp
     have:=ht r' hm W.H a dx (p.1.zip us) (by rw [p1];exact hs)
     rw [p2,h2] at this
     exact this
    .cases hb
   .cases hb
  .cases e
 .cases e
end PX
namespace PX
open PySem L2
section
variable {ρ:PSt}{h h1:AH}{x y z:PV}{a b c:XE}{ca cb:XT}{aa:XA}{eo:XO}{s u:XS}{i:Nat}{p:P2}
theorem ybZ {α β:Type}{x:α}{h:AH}{f:α->AH->Option β}:ob (some (x,h)) f=f x h:=id rfl
theorem yBm {α β:Type}{f:α->AH->Option β}:ob (none:Option (α×AH)) f=none:=id rfl
theorem yys {α β γ:Type}{o:Option (α×AH)}{f:α->AH->Option (β×AH)}{g:β->AH->Option γ}:ob (ob o f) g=ob o fun x h=>ob (f x h) g:=by cases o<;>rfl
theorem yBn {α β:Type}{q:Prop} [Decidable q] {o o':Option (α×AH)}{f:α->AH->Option β}:ob (if q then o else o') f=if q then ob o f else ob o' f:=by split<;>rfl
theorem ytP:yf 0 (.val x::ρ) h=some (x,h):=id rfl
theorem yyt {v:PVar}{n:Nat}:yf (n+1) (v::ρ) h=yf n ρ h:=by simp [yf]
theorem x_c:xC x ρ h=some (x,h):=id rfl
theorem yDb:xOp p a b ρ h=ob (a ρ h) fun x h1=>ob (b ρ h1) fun y h2=>p x y h2:=id rfl
theorem yBo {p:P2O}:ytE p a b ρ h=ob (a ρ h) fun x h1=>ob (b ρ h1) fun y h2=>p x y h2:=id rfl
theorem yDc {k:Bool}:oB (.bl k) h=some (k,h):=id rfl
theorem yvB {p p':P2}:yeW p p' a b c ρ h=ob (a ρ h) fun x h1=>ob (b ρ h1) fun y h2=>ob (p x y h2) fun z h3=>ob (oB z h3) fun k h3=>if k=true then ob (c ρ h3) fun w h4=>p' y w h4 else some (.bl false,h3):=id rfl
theorem ytQ:yo a ρ h=ob (a ρ h) oB:=id rfl
theorem yyu:ygc a b ρ h=ob (a ρ h) fun x h1=>ob (oB x h1) fun k h1=>if k=true then b ρ h1 else some (.bl false,h1):=id rfl
theorem yyv:yoE a ρ h=ob (a ρ h) fun x h1=>ob (oB x h1) fun k h1=>some (.bl (!k),h1):=id rfl
theorem yBp:yvc ca cb ρ h=ob (ca ρ h) fun k h1=>if k=true then cb ρ h1 else some (false,h1):=id rfl
theorem yDB:xOr ca cb ρ h=ob (ca ρ h) fun k h1=>if k=true then some (true,h1) else cb ρ h1:=id rfl
theorem yBq:yfS ca ρ h=ob (ca ρ h) fun k h1=>some (!k,h1):=id rfl
theorem yDC:xIf ca a b ρ h=ob (ca ρ h) fun k h1=>if k=true then a ρ h1 else b ρ h1:=id rfl
theorem yBr:yk ρ h=some ([],h):=id rfl
theorem yyw:yc a aa ρ h=ob (a ρ h) fun x h1=>ob (aa ρ h1) fun xs h2=>some (x::xs,h2):=id rfl
theorem yBs:ygG aa ρ h=ob (aa ρ h) fun xs h1=>if xs.length<=1000 then some (.tup xs,h1) else none:=id rfl
theorem yBt:yeA aa ρ h=ob (aa ρ h) fun xs h1=>if xs.length<=1000 then some (.lst xs,h1) else none:=id rfl
def fzN:Nd->AH->Option (PV×AH)
 | .lst xs,h=>some (.lst xs,h)
 | .ins k ns xs,h=>some (.ins k ns xs,h)
 | _,_=>none
theorem yBu:xFz eo ρ h=ob (eo ρ h) fzN:=by
 unfold xFz;congr;funext d h1;cases d<;>rfl
theorem yBv {xs:List PV}:fzN (.lst xs) h=some (.lst xs,h):=id rfl
theorem yBw {k:Nat}{ns:List Str}{xs:List PV}:fzN (.ins k ns xs) h=some (.ins k ns xs,h):=id rfl
theorem yyx:ygd eo ρ h=ob (eo ρ h) fun d h1=>some (.loc h1.length,h1++[d]):=id rfl
theorem x_call {f:Fn}:yT f aa ρ h=ob (aa ρ h) f:=id rfl
theorem yDD {f}:xCB f aa ρ h=ob (aa ρ h) f:=id rfl
theorem yBx {f}:yjA f aa ρ h=ob (aa ρ h) f:=id rfl
theorem yDE {q} {p:PM}:xBM q p a aa ρ h=ob (a ρ h) fun x h1=>if q x h1=true then ob (aa ρ h1) fun xs h2=>p x xs h2 else none:=id rfl
theorem yvC {s:Str}:isStr (.str s) h=true:=id rfl
theorem yyy {f}:ygK f aa ρ h=ob (aa ρ h) f:=id rfl
theorem ytR:yD ρ h=some (.nx ρ,h):=id rfl
noncomputable def sqK (u:XS):Out->AH->Option (Out×AH)
 | .nx ρ,h=>u ρ h
 | .rt x,h=>some (.rt x,h)
 | .bk ρ,h=>some (.bk ρ,h)
 | .ct ρ,h=>some (.ct ρ,h)
theorem yvD:yn s u ρ h=ob (s ρ h) (sqK u):=by
 unfold yn;congr;funext o h1;cases o<;>rfl
theorem yyz:sqK u (.nx ρ) h=u ρ h:=id rfl
theorem yBy:sqK u (.rt x) h=some (.rt x,h):=id rfl
theorem yyA:yco a ρ h=ob (a ρ h) fun _ h1=>some (.nx ρ,h1):=id rfl
theorem ypb:yK a ρ h=ob (a ρ h) fun x h1=>some (.rt x,h1):=id rfl
theorem yyB:ybn ca s u ρ h=ob (ca ρ h) fun k h1=>if k=true then s ρ h1 else u ρ h1:=id rfl
theorem yyC {g:XG}:ycl a g ρ h=ob (a ρ h) fun x h1=>(g x ρ).bind fun ρ'=>some (.nx ρ',h1):=id rfl
theorem yyD:yoL eo i ρ h=ob (eo ρ h) fun d h1=>some (.nx (ρ.set i (.own d)),h1):=id rfl
theorem yyE:yz i x ρ=some (ρ.set i (.val x)):=id rfl
theorem yyF:yvo [] ρ=some ρ:=id rfl
theorem yvE {g:XG}{r:XGs}{xs:List PV}:ygf g r (x::xs) ρ=(g x ρ).bind fun ρ'=>r xs ρ':=id rfl
theorem yyG {n:Nat}{g:XGs}{xs:List PV}:ytI n g (.tup xs) ρ=if xs.length=n then g xs ρ else none:=id rfl
theorem yBz:yyg i s ρ h=s (ylh i ρ) h:=id rfl
theorem yBA {v:PVar}:ylh 0 (v::ρ)=yrF v::ρ:=id rfl
theorem yBB {v:PVar}{n:Nat}:ylh (n+1) (v::ρ)=v::ylh n ρ:=id rfl
theorem yBC {xs:List PV}:yrF (.own (.lst xs))=.val (.lst xs):=id rfl
theorem yBD {it:XA}{g:XG}:yoM it g s ρ h=ob (it ρ h) fun xs h1=>yeU g s xs ρ h1:=id rfl
def frK (g:XG) (s:XS) (xs:List PV):Out->AH->Option (Out×AH)
 | .nx ρ,h=>yeU g s xs ρ h
 | .ct ρ,h=>yeU g s xs ρ h
 | .bk ρ,h=>some (.nx ρ,h)
 | .rt y,h=>some (.rt y,h)
theorem yyH {g:XG}{xs:List PV}:yeU g s (x::xs) ρ h=(g x ρ).bind fun ρ1=>ob (s ρ1 h) (frK g s xs):=by
 unfold yeU;congr;funext ρ1;congr;funext o h1;cases o<;>rfl
def fnK:Out->AH->Option (PV×AH)
 | .rt x,h=>some (x,h)
 | .nx _,h=>some (.non,h)
 | _,_=>none
theorem yp {N:Nat}{xs:List PV}:ybC N s xs h=ob (s (xs.map .val++replicate (N-xs.length) .no) h) fnK:=by
 unfold ybC;congr;funext o h1;cases o<;>rfl
theorem yBE:fnK (.rt x) h=some (x,h):=id rfl
theorem yBF:fnK (.nx ρ) h=some (.non,h):=id rfl
def yeb (cs:List Nat) (f:Str) (x:PV) (h:AH):Option (PV×AH):=match ydX x h with|some (k,ns,xs)=>if k∈cs/\f∈ns then (match xs[ns.idxOf f]? with|some y=>some (y,h)|none=>none) else none|none=>none
theorem ypc {cs:List Nat}{f:Str}:ybm cs f a ρ h=ob (a ρ h) (yeb cs f):=id rfl
theorem ypd {cs:List Nat}{f:Str}{k:Nat}{ns:List Str}{xs:List PV}{y:PV}(hk:k∈cs) (hf:f∈ns) (hy:xs[ns.idxOf f]?=some y):yeb cs f (.ins k ns xs) h=some (y,h):=by
 unfold yeb ydX
 simp [hk,hf,hy]
def yjG (m:Str) (f:Nat->Fn) (x:PV) (h:AH):Option (PV×AH):=match ydX x h with|some (k,ns,_)=>if m∈ns then none else f k [x] h|none=>none
theorem ytS {m:Str}{f:Nat->Fn}:ypa m f a ρ h=ob (a ρ h) (yjG m f):=id rfl
theorem yfb {m:Str}{f:Nat->Fn}{k:Nat}{ns:List Str}{xs:List PV}(hm:m∉ns):yjG m f (.ins k ns xs) h=f k [.ins k ns xs] h:=by
 unfold yjG ydX
 simp [hm]
theorem x_i {g:Int->Int->PV}{i j:Int}:oI g (.int i) (.int j) h=some (g i j,h):=id rfl
theorem yDF {C:Int->Int->Prop} [∀ i j,Decidable (C i j)] {g:Int->Int->PV}{i j:Int}:oIc C g (.int i) (.int j) h=if C i j then some (g i j,h) else none:=id rfl
theorem ymk {i j:Int}(h1:-18446744073709551616<j) (h2:j<18446744073709551616):MulOk i j=True:=eq_true (.inr ⟨h1,h2⟩)
theorem yyI {i j:Int}(h1:-18446744073709551616<i) (h2:i<18446744073709551616):MulOk i j=True:=eq_true (.inl ⟨h1,h2⟩)
theorem yBG {i j:Int}(h1:0<=i) (h2:i<18446744073709551616) (h3:0<=j) (h4:j<=1000000):yoT i j=True:=eq_true ⟨⟨h1,h2⟩,h3,h4⟩
theorem yBH {i j:Int}:oEq (.int i) (.int j) h=some (.bl (decide (i=j)),h):=by simp [oEq,sv,ytv]
theorem yBI {i j:Str}:oEq (.str i) (.str j) h=some (.bl (decide (i=j)),h):=by simp [oEq,sv,ytv]
theorem yBJ {i j:Int}:oNe (.int i) (.int j) h=some (.bl (!decide (i=j)),h):=by simp [oNe,sv,ytv]
theorem yBK {i j:Str}:oNe (.str i) (.str j) h=some (.bl (!decide (i=j)),h):=by simp [oNe,sv,ytv]
theorem yBL:yvx x .non h=some (.bl (isN x),h):=id rfl
theorem yyJ:yrS x .non h=some (.bl (!isN x),h):=id rfl
theorem yBM {c:Nat}{j:Str}:yyl (.str ⟨#[c]⟩) (.str j) h=some (.bl (decide (c∈j.cps.toList)),h):=id rfl
theorem yBN {xs:List PV}{i:Int}:ycp (.lst xs) (.int i) h=(atI xs i).bind fun v=>some (v,h):=by
 simp only [ycp];cases atI xs i<;>rfl
theorem yBO {xs:List Int}{i:Int}:ycp (.scr xs) (.int i) h=(atI xs i).bind fun v=>some (.int v,h):=by
 simp only [ycp];cases atI xs i<;>rfl
theorem yBP {s:Str}{i:Int}:ytL (.str s) (.int i) h=(atI s.cps.toList i).bind fun c=>if s.length<=100000 then some (sgn c,h) else none:=by
 simp only [ytL];cases atI s.cps.toList i<;>rfl
theorem yBQ {xs:List Int}{lo hi:Option Int}:yyo (.scr xs) lo hi h=some (.lst (yrV (xs.map .int) lo hi),h):=id rfl
theorem yBR {xs ys:List PV}:yAq (.lst xs) (.lst ys) h=if xs.length+ys.length<=100000 then some (.lst (xs++ys),h) else none:=id rfl
theorem yBS {xs:List PV}{k:Int}:yvy (.lst xs) (.int k) h=if -1000000<=k/\k<=100000/\xs.length*k.toNat<=100000 then some (.lst (repL k.toNat xs),h) else none:=id rfl
theorem yBT {p} {lo hi}:yxX p a lo hi ρ h=ob (a ρ h) fun x h1=>ob (lo ρ h1) fun l h2=>ob (hi ρ h2) fun u h3=>p x l u h3:=id rfl
theorem yyK:ylb a ρ h=ob (a ρ h) fun x h1=>match x with|.int i=>some (some i,h1)|_=>none:=id rfl
theorem yyL {xs:List PV}:yce [.lst xs] h=some (.int xs.length,h):=id rfl
theorem yyM {xs:List Int}:yce [.scr xs] h=some (.int xs.length,h):=id rfl
theorem yyN {z:Str}:yns [.str z] h=if z.length<=100000 then some (.int z.length,h) else none:=id rfl
theorem yvF {k:Bool}:yoY [.bl k] h=some (.int (if k then 1 else 0),h):=id rfl
theorem yvG {xs:List PV}:ybe [.lst xs] h=some (.lst xs,h):=id rfl
theorem yDG {xs:List PV}(e:a ρ h=some (.lst xs,h1)):xIL a ρ h=some (xs,h1):=by unfold xIL;rw [e];rfl
theorem ytT {it:XA}{ix:List Nat}:ydd it ix a ρ h=ob (it ρ h) fun xs h1=>if xs.length<=100000 then ob (ygt a (yeY ix ρ) xs h1) fun ys h2=>some (.lst ys,h2) else none:=id rfl
end
end PX
namespace L2
open PySem PySem.Spec PyProof.Rows
end L2
namespace L2
open PySem PySem.Spec PyProof.Rows
section
variable (P:Program) (w:World)
end
section
variable {P:Program}{w:World}{H H':Hp}{h h':Heap}{a:Addr}{o:HO}
end
section
variable {P:Program}{w:World}{H:Hp}{h h':Heap}{x e:Addr}{o':HO}
end
section
variable {fs fs' ex ex':List Addr}{H H1 H2:Hp}{h h1 h2 h':Heap}{a x e:Addr}{o:HO}
end
end L2
namespace L2
open PySem PySem.Spec PyProof.Rows
section
variable {X:Cx}{pins:List (Addr×Obj)}{σ:List (Option V)}{H H':Hp}{s:Shared}{h':Heap}
end
end L2
namespace L2
open PySem PySem.Spec PyProof.Rows
section
variable {X:Cx}
variable {a b:Expr}{ta tb:TE}{pos:Pos}
variable {tA tB':TT}{rest:List Expr}
end
end L2
namespace L2
open PySem PySem.Spec PyProof.Rows
section
variable {X:Cx}{pins:List (Addr×Obj)}{σ:St}{H:Hp}{s:Shared}{a:Addr}{xs ys:List V}
end
section
variable {X:Cx}{pins:List (Addr×Obj)}{σ:St}{H:Hp}{s:Shared}{E:Value->Shared->Prop}
end
section
variable {X:Cx}{st:Stmt}{rest:List Stmt}{t u:TS}{e:Expr}{te:TE}{pos:Pos}
end
section
variable {X:Cx}{pos:Pos}
end
section
variable {X:Cx}{pos:Pos}
end
end L2
namespace L2
open PySem PySem.Spec PyProof.Rows
section
variable {X:Cx}{tg:Expr}
end
end L2
namespace L2
open PySem PySem.Spec PyProof.Rows
section
variable {X:Cx}{a b c:Expr}{ta tb tc:TE}{pos:Pos}
end
section
variable {X:Cx}{a b c:Expr}{ta tb tc:TE}{pos:Pos}
end
end L2
namespace L2
open PySem PySem.Spec PyProof.Rows
section
variable {prog:Program}{w:World}{A:Around}{E:Value->Shared->Prop}{s:Shared}{K:PySem.W.Frag}{x dx C f:Addr}{mA:Str->Option Value}{name:Str}{v:Value}
end
section
variable {P:Program}{w:World}{H H':Hp}{h h':Heap}{a C dx:Addr}{fs fs':List (Str×V)}
end
section
variable {X:Cx}{pins:List (Addr×Obj)}{σ:St}{H:Hp}{s:Shared}{a C dx:Addr}{fs:List (Str×V)}{f:Str}{v:V}{A:Around}{E:Value->Shared->Prop}
end
section
variable {X:Cx}{o e value:Expr}{f:Str}{pos pos' tpos:Pos}{ta tv:TE}
end
section
variable {X:Cx}{pins:List (Addr×Obj)}{σ:St}{H:Hp}{s:Shared}{A:Around}{E:Value->Shared->Prop}{Q:Value->Shared->Prop}{c:Value}{b:Bool}
end
end L2
namespace L2
open PySem PySem.Spec PyProof.Rows
section
variable {X:Cx}{e:Expr}{es:List Expr}{te:TE}{t:TA}{pos:Pos}
end
section
variable {X:Cx}{pins:List (Addr×Obj)}{σ:St}{H:Hp}{s s':Shared}
end
section
variable {X:Cx}{CX:CXT}{k:Nat}{f C:Addr}{fd:FuncData}{ps:List Str}{sp:Sp}{dvs:List V}{ds:List Value}{E:XK}{x m:Str}{p pos apos:Pos}{e o:Expr}{es:List Expr}{ta:TE}{t:TA}
end
section
variable {X:Cx}{CX:CXT}{k:Nat}{f C:Addr}{fd:FuncData}{ps ks:List Str}{sp:Sp}{E:XK}{x m:Str}{p pos apos kpos:Pos}{e o:Expr}{es:List Expr}{kws:List Keyword}{te ta:TE}{t tk:TA}{nm:Option Str}
variable {g:List Value->List Value->List Value}{gV:List V->List V->List V}
end
end L2
namespace L2
open PySem PySem.Spec PyProof.Rows
section
variable {X:Cx}{x:Str}{p pos:Pos}{e:Expr}{es:List Expr}{t:TA}{id T:String}{r:List V->Hp->VK->Prop}
end
end L2
namespace L2
open PySem PySem.Spec PyProof.Rows
section
variable {κ:Type} [DecidableEq κ]
def yjH (kvs:List (κ×V)) (k:κ):Option V:=(kvs.find? fun kv=>decide (kv.1=k)).map (·.2)
noncomputable def putK (kvs:List (κ×V)) (k:κ) (v:V):List (κ×V) :=
 if (kvs.any fun kv=>decide (kv.1=k))=true then kvs.map (fun kv=>if kv.1=k then (kv.1,v) else kv) else kvs++[(k,v)]
theorem yin {p:κ×V}{r:List (κ×V)}{k:κ}(e:p.1=k):yjH (p::r) k=some p.2:=by simp [yjH,find?_cons,e]
theorem yio {p:κ×V}{r:List (κ×V)}{k:κ}(e:¬ p.1=k):yjH (p::r) k=yjH r k:=by simp [yjH,find?_cons,e]
theorem yml (k:κ):∀ kvs:List (κ×V),(kvs.any fun kv=>decide (kv.1=k))=(yjH kvs k).isSome
 | []=>rfl
 | p::r=>by
  rw [any_cons]
  by_cases e:p.1=k
  .simp only [yin e,decide_eq_true e,Bool.true_or,Option.isSome_some]
  .rw [yio e,decide_eq_false e,Bool.false_or];exact yml k r
theorem ygL (kvs:List (κ×V)) (k:κ) (v:V):(putK kvs k v).length<=kvs.length+1:=by
 unfold putK
 split
 .rw [length_map];omega
 .rw [length_append,length_cons,List.length_nil];omega
theorem RelO.isSome_eq {o:Option V}{u:Option Value}(r:RelO o u):o.isSome=u.isSome:=by
 cases o with
 | none=>cases u with
  | none=>rfl
  | some _=>exact (show False from r).elim
 | some _=>cases u with
  | none=>exact (show False from r).elim
  | some _=>rfl
theorem RelO.getD {o:Option V}{u:Option Value}{d:V}{d':Value}(r:RelO o u) (rd:RelV d d'):RelV (o.getD d) (u.getD d'):=by
 cases o with
 | none=>cases u with
  | none=>exact rd
  | some _=>exact (show False from r).elim
 | some _=>cases u with
  | none=>exact (show False from r).elim
  | some _=>exact r
theorem KV.val {kvs:List (κ×V)}{vs:List (κ×Value)}(r:KV kvs vs) (k:κ):RelO (yjH kvs k) (valueAt vs k):=by
 unfold KV at r
 induction r with
 | nil=>exact True.intro
 | @cons p q ps qs h t ih =>
  obtain ⟨h1,h2⟩:=h
  by_cases e:p.1=k
  .have e':q.1=k:=h1.symm.trans e
   have b:valueAt (q::qs) k=some q.2:=by simp [valueAt,find?_cons,e']
   rw [yin e,b];exact h2
  .have e':¬ q.1=k:=fun z=>e (h1.trans z)
   have b:valueAt (q::qs) k=valueAt qs k:=by simp [valueAt,find?_cons,e']
   rw [yio e,b];exact ih
theorem KV.any {kvs:List (κ×V)}{vs:List (κ×Value)}(r:KV kvs vs) (k:κ):(kvs.any fun kv=>decide (kv.1=k))=vs.any fun kv=>decide (kv.1=k):=by
 unfold KV at r
 induction r with
 | nil=>rfl
 | cons h t ih=>rw [any_cons,any_cons,ih,h.1]
theorem KV.repl {kvs:List (κ×V)}{vs:List (κ×Value)}(r:KV kvs vs) (k:κ) {y:V}{u:Value}(ry:RelV y u) :
  KV (kvs.map fun kv=>if kv.1=k then (kv.1,y) else kv) (vs.map fun kv=>if kv.1=k then (kv.1,u) else kv):=by
 unfold KV at r ⊢
 induction r with
 | nil=>exact .nil
 | @cons p q ps qs h t ih =>
  rw [map_cons,map_cons]
  refine .cons ?_ ih
  obtain ⟨h1,h2⟩:=h
  by_cases e:p.1=k
  .rw [if_pos e,if_pos (h1.symm.trans e)];exact ⟨h1,ry⟩
  .rw [if_neg e,if_neg (fun z=>e (h1.trans z))];exact ⟨h1,h2⟩
theorem KV.put {kvs:List (κ×V)}{vs:List (κ×Value)}(r:KV kvs vs) (k:κ) {y:V}{u:Value}(ry:RelV y u):KV (putK kvs k y) (stored vs k u):=by
 unfold putK stored
 rw [r.any k]
 by_cases e:(vs.any fun kv=>decide (kv.1=k))=true
 .rw [if_pos e,if_pos e];exact r.repl k ry
 .rw [if_neg e,if_neg e];exact Paired.snoc r ⟨rfl,ry⟩
theorem KV.length {kvs:List (κ×V)}{vs:List (κ×Value)}(r:KV kvs vs):kvs.length=vs.length:=Paired.length r
end
theorem ynu {P:Program}{w:World}{k:Key}{u:Value}(r:RelV (kV k) u):(ybX P w).is k u=true:=by
 cases k with
 | inl i=>obtain ⟨t,e⟩:=(show ∃ t,u=Value.int i t from r);subst e;exact ykD P w i t
 | inr x=>obtain ⟨t,e⟩:=(show ∃ t,u=Value.str x t from r);subst e;exact ykE P w x t
theorem yjI {P:Program}{w:World}:∀ {ks:List Key}{us:List Value},Vals (ks.map kV) us->ItemsAre (ybX P w) ks us
 | [],_,r=>by rw [map_nil] at r;cases r;exact .nil
 | k::ks,_,r=>by
  rw [map_cons] at r
  cases r with
  | cons h t=>exact .cons (ynu h) (yjI t)
abbrev KT (H:Hp):List (List Key×V)->List (List Key×Addr×Value)->Prop:=Paired fun p q=>p.1=q.1/\H q.2.1=some (.tup (p.1.map kV))/\RelV p.2 q.2.2
theorem KT.val {H:Hp}{kvs:List (List Key×V)}{xs:List (List Key×Addr×Value)}(r:KT H kvs xs) (k:List Key):RelO (yjH kvs k) ((atKey xs k).map (·.2)):=by
 induction r with
 | nil=>exact True.intro
 | @cons p q ps qs h t ih =>
  obtain ⟨h1,_,h2⟩:=h
  by_cases e:p.1=k
  .have e':q.1=k:=h1.symm.trans e
   have b:atKey (q::qs) k=some q.2:=by simp [atKey,find?_cons,e']
   rw [yin e,b];exact h2
  .have e':¬ q.1=k:=fun z=>e (h1.trans z)
   have b:atKey (q::qs) k=atKey qs k:=by simp [atKey,find?_cons,e']
   rw [yio e,b];exact ih
theorem KT.repl {H:Hp}{kvs:List (List Key×V)}{xs:List (List Key×Addr×Value)}(r:KT H kvs xs) (k:List Key) {y:V}{u:Value}(ry:RelV y u) :
  KT H (kvs.map fun kv=>if kv.1=k then (kv.1,y) else kv) (xs.map (putAt k u)):=by
 induction r with
 | nil=>exact .nil
 | @cons p q ps qs h t ih =>
  rw [map_cons,map_cons]
  refine .cons ?_ ih
  obtain ⟨h1,h2,h3⟩:=h
  unfold putAt
  by_cases e:p.1=k
  .rw [if_pos e,if_pos (h1.symm.trans e)];exact ⟨h1,h2,ry⟩
  .rw [if_neg e,if_neg (fun z=>e (h1.trans z))];exact ⟨h1,h2,h3⟩
theorem KT.put {H:Hp}{kvs:List (List Key×V)}{xs:List (List Key×Addr×Value)}(r:KT H kvs xs) (k:List Key) {b:Addr}{y:V}{u:Value}(hb:H b=some (.tup (k.map kV))) (ry:RelV y u) :
  KT H (putK kvs k y) (storedH xs k b u):=by
 have e:(kvs.any fun kv=>decide (kv.1=k))=(atKey xs k).isSome:=by
  rw [yml,(r.val k).isSome_eq,isSome_map]
 unfold putK storedH
 rw [e]
 by_cases q:(atKey xs k).isSome=true
 .rw [if_pos q,if_pos q];exact r.repl k ry
 .rw [if_neg q,if_neg q];exact Paired.snoc r ⟨rfl,hb,ry⟩
theorem KT.keeps {H H':Hp}{kvs:List (List Key×V)}{xs:List (List Key×Addr×Value)}(r:KT H kvs xs) (ht:∀ b ys,H b=some (.tup ys)->H' b=some (.tup ys)):KT H' kvs xs :=
 Paired.mapP r fun _ _ z=>⟨z.1,ht _ _ z.2.1,z.2.2⟩
section
variable {P:Program}{w:World}{H:Hp}{h:Heap}{a:Addr}
theorem yyO {u:HO}(ok:HOk P w H h) (e:Rd H a u):ObjOk P w H h a u:=e.ok ok
theorem ylm {kvs:List (Key×V)}(ok:HOk P w H h) (e:Rd H a (.dK kvs)):kvs.length<=sizeLine/\(a == sysModules)=false/\∃ vs,KV kvs vs/\h.DictOf (ybX P w) a vs :=
 show ObjOk P w H h a (.dK kvs) from yyO ok e
theorem yBU {kvs:List (Key×V)}(ok:HOk P w H h) (e:H a=some (.dK kvs)):kvs.length<=sizeLine/\(a == sysModules)=false/\∃ vs,KV kvs vs/\h.DictOf (ybX P w) a vs:=ylm ok (.inl e)
theorem yhK {ks:List Key}(ok:HOk P w H h) (e:H a=some (.tup (ks.map kV))):(tupleKind (ybX P w)).is h ks a:=by
 obtain ⟨_,its,r,o,h1,h2,n,h3⟩:=(show ObjOk P w H h a (.tup (ks.map kV)) from ok a _ e)
 exact ⟨o,its.toArray,n,h1,h2,h3,by simpa using yjI r⟩
theorem yln {kvs:List (List Key×V)}(ok:HOk P w H h) (e:Rd H a (.dT kvs)):kvs.length<=sizeLine/\(a == sysModules)=false /\
  ∃ xs,KT H kvs xs/\h.DictOfH (tupleKind (ybX P w)) a xs:=by
 obtain ⟨z,y,xs,r,o,es,ep,h1,h2,h3,h4,h5⟩:=(show ObjOk P w H h a (.dT kvs) from yyO ok e)
 refine ⟨z,y,xs,r,o,es,ep,h1,h2,h3,h4,fun x hx=>?_,h5⟩
 have all:∀ {l:List (List Key×V)}{m:List (List Key×Addr×Value)},KT H l m->∀ x∈m,(tupleKind (ybX P w)).is h x.1 x.2.1:=by
  intro l m q
  induction q with
  | nil=>intro x hx;exact nomatch hx
  | @cons p q ps qs hq t ih =>
   intro x hx
   rcases mem_cons.mp hx with e|hx
   .subst e
    exact yhK ok (by rw [<- hq.1];exact hq.2.1)
   .exact ih x hx
 exact all r x hx
theorem yBV {kvs:List (List Key×V)}(ok:HOk P w H h) (e:H a=some (.dT kvs)):kvs.length<=sizeLine/\(a == sysModules)=false /\
  ∃ xs,KT H kvs xs/\h.DictOfH (tupleKind (ybX P w)) a xs:=yln ok (.inl e)
end
noncomputable def DGet (H:Hp) (a:Addr) (y:V) (r:Option V):Prop :=
 (∃ kvs k,Rd H a (.dK kvs)/\y=kV k/\r=yjH kvs k)\/∃ kvs k b,Rd H a (.dT kvs)/\y=.ref b/\H b=some (.tup (k.map kV))/\r=yjH kvs k
def DPut (H:Hp) (a:Addr) (y v:V) (H':Hp):Prop :=
 (∃ kvs k,H a=some (.dK kvs)/\y=kV k/\kvs.length<sizeLine/\H'=upd H a (.dK (putK kvs k v))) \/
 ∃ kvs k b,H a=some (.dT kvs)/\y=.ref b/\H b=some (.tup (k.map kV))/\kvs.length<sizeLine/\H'=upd H a (.dT (putK kvs k v))
theorem DPut.k {H:Hp}{a:Addr}{kvs:List (Key×V)}{k:Key}{v:V}(e:H a=some (.dK kvs)) (hl:kvs.length<sizeLine):DPut H a (kV k) v (upd H a (.dK (putK kvs k v))):=.inl ⟨kvs,k,e,rfl,hl,rfl⟩
section
variable {X:Cx}{pins:List (Addr×Obj)}{σ:St}{H:Hp}{s:Shared}{a:Addr}{y v:V}{u r:Value}{o:Option V}{A:Around}{E:Value->Shared->Prop}
theorem Inv.big (I:Inv X pins σ H s):sysModules<s.heap.objs.size:=by
 have h:mainGlobals<s.heap.objs.size:=(I.mod.glob.keeps I.bk).lt
 exact Nat.lt_trans (by decide) h
theorem ype {Q:Value->Shared->Prop}(hu:A.units+1<cLine) (I:Inv X pins σ H s) (g:DGet H a y (some v)) (ry:RelV y u) (h:∀ w' s',Inv X pins σ H s'->RelV v w'->Q w' s') :
  wpAny (model X.prog X.w) A (getItem (.ref a) u) Q E s:=by
 rcases g with ⟨kvs,k,e,ey,l⟩|⟨kvs,k,b,e,ey,eb,l⟩
 .subst ey
  obtain ⟨z,hd,vs,rel,dd⟩:=ylm I.hok e
  obtain ⟨w',hw,rw'⟩:=RelO.some_of (v:=v) (o:=valueAt vs k) (by rw [l];exact rel.val k)
  exact wpAny_getItem_of (ynu ry) dd.mapOf hw (h w' _ (I.tok _) rw')
 .subst ey
  cases (show u=Value.ref b from ry)
  obtain ⟨z,hd,xs,rel,dd⟩:=yln I.hok e
  obtain ⟨w',hw,rw'⟩:=RelO.some_of (v:=v) (o:=(atKey xs k).map (·.2)) (by rw [l];exact rel.val k)
  obtain ⟨p,hp,hp2⟩:=Option.map_eq_some_iff.mp hw
  refine wpAny_getItem_heap (tupleKind_room_in1 hu) (yhK I.hok eb) dd hp ?_
  rw [hp2]
  exact h w' _ (I.tok _) rw'
theorem yDH {Q:Value->Shared->Prop}(hu:A.units+1<cLine) (I:Inv X pins σ H s) (g:DGet H a y o) (ry:RelV y u) (h:∀ s',Inv X pins σ H s'->Q (.bool o.isSome) s') :
  wpAny (model X.prog X.w) A (compareOp .In u (.ref a)) Q E s:=by
 rcases g with ⟨kvs,k,e,ey,l⟩|⟨kvs,k,b,e,ey,eb,l⟩
 .subst ey
  obtain ⟨z,hd,vs,rel,dd⟩:=ylm I.hok e
  refine wpAny_in_of (ynu ry) hd dd.mapOf ?_
  rw [<- (rel.val k).isSome_eq,<- l]
  exact h _ (I.tok _)
 .subst ey
  cases (show u=Value.ref b from ry)
  obtain ⟨z,hd,xs,rel,dd⟩:=yln I.hok e
  refine wpAny_in_heap (tupleKind_room_in1 hu) (yhK I.hok eb) hd dd ?_
  have q:=(rel.val k).isSome_eq
  rw [isSome_map] at q
  rw [<- q,<- l]
  exact h _ (I.tok _)
theorem yvH {Q:Value->Shared->Prop}(hu:A.units+1<cLine) (I:Inv X pins σ H s) (g:DGet H a y o) (ry:RelV y u) (h:∀ s',Inv X pins σ H s'->Q (.bool (!o.isSome)) s') :
  wpAny (model X.prog X.w) A (compareOp .NotIn u (.ref a)) Q E s:=by
 rcases g with ⟨kvs,k,e,ey,l⟩|⟨kvs,k,b,e,ey,eb,l⟩
 .subst ey
  obtain ⟨z,hd,vs,rel,dd⟩:=ylm I.hok e
  refine wpAny_notIn_of (ynu ry) hd dd.mapOf ?_
  rw [<- (rel.val k).isSome_eq,<- l]
  exact h _ (I.tok _)
 .subst ey
  cases (show u=Value.ref b from ry)
  obtain ⟨z,hd,xs,rel,dd⟩:=yln I.hok e
  refine wpAny_notIn_heap (tupleKind_room_in1 hu) (yhK I.hok eb) hd dd ?_
  have q:=(rel.val k).isSome_eq
  rw [isSome_map] at q
  rw [<- q,<- l]
  exact h _ (I.tok _)
theorem ypf {h':Heap}{t':Nat}{ob:HO}(I:Inv X pins σ H s) (mu:Mut (H a)) (hs:Heap.SameBut a s.heap h') (he:∃ q,h'.get? a=some q) (new:ObjOk X.prog X.w (upd H a ob) h' a ob) :
  Inv X pins σ (upd H a ob) { s with heap:=h',toks:=t' } :=
 I.write (x:=a) (e:=a) mu (.inl rfl) (fun b q hb z=>(hs.2 b hb).trans z) he new
theorem yyP {P:Program}{w:World}{H':Hp}{h':Heap}{kvs:List (Key×V)}{vs:List (Key×Value)}(z:kvs.length<=sizeLine) (hd:(a == sysModules)=false) (rel:KV kvs vs) (dd:h'.DictOf (ybX P w) a vs) :
  ObjOk P w H' h' a (.dK kvs):=⟨z,hd,vs,rel,dd⟩
theorem ypg {H':Hp}{Q:Unit->Shared->Prop}(hu:A.units+1<cLine) (I:Inv X pins σ H s) (g:DPut H a y v H') (ry:RelV y u) (rv:RelV v r) (h:∀ s',Inv X pins σ H' s'->Q () s') :
  wpAny (model X.prog X.w) A (setItem (.ref a) u r) Q E s:=by
 rcases g with ⟨kvs,k,e,ey,l,eH⟩|⟨kvs,k,b,e,ey,eb,l,eH⟩
 .subst ey eH
  obtain ⟨z,hd,vs,rel,dd⟩:=yBU I.hok e
  have hz:vs.length<=sizeLine:=by rw [<- rel.length];exact z
  have hl:(putK kvs k v).length<=sizeLine:=by have:=ygL kvs k v;omega
  refine wpAny_setItem_pairs (hsz:=hz) (ynu ry) dd fun h' dd' hs=>h _ ?_
  have he:∃ q,h'.get? a=some q:=let ⟨q,_,_,hq,_⟩:=dd';⟨q,hq⟩
  exact ypf I (by rw [e];exact True.intro) hs he (yyP hl hd (rel.put k rv) dd')
 .subst ey eH
  cases (show u=Value.ref b from ry)
  obtain ⟨z,hd,xs,rel,dd⟩:=yBV I.hok e
  have hz:xs.length<=sizeLine:=by rw [<- Paired.length rel];exact z
  have hl:(putK kvs k v).length<=sizeLine:=by have:=ygL kvs k v;omega
  refine wpAny_setItem_heap (hsz:=hz) (tupleKind_room_in1 hu) (yhK I.hok eb) dd fun h' dd' hs=>h _ ?_
  obtain ⟨q,es,ep,hq,h2,h3,h4,_,h5⟩:=dd'
  refine ypf I (by rw [e];exact True.intro) hs ⟨q,hq⟩ ⟨hl,hd,_,(rel.put k eb rv).keeps fun c ys ec=>?_,q,es,ep,hq,h2,h3,h4,h5⟩
  rw [yy (yAz ec e (fun z=>nomatch z))]
  exact ec
end
section
variable {X:Cx}{pins:List (Addr×Obj)}{σ:St}{H:Hp}{s:Shared}{a:Addr}{kvs:List (Key×V)}{k:Key}{u:Value}{A:Around}{E:Value->Shared->Prop}
end
def yBW (i:Expr):Prop:=∀ ov iv,subscripted i false ov iv=operate [ov,iv] (getItem ov iv)
theorem yvI {prog:Program}{w:World}{A:Around}{E:Value->Shared->Prop}{s:Shared}{env:Env}{value slice:Expr}{pos:Pos}{T id:String}{Q:Value->Shared->Prop}
  (hl:typeLookup (.type T) "__getitem__" = pure (some (.builtin id))) (hs:yBW slice)
  (h:wpAny (model prog w) A (eval value env) (fun o s₁=>wpAny (model prog w) A (eval slice env) (fun i s₂=>s₂.TypeIs o T/\wpAny (model prog w) A (getItem o i) Q E s₂) E s₁) E s) :
  wpAny (model prog w) A (eval (.Subscript value slice pos) env) Q E s:=by
 refine Subscript_ (wpAny_mono h (fun o s₁ h₁=>wpAny_mono h₁ (fun i s₂ h₂=>?_) fun _ _ x=>x) fun _ _ x=>x)
 obtain ⟨hT,h₂⟩:=h₂
 unfold subscriptTail
 refine wpAny_bind ?_
 rw [getitemInPython_of_ne hT.not_modules]
 refine wpAny_bind (wpAny_specialOf hT hl ?_)
 have fin:wpAny (model prog w) A (subscripted slice false o i) (fun r s₃=>wpAny (model prog w) A (letTemporaryGo value o r >>= fun _=>pure r) Q E s₃) E s₂:=by
  rw [hs o i]
  exact wpAny_operating (wpAny_mono h₂ (fun r s₃ h₃=>wpAny_bind (wpAny_letTemporaryGo (wpAny_pure h₃))) fun _ _ x=>x)
 first
  | exact wpAny_pure (wpAny_bind fin)
  | exact wpAny_bind (wpAny_pure (wpAny_bind fin))
  | exact wpAny_bind fin
theorem ylo {X:Cx}{pins:List (Addr×Obj)}{σ:St}{H:Hp}{s:Shared}{a:Addr}{y:V}{o:Option V}(I:Inv X pins σ H s) (g:DGet H a y o):s.TypeIs (.ref a) "dict":=by
 rcases g with ⟨kvs,k,e,_,_⟩|⟨kvs,k,b,e,_,_,_⟩
 .obtain ⟨_,_,vs,_,dd⟩:=ylm I.hok e
  exact dd.typeIs
 .obtain ⟨_,_,xs,_,dd⟩:=yln I.hok e
  exact dd.typeIs
def yyQ (td ty:TE):TE:=fun σ H Q=>td σ H fun x H1=>ty σ H1 fun y H2=>∃ a v,x=.ref a/\DGet H2 a y (some v)/\Q v H2
def yDd (ty td:TE):TE:=fun σ H Q=>ty σ H fun y H1=>td σ H1 fun x H2=>∃ a o,x=.ref a/\DGet H2 a y o/\Q (.bl o.isSome) H2
def yph (ty td:TE):TE:=fun σ H Q=>ty σ H fun y H1=>td σ H1 fun x H2=>∃ a o,x=.ref a/\DGet H2 a y o/\Q (.bl (!o.isSome)) H2
def yyR (td ty tv:TE):TS:=fun D σ H=>tv σ H fun v H1=>td σ H1 fun x H2=>ty σ H2 fun y H3=>∃ a H4,x=.ref a/\DPut H3 a y v H4/\D.nx σ H4
section
variable {X:Cx}{o i e value:Expr}{pos pos' tpos:Pos}{td ty tv:TE}
theorem yvJ (hu:X.A.units+1<cLine) (ho:PE X o td) (hi:PE X i ty) (hs:yBW i):PE X (.Subscript o i pos) (yyQ td ty):=by
 intro pins s σ H Q I h
 refine yvI PySem.F.slot_dict_getitem.lookup hs (thn (ho pins s σ H _ I h) fun u s1 ⟨x,H1,I1,rx,q1⟩=>thn (hi pins s1 σ H1 _ I1 q1) fun iv s2 ⟨y,H2,I2,ry,a,v,ex,g,q2⟩=>?_)
 subst ex
 obtain rfl:u=Value.ref a:=rx
 exact ⟨ylo I2 g,ype hu I2 g ry fun w' s3 I3 rw'=>⟨v,H2,I3,rw',q2⟩⟩
theorem yyS (hu:X.A.units+1<cLine) (hi:PE X i ty) (ho:PE X o td):PC X .In i o (yDd ty td):=by
 intro pins s σ H Q I h
 refine thn (hi pins s σ H _ I h) fun iv s1 ⟨y,H1,I1,ry,q1⟩=>thn (ho pins s1 σ H1 _ I1 q1) fun u s2 ⟨x,H2,I2,rx,a,ov,ex,g,q2⟩=>?_
 subst ex
 obtain rfl:u=Value.ref a:=rx
 exact yDH hu I2 g ry fun s3 I3=>⟨.bl ov.isSome,H2,I3,rfl,q2⟩
theorem ypi (hu:X.A.units+1<cLine) (hi:PE X i ty) (ho:PE X o td):PC X .NotIn i o (yph ty td):=by
 intro pins s σ H Q I h
 refine thn (hi pins s σ H _ I h) fun iv s1 ⟨y,H1,I1,ry,q1⟩=>thn (ho pins s1 σ H1 _ I1 q1) fun u s2 ⟨x,H2,I2,rx,a,ov,ex,g,q2⟩=>?_
 subst ex
 obtain rfl:u=Value.ref a:=rx
 exact yvH hu I2 g ry fun s3 I3=>⟨.bl (!ov.isSome),H2,I3,rfl,q2⟩
theorem yvK (hu:X.A.units+1<cLine) (ho:PE X o td) (hi:PE X i ty) (hv:PE X value tv) (hs:swapsWith value (some (.Subscript o i pos')) pos.line X.env=pure false) :
  PS X (.Assign [.Subscript o i pos'] value pos) (yyR td ty tv):=by
 intro pins s σ H D I h
 refine wpAny_Assign_Subscript (thn (hv pins s σ H _ I h) fun r s1 ⟨v,H1,I1,rv,q1⟩=>thn (ho pins s1 σ H1 _ I1 q1) fun u s2 ⟨x,H2,I2,rx,q2⟩=>thn (hi pins s2 σ H2 _ I2 q2) fun iv s3 ⟨y,H3,I3,ry,a,H4,ex,g,q3⟩=>?_) hs
 subst ex
 obtain rfl:u=Value.ref a:=rx
 exact ypg hu I3 g ry rv fun s4 I4=>⟨σ,H4,I4,q3⟩
end
theorem ysc {P:Program}{w:World}{H:Hp}(h:Heap) (hb:sysModules<h.objs.size):ObjOk P w H (h.push { cls:=.type "dict",data:=.dict #[] }) h.objs.size (.dK []) :=
 ⟨zero_le _,beq_eq_false_iff_ne.mpr (Ne.symm (ne_of_lt hb)),[],.nil,Heap.DictOf.new h⟩
def ytU:TE:=fun _ H Q=>∀ p,H p=none->Q (.ref p) (upd H p (.dK []))
section
variable {X:Cx}{pos:Pos}
theorem ysd:PE X (.Dict [] [] pos) ytU:=fun pins s σ H Q I h =>
 wpAny_Dict_empty ⟨.ref s.heap.objs.size,_,I.laid (a:=s.heap.objs.size) (o:=.dK []) (t':=s.toks) (fun _ _ q=>Heap.get?_push_of_some _ q) (Nat.le_refl _) (ysc s.heap I.big),rfl,h _ (I.hok.fresh (Nat.le_refl _))⟩
end
structure M2 (X:Cx) (o:Expr) (m:Str) (apos:Pos) (e f:Expr) (cpos:Pos):Prop where
 base:attributeBase o m X.env (eval o X.env)=eval o X.env
 few:((backTo cpos (starEach [e,f] X.env)).all (fun x=>!x.1) && (backToKw cpos (keywordEach [] X.env)).all (fun x=>x.1.isSome)
  && decide (([e,f]:List Expr).length+([]:List Keyword).length+(if ([]:List Keyword).isEmpty then 0 else 1)<30))=true
 line:(apos.endLine == cpos.line)=true
 trees:backTo cpos (starEach [e,f] X.env)=[(false,eval e X.env),(false,eval f X.env)]
def IsD (H:Hp) (a:Addr):Prop:=(∃ kvs,Rd H a (.dK kvs))\/∃ kvs,Rd H a (.dT kvs)
theorem yyT {X:Cx}{pins:List (Addr×Obj)}{σ:St}{H:Hp}{s:Shared}{a:Addr}(I:Inv X pins σ H s) (d:IsD H a) :
  s.TypeIs (.ref a) "dict"/\(∀ b,Value.ref a=.ref b->∃ ob,s.heap.get? b=some ob/\ob.dict=none)/\(a == sysModules)=false:=by
 rcases d with ⟨kvs,e⟩|⟨kvs,e⟩
 .obtain ⟨_,hd,vs,_,dd⟩:=ylm I.hok e
  refine ⟨dd.typeIs,fun b q=>?_,hd⟩
  cases q
  obtain ⟨ob,_,_,h1,h2,_⟩:=dd
  exact ⟨ob,h1,h2.2.1⟩
 .obtain ⟨_,hd,xs,_,dd⟩:=yln I.hok e
  refine ⟨dd.typeIs,fun b q=>?_,hd⟩
  cases q
  obtain ⟨ob,_,_,h1,h2,_⟩:=dd
  exact ⟨ob,h1,h2.2.1⟩
section
variable {X:Cx}{pins:List (Addr×Obj)}{σ:St}{H:Hp}{s:Shared}{a:Addr}{y d:V}{u r:Value}{o:Option V}{A:Around}{E:Value->Shared->Prop}
theorem yyU {Q:Value->Shared->Prop}(hu:A.units+1<cLine) (I:Inv X pins σ H s) (g:DGet H a y o) (ry:RelV y u) (rd:RelV d r) (h:∀ w' s',Inv X pins σ H s'->RelV (o.getD d) w'->Q w' s') :
  wpAny (model X.prog X.w) A (call (.builtin "dict.get") [.ref a,u,r]) Q E s:=by
 rcases g with ⟨kvs,k,e,ey,l⟩|⟨kvs,k,b,e,ey,eb,l⟩
 .subst ey
  obtain ⟨z,hd,vs,rel,dd⟩:=ylm I.hok e
  refine call_meetsIn slot_dict_get dd.typeIs PySem.F.entry_dict_get (PySem.F.args_dict_get_3 _ _ _) (meets_dict_get_default (ybX X.prog X.w) a (ynu ry) hd r) ⟨_,dd.mapOf,h _ _ (I.tok _) ?_⟩
  rw [l]
  exact (rel.val k).getD rd
 .subst ey
  cases (show u=Value.ref b from ry)
  obtain ⟨z,hd,xs,rel,dd⟩:=yln I.hok e
  refine call_meetsIn slot_dict_get dd.typeIs PySem.F.entry_dict_get (PySem.F.args_dict_get_3 _ _ _) (meetsH_dict_get_default (tupleKind (ybX X.prog X.w)) a b hd r) ⟨tupleKind_room_in1 hu,k,xs,yhK I.hok eb,dd,h _ _ (I.tok _) ?_⟩
  rw [l]
  exact (rel.val k).getD rd
end
def ytV (td ty tx:TE):TE:=fun σ H Q=>td σ H fun x H1=>∃ a,x=.ref a/\IsD H1 a/\ty σ H1 fun y H2=>tx σ H2 fun z H3=>∃ o,DGet H3 a y o/\Q (o.getD z) H3
section
variable {X:Cx}{o e f:Expr}{apos cpos:Pos}{td ty tx:TE}
theorem yse (hu:X.A.units+1<cLine) (ho:PE X o td) (he:PE X e ty) (hf:PE X f tx) (m:M2 X o "get" apos e f cpos):PE X (.Call (.Attribute o "get" apos) [e,f] [] cpos) (ytV td ty tx):=by
 intro pins s σ H Q I h
 refine wpAny_Call_method m.base m.few m.line plainAttrs_dict slot_dict_get PySem.F.type_dict_get (thn (ho pins s σ H _ I h) fun u s1 ⟨x,H1,I1,rx,a,ex,d,q1⟩=>?_)
 subst ex
 obtain rfl:u=Value.ref a:=rx
 obtain ⟨t1,t2,_⟩:=yyT I1 d
 refine ⟨t1,t2,?_⟩
 rw [m.trees]
 refine Calls.callWith_builtin rfl (Calls.evalArgs_plain (Calls.spliced_cons (thn (he pins s1 σ H1 _ I1 q1) fun iv s2 ⟨y,H2,I2,ry,q2⟩ =>
  Calls.spliced_cons (thn (hf pins s2 σ H2 _ I2 q2) fun fv s3 ⟨z,H3,I3,rz,ov,g,q3⟩=>Calls.spliced_nil ?_))))
 exact yyU hu I3 g ry rz fun w' s4 I4 rw'=>⟨_,H3,I4,rw',q3⟩
end
section
variable {X:Cx}{pins:List (Addr×Obj)}{σ:St}{H:Hp}{s:Shared}{a:Addr}{kvs:List (Key×V)}{A:Around}{E:Value->Shared->Prop}
end
section
variable {X:Cx}{pins:List (Addr×Obj)}{σ:St}{H:Hp}{s:Shared}{a:Addr}{y:V}{u:Value}{A:Around}{E:Value->Shared->Prop}
end
end L2
namespace Att
open PySem PySem.W PySem.Calls PyProof.Rows
section
variable {prog:Program}{w:World}{A:Around}{E:Value->Shared->Prop}{s:Shared}{K:Frag}
end
end Att
namespace L2
open PySem PySem.Spec PyProof.Rows
end L2
namespace L2
open PySem PySem.Spec PyProof.Rows
end L2
namespace L2
open PySem PySem.Spec PyProof.Rows
section
variable {P:Program}{w:World}{K:PySem.W.Frag}{mg:Str->Option Value}{base:Heap}
end
section
variable {X:Cx}
end
section
variable {κ:Type} [DecidableEq κ]
end
end L2
namespace PX
open PySem L2
variable {K:Ck}
theorem yjJ {α:Type}{l:List α}(h:l.Nodup) {i j:Nat}(hi:i<l.length) (hj:j<l.length) (e:l[i]=l[j]):i=j:=by
 have p:=List.pairwise_iff_getElem.mp h
 rcases Nat.lt_trichotomy i j with z|z|z
 .exact absurd e (p i j hi hj z)
 .exact z
 .exact absurd e.symm (p j i hj hi z)
def yjK (W:Wd) (n:Nat) (a:Addr) (o:HO) (d:Nd):Wd:=⟨W.F,upd W.H a o,W.m,W.h.set n d⟩
theorem yfJ {W:Wd}(w:WOk K W) {n:Nat}{d d':Nd}{a:Addr}{o:HO}(e:W.h[n]?=some d) (hm:W.m[n]?=some a) (hF:W.F a=none) (at':NdAt K W.F (upd W.H a o) W.m d' a) (nf:∀ ks xs,d≠.fz ks xs:=by intro _ _ z;cases z):Le K W (yjK W n a o d'):=by
 have hn:n<W.h.length:=(List.getElem?_eq_some_iff.mp e).1
 have ham:a∈W.m:=mem_of_getElem? hm
 refine ⟨⟨fun b u q=>?_,by show W.m.length=(W.h.set n d').length;rw [length_set];exact w.len,w.nd,fun j dj b e1 e2=>?_⟩,Same.refl _,prefix_refl _,fun b u q hb=>?_,fun b u _ _ f=>f,fun b z z'=>absurd z z',fun j ks xs e1=>?_⟩
 .have:b≠a:=yZ q hF
  exact (yy this).trans (w.le _ _ q)
 .have e1:(W.h.set n d')[j]?=some dj:=e1
  by_cases hj:n=j
  .subst hj
   rw [getElem?_set_self hn] at e1
   cases e1
   have e2:W.m[n]?=some b:=e2
   rw [hm] at e2
   cases e2
   exact at'
  .rw [getElem?_set_ne hj] at e1
   have e2:W.m[j]?=some b:=e2
   have hb:b≠a:=fun z=>by
    subst z
    have h1:=(List.getElem?_eq_some_iff.mp hm)
    have h2:=(List.getElem?_eq_some_iff.mp e2)
    obtain ⟨l1,q1⟩:=h1
    obtain ⟨l2,q2⟩:=h2
    exact hj (yjJ w.nd l1 l2 (q1.trans q2.symm))
   exact (w.at_ j dj b e1 e2).mono (Same.refl _) (prefix_refl _) (fun u q=>(yy hb).trans q) id
 .have:b≠a:=fun z=>hb (z ▸ ham)
  exact (yy this).trans q
 .have hj:n≠j:=fun z=>by
   subst z
   rw [e] at e1
   cases e1
   exact nf _ _ rfl
  refine ⟨(getElem?_set_ne hj).trans e1,fun b e2=>yy fun z=>?_⟩
  subst z
  obtain ⟨l1,q1⟩:=List.getElem?_eq_some_iff.mp hm
  obtain ⟨l2,q2⟩:=List.getElem?_eq_some_iff.mp e2
  exact hj (yjJ w.nd l1 l2 (q1.trans q2.symm))
def ylp:PV->AH->Bool:=fun x h=>match yba x h with|some _=>true|none=>false
theorem ysf {W:Wd}{x:PV}{v:V}(w:WOk K W) (r:ycm K W x v) (c:ylp x W.h=true):tyV K.K "list" v W.H:=by
 unfold ylp at c
 split at c
 .rename_i xs hx
  obtain ⟨a,vs,rfl,hs,_⟩:=yN w hx r
  exact .inl ⟨rfl,vs,SqL.of hs⟩
 .cases c
noncomputable def yjL:PM:=fun x ys h=>match x,ys with|.loc n,[y]=>(match h[n]? with|some (.lst xs)=>if xs.length<100000 then some (.non,h.set n (.lst (xs++[y]))) else none|_=>none)|_,_=>none
theorem ytW:ynn K "list" ylp ykK yjL:=by
 refine ⟨fun W x v w r c=>ysf w r c,fun W x v xs vs Q z h' w rx r e q=>?_⟩
 unfold yjL at e
 split at e
 .rename_i n y
  split at e
  .rename_i ys hn
   split at e
   .rename_i hl
    cases e
    obtain ⟨u,rfl,ru⟩:=yjD r
    obtain ⟨a,ev,hm,hf,us,hp,rs⟩:=w.loc hn rx
    refine ⟨a,us,u,ev,rfl,hp,by rw [rs.len];exact big hl,?_⟩
    exact q .non (yjK W n a (.lst (us++[u])) (.lst (ys++[y]))) rfl (yfJ w hn hm hf ⟨hf,_,yu,rs.snoc ru⟩) rfl
   .cases e
  .cases e
 .cases e
def ygg (eo ei ev:XE):XS:=fun ρ h=>ob (ev ρ h) fun v h1=>ob (eo ρ h1) fun o h2=>ob (ei ρ h2) fun i h3=>match o,i with
 | .loc n,.int k=>(match h3[n]? with|some (.lst xs)=>(match ixN xs.length k with|some j=>some (.nx ρ,h3.set n (.lst (xs.set j v)))|none=>none)|_=>none)
 | _,_=>none
theorem ysg {to ti tv:TE}{eo ei ev:XE}(a:ybt K to eo) (b:ybt K ti ei) (c:ybt K tv ev):yee K (ytr tv (yCM to ti yxQ)) (ygg eo ei ev):=by
 intro W0 W ρ σ D o h' g e q
 obtain ⟨v,h1,e1,f1⟩:=yg e
 obtain ⟨x,h2,e2,f2⟩:=yg f1
 obtain ⟨i,h3,e3,f3⟩:=yg f2
 refine c W0 W ρ σ _ v h1 g e1 fun vv W1 w1 l1 r1=>?_
 subst w1
 refine a W0 W1 ρ σ _ x h2 (g.step l1) e2 fun vx W2 w2 l2 r2=>?_
 subst w2
 refine b W0 W2 ρ σ _ i h3 (g.step (l1.trans l2)) e3 fun vi W3 w3 l3 r3=>?_
 subst w3
 have w:=l3.ok
 split at f3
 .rename_i n k
  split at f3
  .rename_i xs hn
   split at f3
   .rename_i j hj
    cases f3
    obtain ⟨p,ep,hm,hf,us,hp,rs⟩:=w.loc hn (l3.rep r2)
    refine ⟨p,us,k,j,ep,r3,hp,by rw [rs.len];exact hj,?_⟩
    have l4:Le K W3 (yjK W3 n p (.lst (us.set j vv)) (.lst (xs.set j v))):=yfJ w hn hm hf ⟨hf,_,yu,rs.set j ((l2.trans l3).rep r1)⟩
    have l:=l1.trans (l2.trans (l3.trans l4))
    exact q _ σ rfl l.lf (g.step l)
   .cases f3
  .cases f3
 .cases f3
def keyOf:PV->Option Key
 | .int i=>some (.inl i)
 | .str s=>some (.inr s)
 | _=>none
theorem yef {W:Wd}{x:PV}{v:V}{k:Key}(e:keyOf x=some k) (r:ycm K W x v):v=kV k:=by
 cases x<;>cases e<;>exact r
noncomputable def yjM (x:PV) (h:AH):Option (List Key×List PV):=match x with|.loc n=>(match h[n]? with|some (.dct ks xs)=>some (ks,xs)|_=>none)|_=>none
def yer:List Key->List PV->Key->Option PV
 | k::ks,x::xs,j=>if k=j then some x else yer ks xs j
 | _,_,_=>none
def yqX:List Key->Key->Bool
 | [],_=>false
 | k::ks,j=>if k=j then true else yqX ks j
noncomputable def setK {α:Type}:List Key->List α->Key->α->List α
 | k::ks,x::xs,j,y=>if k=j then y::setK ks xs j y else x::setK ks xs j y
 | _,xs,_,_=>xs
def ycq (ks:List Key) (xs:List PV) (k:Key) (x:PV):List Key×List PV:=if yqX ks k=true then (ks,setK ks xs k x) else (ks++[k],xs++[x])
theorem ymm {α:Type}:∀ (ks:List Key) (xs:List α) (j:Key) (y:α),(setK ks xs j y).length=xs.length
 | [],_,_,_=>by simp [setK]
 | _::_,[],_,_=>by simp [setK]
 | k::ks,x::xs,j,y=>by
  show (if k=j then y::setK ks xs j y else x::setK ks xs j y).length=_
  split<;>simp [ymm ks xs j y]
theorem RepL.setK {F:Hp}{m:List Addr}:∀ {xs:List PV}{vs:List V}(ks:List Key) (j:Key) {y:PV}{u:V},RepL K F m xs vs->Rep K F m y u->RepL K F m (PX.setK ks xs j y) (PX.setK ks vs j u)
 | [],_,ks,j,y,u,h,_=>by rw [show _=[] from h];cases ks<;>exact rfl
 | x::xs,_,[],j,y,u,h,_=>by
  obtain ⟨v,r,e,h1,l⟩:=h
  subst e
  exact ⟨v,r,rfl,h1,l⟩
 | x::xs,_,k::ks,j,y,u,⟨v,r,e,h1,l⟩,ru=>by
  subst e
  show RepL K F m (if k=j then y::PX.setK ks xs j y else x::PX.setK ks xs j y) (if k=j then u::PX.setK ks r j u else v::PX.setK ks r j u)
  have ih:=RepL.setK ks j l ru
  split
  .exact ⟨u,_,rfl,ru,ih⟩
  .exact ⟨v,_,rfl,h1,ih⟩
theorem ygu {F:Hp}{m:List Addr}:∀ {ks:List Key}{xs:List PV}{vs:List V}(j:Key),RepL K F m xs vs->vs.length=ks.length->(∀ x,yer ks xs j=some x->∃ v,yjH (ks.zip vs) j=some v/\Rep K F m x v)/\(yer ks xs j=none->yjH (ks.zip vs) j=none)
 | [],xs,vs,j,r,hl=>by
  refine ⟨fun x e=>?_,fun _=>rfl⟩
  cases xs<;>cases e
 | k::ks,[],vs,j,r,hl=>by rw [show vs=[] from r] at hl;cases hl
 | k::ks,x::xs,_,j,⟨v,r',e,h,l⟩,hl=>by
  subst e
  have ih:=ygu j l (by simpa using hl)
  have hz:yjH ((k::ks).zip (v::r')) j=if k=j then some v else yjH (ks.zip r') j:=by
   unfold yjH
   rw [zip_cons_cons,find?_cons]
   by_cases hk:k=j
   .simp [hk]
   .simp [hk]
  rw [hz]
  show (∀ y,(if k=j then some x else yer ks xs j)=some y->_)/\((if k=j then some x else yer ks xs j)=none->_)
  by_cases hk:k=j
  .rw [if_pos hk,if_pos hk]
   exact ⟨fun y e=>by cases e;exact ⟨v,rfl,h⟩,fun e=>by cases e⟩
  .rw [if_neg hk,if_neg hk]
   exact ih
theorem ypj (j:Key):∀ (ks:List Key) (vs:List V),vs.length=ks.length->((ks.zip vs).any fun kv=>decide (kv.1=j))=yqX ks j
 | [],_,_=>by simp [yqX]
 | k::ks,[],h=>by cases h
 | k::ks,v::vs,h=>by
  rw [zip_cons_cons,any_cons,ypj j ks vs (by simpa using h)]
  show (decide (k=j) || yqX ks j)=if k=j then true else yqX ks j
  by_cases hk:k=j<;>simp [hk]
theorem ypk (j:Key) (y:V):∀ (ks:List Key) (vs:List V),vs.length=ks.length->(ks.zip vs).map (fun kv=>if kv.1=j then (kv.1,y) else kv)=ks.zip (setK ks vs j y)
 | [],_,_=>by simp
 | k::ks,[],h=>by cases h
 | k::ks,v::vs,h=>by
  rw [zip_cons_cons,map_cons,ypk j y ks vs (by simpa using h)]
  show (if k=j then (k,y) else (k,v))::_=(k::ks).zip (if k=j then y::setK ks vs j y else v::setK ks vs j y)
  by_cases hk:k=j
  .rw [if_pos hk,if_pos hk];rfl
  .rw [if_neg hk,if_neg hk];rfl
theorem ysh (j:Key) (y:V) (ks:List Key) (vs:List V) (hl:vs.length=ks.length):putK (ks.zip vs) j y=if yqX ks j=true then ks.zip (setK ks vs j y) else (ks++[j]).zip (vs++[y]):=by
 unfold putK
 rw [ypj j ks vs hl,ypk j y ks vs hl,List.zip_append hl.symm]
 rfl
theorem yjN {W:Wd}(w:WOk K W) {x:PV}{v:V}{ks:List Key}{xs:List PV}(e:yjM x W.h=some (ks,xs)) (r:ycm K W x v):∃ a vs,v=.ref a/\W.H a=some (.dK (ks.zip vs))/\vs.length=ks.length/\ycn K W xs vs:=by
 unfold yjM at e
 split at e
 .split at e
  .rename_i hn
   cases e
   obtain ⟨a,ev,hm,hf,vs,hp,hl,rs⟩:=w.loc hn r
   exact ⟨a,vs,ev,hp,hl,rs⟩
  .cases e
 .cases e
noncomputable def ykz (x:PV) (h:AH):Option (List Key×List PV):=match x with|.loc n=>(match h[n]? with|some (.dct ks xs)=>some (ks,xs)|some (.fz ks xs)=>some (ks,xs)|_=>none)|_=>none
theorem yfc {W:Wd}(w:WOk K W) {x:PV}{v:V}{ks:List Key}{xs:List PV}(e:ykz x W.h=some (ks,xs)) (r:ycm K W x v):∃ a vs,v=.ref a/\Rd W.H a (.dK (ks.zip vs))/\vs.length=ks.length/\ycn K W xs vs:=by
 unfold ykz at e
 split at e
 .split at e
  .rename_i hn
   cases e
   obtain ⟨a,ev,hm,hf,vs,hp,hl,rs⟩:=w.loc hn r
   exact ⟨a,vs,ev,.inl hp,hl,rs⟩
  .rename_i hn
   cases e
   obtain ⟨a,ev,hm,hf,o,vs,hp,hl,rs⟩:=w.loc hn r
   exact ⟨a,vs,ev,.inr ⟨o,hp⟩,hl,rs⟩
  .cases e
 .cases e
theorem DGet.r {H:Hp}{a:Addr}{kvs:List (Key×V)}{k:Key}(e:Rd H a (.dK kvs)):DGet H a (kV k) (yjH kvs k):=.inl ⟨kvs,k,e,rfl,rfl⟩
def ydw (ed ek:XE):XE:=fun ρ h=>ob (ed ρ h) fun d h1=>ob (ek ρ h1) fun k h2=>match ykz d h2,keyOf k with|some (ks,xs),some j=>(match yer ks xs j with|some x=>some (x,h2)|none=>none)|_,_=>none
theorem ysi {td ty:TE}{ed ek:XE}(a:ybt K td ed) (b:ybt K ty ek):ybt K (yyQ td ty) (ydw ed ek):=by
 intro W0 W ρ σ Q z h' g e q
 obtain ⟨d,h1,e1,f1⟩:=yg e
 obtain ⟨k,h2,e2,f2⟩:=yg f1
 refine a W0 W ρ σ _ d h1 g e1 fun vd W1 w1 l1 r1=>?_
 subst w1
 refine b W0 W1 ρ σ _ k h2 (g.step l1) e2 fun vk W2 w2 l2 r2=>?_
 subst w2
 split at f2
 .rename_i ks xs j hd hk
  split at f2
  .rename_i x hx
   cases f2
   obtain ⟨p,vs,ev,hp,hl,rs⟩:=yfc l2.ok hd (l2.rep r1)
   obtain ⟨v,h3,h4⟩:=(ygu j rs hl).1 _ hx
   have:=yef hk r2
   subst this
   exact ⟨p,v,ev,by rw [<- h3];exact DGet.r hp,q _ W2 rfl (l1.trans l2) h4⟩
  .cases f2
 .cases f2
def ypl (neg:Bool) (ek ed:XE):XE:=fun ρ h=>ob (ek ρ h) fun k h1=>ob (ed ρ h1) fun d h2=>match ykz d h2,keyOf k with|some (ks,xs),some j=>some (.bl (if neg then !(yer ks xs j).isSome else (yer ks xs j).isSome),h2)|_,_=>none
theorem yhL {F:Hp}{m:List Addr}{ks:List Key}{xs:List PV}{vs:List V}(j:Key) (r:RepL K F m xs vs) (hl:vs.length=ks.length):(yjH (ks.zip vs) j).isSome=(yer ks xs j).isSome:=by
 have h:=ygu j r hl
 cases e:yer ks xs j with
 | none=>rw [h.2 e];rfl
 | some x=>obtain ⟨v,h1,_⟩:=h.1 x e;rw [h1];rfl
theorem yvL {td ty:TE}{ed ek:XE}(b:ybt K ty ek) (a:ybt K td ed):ybt K (yDd ty td) (ypl false ek ed):=by
 intro W0 W ρ σ Q z h' g e q
 obtain ⟨k,h1,e1,f1⟩:=yg e
 obtain ⟨d,h2,e2,f2⟩:=yg f1
 refine b W0 W ρ σ _ k h1 g e1 fun vk W1 w1 l1 r1=>?_
 subst w1
 refine a W0 W1 ρ σ _ d h2 (g.step l1) e2 fun vd W2 w2 l2 r2=>?_
 subst w2
 split at f2
 .rename_i ks xs j hd hk
  cases f2
  obtain ⟨p,vs,ev,hp,hl,rs⟩:=yfc l2.ok hd r2
  have:=yef hk (l2.rep r1)
  subst this
  exact ⟨p,_,ev,DGet.r hp,q _ W2 rfl (l1.trans l2) (by rw [yhL j rs hl];rfl)⟩
 .cases f2
theorem ynv {td ty:TE}{ed ek:XE}(b:ybt K ty ek) (a:ybt K td ed):ybt K (yph ty td) (ypl true ek ed):=by
 intro W0 W ρ σ Q z h' g e q
 obtain ⟨k,h1,e1,f1⟩:=yg e
 obtain ⟨d,h2,e2,f2⟩:=yg f1
 refine b W0 W ρ σ _ k h1 g e1 fun vk W1 w1 l1 r1=>?_
 subst w1
 refine a W0 W1 ρ σ _ d h2 (g.step l1) e2 fun vd W2 w2 l2 r2=>?_
 subst w2
 split at f2
 .rename_i ks xs j hd hk
  cases f2
  obtain ⟨p,vs,ev,hp,hl,rs⟩:=yfc l2.ok hd r2
  have:=yef hk (l2.rep r1)
  subst this
  exact ⟨p,_,ev,DGet.r hp,q _ W2 rfl (l1.trans l2) (by rw [yhL j rs hl];rfl)⟩
 .cases f2
def yeC (ed ek ev:XE):XS:=fun ρ h=>ob (ev ρ h) fun v h1=>ob (ed ρ h1) fun d h2=>ob (ek ρ h2) fun k h3=>match d,keyOf k with
 | .loc n,some j=>(match h3[n]? with|some (.dct ks xs)=>if ks.length<1000 then some (.nx ρ,h3.set n (.dct (ycq ks xs j v).1 (ycq ks xs j v).2)) else none|_=>none)
 | _,_=>none
theorem ysj {td ty tv:TE}{ed ek ev:XE}(a:ybt K td ed) (b:ybt K ty ek) (c:ybt K tv ev):yee K (yyR td ty tv) (yeC ed ek ev):=by
 intro W0 W ρ σ D o h' g e q
 obtain ⟨v,h1,e1,f1⟩:=yg e
 obtain ⟨x,h2,e2,f2⟩:=yg f1
 obtain ⟨i,h3,e3,f3⟩:=yg f2
 refine c W0 W ρ σ _ v h1 g e1 fun vv W1 w1 l1 r1=>?_
 subst w1
 refine a W0 W1 ρ σ _ x h2 (g.step l1) e2 fun vx W2 w2 l2 r2=>?_
 subst w2
 refine b W0 W2 ρ σ _ i h3 (g.step (l1.trans l2)) e3 fun vi W3 w3 l3 r3=>?_
 subst w3
 have w:=l3.ok
 split at f3
 .rename_i n j hk
  split at f3
  .rename_i ks xs hn
   split at f3
   .rename_i hc
    cases f3
    obtain ⟨p,ep,hm,hf,us,hp,hl,rs⟩:=w.loc hn (l3.rep r2)
    have:=yef hk r3
    subst this
    have hput:=ysh j vv ks us hl
    have rv:=(l2.trans l3).rep r1
    have key:∃ us',putK (ks.zip us) j vv=(ycq ks xs j v).1.zip us'/\us'.length=(ycq ks xs j v).1.length/\ycn K W3 (ycq ks xs j v).2 us':=by
     unfold ycq
     by_cases hj:yqX ks j=true
     .rw [if_pos hj] at hput ⊢
      exact ⟨_,hput,by rw [ymm];exact hl,rs.setK ks j rv⟩
     .rw [if_neg hj] at hput ⊢
      exact ⟨_,hput,by rw [length_append,length_append,hl];rfl,rs.snoc rv⟩
    obtain ⟨us',p1,p2,p3⟩:=key
    refine ⟨p,_,ep,DPut.k hp (by rw [length_zip,hl];exact ygF (by omega)),?_⟩
    rw [p1]
    have l4:Le K W3 (yjK W3 n p (.dK ((ycq ks xs j v).1.zip us')) (.dct (ycq ks xs j v).1 (ycq ks xs j v).2)):=yfJ w hn hm hf ⟨hf,us',yu,p2,p3⟩
    have l:=l1.trans (l2.trans (l3.trans l4))
    exact q _ σ rfl l.lf (g.step l)
   .cases f3
  .cases f3
 .cases f3
def yip:XO:=fun _ h=>some (.dct [] [],h)
theorem ysk:ymc K ytU yip:=by
 intro W0 W ρ σ Q d h' g e q
 cases e
 intro p hp
 exact q p (yfT W p (.dK [])) rfl (ycO g.ok hp) (g.ok.out hp) hp (fun z=>by cases z) ⟨g.ok.ff hp,[],yu,rfl,rfl⟩
def ymn (ed ek ex:XE):XE:=fun ρ h=>ob (ed ρ h) fun d h1=>if (ykz d h1).isSome=true then ob (ek ρ h1) fun k h2=>ob (ex ρ h2) fun y h3=>(match ykz d h3,keyOf k with|some (ks,xs),some j=>some ((yer ks xs j).getD y,h3)|_,_=>none) else none
theorem ypm {td ty tx:TE}{ed ek ex:XE}(a:ybt K td ed) (b:ybt K ty ek) (c:ybt K tx ex):ybt K (ytV td ty tx) (ymn ed ek ex):=by
 intro W0 W ρ σ Q z h' g e q
 obtain ⟨d,h1,e1,f1⟩:=yg e
 refine a W0 W ρ σ _ d h1 g e1 fun vd W1 w1 l1 r1=>?_
 subst w1
 split at f1
 .rename_i hs
  obtain ⟨⟨ks0,xs0⟩,hd0⟩:=Option.isSome_iff_exists.mp hs
  obtain ⟨p,vs0,ev,hp0,_,_⟩:=yfc l1.ok hd0 r1
  subst ev
  refine ⟨p,rfl,.inl ⟨_,hp0⟩,?_⟩
  obtain ⟨k,h2,e2,f2⟩:=yg f1
  obtain ⟨y,h3,e3,f3⟩:=yg f2
  refine b W0 W1 ρ σ _ k h2 (g.step l1) e2 fun vk W2 w2 l2 r2=>?_
  subst w2
  refine c W0 W2 ρ σ _ y h3 (g.step (l1.trans l2)) e3 fun vy W3 w3 l3 r3=>?_
  subst w3
  split at f3
  .rename_i ks xs j hd hk
   cases f3
   obtain ⟨p',vs,ev,hp,hl,rs⟩:=yfc l3.ok hd ((l2.trans l3).rep r1)
   cases ev
   have:=yef hk (l3.rep r2)
   subst this
   refine ⟨_,DGet.r hp,q _ W3 rfl (l1.trans (l2.trans l3)) ?_⟩
   have hv:=ygu j rs hl
   cases eg:yer ks xs j with
   | none=>rw [hv.2 eg];exact r3
   | some x=>obtain ⟨v,h3,h4⟩:=hv.1 x eg;rw [h3];exact h4
  .cases f3
 .cases f1
end PX
namespace PX
open PySem L2
variable {K:Ck}
def itemsOf (x:PV) (h:AH):Option (List PV):=match x with|.tup xs=>some xs|_=>listOf x h
theorem ylq {W:Wd}(w:WOk K W) {x:PV}{v:V}{xs:List PV}(e:itemsOf x W.h=some xs) (r:ycm K W x v):∃ a vs,v=.ref a/\(SqL K.K W.H a vs\/SqT K.K W.H a vs)/\ycn K W xs vs:=by
 unfold itemsOf at e
 split at e
 .cases e
  obtain ⟨a,vs,ev,hs,rs⟩:=r
  exact ⟨a,vs,ev,.inr (ybY w hs),rs⟩
 .obtain ⟨a,vs,ev,hs,rs⟩:=yfI w e r
  exact ⟨a,vs,ev,.inl hs,rs⟩
def svs:List PV->Option (List V)
 | []=>some []
 | x::xs=>match sv x,svs xs with|some v,some vs=>some (v::vs)|_,_=>none
theorem ypn {F:Hp}{m:List Addr}:∀ {xs:List PV}{us vs:List V},svs xs=some us->RepL K F m xs vs->vs=us/\us.all ydH=true
 | [],_,_,e,r=>by cases e;exact ⟨r,rfl⟩
 | x::xs,us,_,e,⟨v,r,ev,h,l⟩=>by
  unfold svs at e
  split at e
  .rename_i u us' e1 e2
   cases e
   obtain ⟨h1,h2⟩:=ypn e2 l
   have hv:v=u:=by cases x<;>cases e1<;>exact h
   have hf:ydH u=true:=by cases x<;>cases e1<;>rfl
   exact ⟨by rw [ev,hv,h1],by rw [List.all_cons,hf,h2];rfl⟩
  .cases e
theorem yiq {x:PV}{u:V}(e:sv x=some u):ydH u=true:=by cases x<;>cases e<;>rfl
def yBX (neg:Bool):P2:=fun x y h=>match sv x,itemsOf y h with|some v,some ys=>(match svs ys with|some us=>some (.bl (if neg then !inV v us else inV v us),h)|none=>none)|_,_=>none
theorem yBY {neg:Bool}:ybU K (rIn K.K neg) (yBX neg):=by
 intro W x y v u Q z h' w rx ry e q
 unfold yBX at e
 split at e
 .rename_i v' ys ev ey
  split at e
  .rename_i us hu
   cases e
   obtain rfl:=yeF ev rx
   obtain ⟨a,vs,rfl,hs,rs⟩:=ylq w ey ry
   obtain ⟨rfl,hf⟩:=ypn hu rs
   exact ⟨a,vs,rfl,hs,yiq ev,hf,q _ W rfl (.refl w) rfl⟩
  .cases e
 .cases e
end PX
namespace PX
open PySem L2
theorem yBZ [i:Decidable True]:decide True=true:=by simp
theorem yCa [i:Decidable False]:decide False=false:=by simp
theorem yCb:(false=true)=False:=by simp
theorem yCc:(true=false)=False:=by simp
theorem ysl {g:XG}{s:XS}{xs:List PV}(I:Nat->PSt->AH->Prop) (R:PV->AH->Prop) {ρ:PSt}{h:AH}(h0:I 0 ρ h)
  (step:∀ (i:Nat) (x:PV) (ρ:PSt) (h:AH),xs[i]?=some x->I i ρ h->∃ ρ1 o h',g x ρ=some ρ1/\s ρ1 h=some (o,h')/\(match o with|.nx ρ'=>I (i+1) ρ' h'|.ct ρ'=>I (i+1) ρ' h'|.bk _=>False|.rt y=>R y h')) :
  (∃ ρ' h',yeU g s xs ρ h=some (.nx ρ',h')/\I xs.length ρ' h')\/∃ y h',yeU g s xs ρ h=some (.rt y,h')/\R y h':=by
 have key:∀ (n i:Nat) (ρ:PSt) (h:AH),i+n=xs.length->I i ρ h->(∃ ρ' h',yeU g s (xs.drop i) ρ h=some (.nx ρ',h')/\I xs.length ρ' h')\/∃ y h',yeU g s (xs.drop i) ρ h=some (.rt y,h')/\R y h':=by
  intro n
  induction n with
  | zero =>
   intro i ρ h hi hI
   have:i=xs.length:=by omega
   subst this
   rw [List.drop_length]
   exact .inl ⟨ρ,h,rfl,hI⟩
  | succ n ih =>
   intro i ρ h hi hI
   have hlt:i<xs.length:=by omega
   obtain ⟨ρ1,o,h',e1,e2,e3⟩:=step i xs[i] ρ h (List.getElem?_eq_getElem hlt) hI
   rw [List.drop_eq_getElem_cons hlt,yyH,e1,bind_some,e2,ybZ]
   cases o with
   | nx ρ'=>exact ih (i+1) ρ' h' (by omega) e3
   | ct ρ'=>exact ih (i+1) ρ' h' (by omega) e3
   | bk ρ'=>exact e3.elim
   | rt y=>exact .inr ⟨y,h',rfl,e3⟩
 simpa using key xs.length 0 ρ h (by omega) h0
theorem ylr {g:XG}{s:XS}{xs:List PV}(I:Nat->PSt->AH->Prop) {ρ:PSt}{h:AH}(h0:I 0 ρ h)
  (step:∀ (i:Nat) (x:PV) (ρ:PSt) (h:AH),xs[i]?=some x->I i ρ h->∃ ρ1 ρ' h',g x ρ=some ρ1/\(s ρ1 h=some (.nx ρ',h')\/s ρ1 h=some (.ct ρ',h'))/\I (i+1) ρ' h') :
  ∃ ρ' h',yeU g s xs ρ h=some (.nx ρ',h')/\I xs.length ρ' h':=by
 rcases ysl I (fun _ _=>False) h0 (fun i x ρ h hx hI=>by
  obtain ⟨ρ1,ρ',h',e1,e2,e3⟩:=step i x ρ h hx hI
  rcases e2 with e2|e2
  .exact ⟨ρ1,.nx ρ',h',e1,e2,e3⟩
  .exact ⟨ρ1,.ct ρ',h',e1,e2,e3⟩) with q|⟨_,_,_,q⟩
 .exact q
 .exact q.elim
theorem yjO {β:Type}{g:XG}{s:XS}{xs:List PV}(I:Nat->PSt->AH->Prop) {ρ:PSt}{h:AH}{f:Out->AH->Option β}{r:Option β}(h0:I 0 ρ h)
  (step:∀ (i:Nat) (x:PV) (ρ:PSt) (h:AH),xs[i]?=some x->I i ρ h->∃ ρ1 ρ' h',g x ρ=some ρ1/\(s ρ1 h=some (.nx ρ',h')\/s ρ1 h=some (.ct ρ',h'))/\I (i+1) ρ' h')
  (fin:∀ ρ' h',I xs.length ρ' h'->f (.nx ρ') h'=r):ob (yeU g s xs ρ h) f=r:=by
 obtain ⟨ρ',h',e,hI⟩:=ylr I h0 step
 rw [e]
 exact fin ρ' h' hI
theorem ymo {c:XT}{s:XS}{n:Nat}{ρ:PSt}{h:AH}:whl c s (n+1) ρ h=ob (c ρ h) fun k h1=>if k=true then ob (s ρ h1) fun o h2=>(match o with|.nx ρ'=>whl c s n ρ' h2|.ct ρ'=>whl c s n ρ' h2|.bk ρ'=>some (.nx ρ',h2)|.rt y=>some (.rt y,h2)) else some (.nx ρ,h1):=rfl
theorem ypo (lo:Int) (n:Nat):(ygH lo n).length=n:=by simp [ygH]
theorem yls {lo:Int}{n i:Nat}{x:PV}(h:(ygH lo n)[i]?=some x):i<n/\x=.int (lo+i):=by
 have hl:=(List.getElem?_eq_some_iff.mp h).1
 rw [ypo] at hl
 refine ⟨hl,?_⟩
 simp [ygH,hl] at h
 exact h.symm
theorem ypp {a:XA}{ρ:PSt}{h h1:AH}{j:Int}(e:a ρ h=some ([.int j],h1)) (h0:-1000000000<=j) (h2:j<=1000000000):ymf a ρ h=some (ygH 0 j.toNat,h1):=by
 unfold ymf
 rw [e,ybZ]
 show (if _ then _ else _)=_
 rw [if_pos ⟨h0,h2⟩]
theorem ydK {α:Type}{e:XE}{inn:PV->PSt}(f g:α->PV):∀ {ts:List α}{h:AH},(∀ t∈ts,e (inn (f t)) h=some (g t,h))->ygt e inn (ts.map f) h=some (ts.map g,h)
 | [],_,_=>rfl
 | t::ts,h,k=>by
  show ob (e (inn (f t)) h) (fun y h1=>ob (ygt e inn (ts.map f) h1) fun ys h2=>some (y::ys,h2))=_
  rw [k t mem_cons_self,ybZ,ydK f g fun y hy=>k y (mem_cons_of_mem _ hy),ybZ]
  rfl
theorem yyV {i:Nat}{e:XE}{ρ:PSt}{h:AH}{xs:List PV}(hx:ρ[i]?=some (.own (.lst xs))):ynp i e ρ h=ob (e ρ h) fun x h1=>if xs.length<100000 then some (.nx (ρ.set i (.own (.lst (xs++[x])))),h1) else none:=by
 unfold ynp
 rw [hx]
theorem yDe {α:Type}{a0:α}{xs:List α}:atI (a0::xs) 0=some a0:=ycD (j:=0) rfl
theorem yDI {α:Type}{a0 a1:α}{xs:List α}:atI (a0::a1::xs) 1=some a1:=ycD (j:=1) rfl
theorem yDJ {α:Type}{a0 a1 a2:α}{xs:List α}:atI (a0::a1::a2::xs) 2=some a2:=ycD (j:=2) rfl
theorem yes {h:AH}{n:Nat}{xs:List PV}(e:h[n]?=some (.lst xs)):ybe [.loc n] h=some (.lst xs,h):=by
 unfold ybe listOf
 simp only [e]
theorem yir {h:AH}{n:Nat}{xs:List PV}(e:h[n]?=some (.lst xs)):yce [.loc n] h=some (.int xs.length,h):=by
 unfold yce ymh
 simp only [e]
theorem ypq {h:AH}{n:Nat}{xs:List PV}{y:PV}(e:h[n]?=some (.lst xs)) (hl:xs.length<100000):yjL (.loc n) [y] h=some (.non,h.set n (.lst (xs++[y]))):=by
 unfold yjL
 simp only [e]
 rw [if_pos hl]
theorem yjP {h:AH}{n:Nat}{xs:List PV}(e:h[n]?=some (.lst xs)):ylp (.loc n) h=true:=by
 unfold ylp yba
 simp only [e]
end PX
namespace PX
open PySem L2
variable {K:Ck}
def ynS:P2:=fun x y h=>match x with|.tup xs=>ybD (.tup xs) y h|x=>ycp x y h
theorem yyW:ybU K (rIx K.K) ynS:=by
 intro W x y v u Q z h' w rx ry e q
 unfold ynS at e
 split at e
 .exact .inr (.inl (ybc W _ y v u Q z h' w rx ry e q))
 .exact .inl (ybV W _ y v u Q z h' w rx ry e q)
theorem ypr {xs:List PV}{i:Int}{h:AH}:ynS (.tup xs) (.int i) h=(atI xs i).bind fun v=>some (v,h):=id (by simp only [ynS,ybD];cases atI xs i<;>rfl)
theorem yps {xs:List PV}{i:Int}{h:AH}:ynS (.lst xs) (.int i) h=(atI xs i).bind fun v=>some (v,h):=id (by simp only [ynS,ycp];cases atI xs i<;>rfl)
section
variable {ta:TE}{ea:XE}
def ynw (i:Nat) (e:XE):XS:=fun ρ h=>match ρ[i]? with
 | some (.own (.lst xs))=>ob (e ρ h) fun x h1=>(match x with|.lst ys=>if xs.length+ys.length<=100000 then some (.nx (ρ.set i (.own (.lst (xs++ys)))),h1) else none|_=>none)
 | _=>none
theorem ysm (i:Nat) (a:ybt K ta ea):yee K (yob (tBM K.K "list" yot (ynP i) (ykG ta yty))) (ynw i ea):=by
 intro W0 W ρ σ D o h' g e q
 unfold ynw at e
 split at e
 .rename_i xs0 hx
  obtain ⟨x,h1,e1,f1⟩:=yg e
  split at f1
  .rename_i ys
   split at f1
   .rename_i hlen
    cases f1
    obtain ⟨p,a1,a2,a3,a4,hf,vs,hp,r⟩:=g.own i _ hx
    refine ⟨.ref p,a1,.inl ⟨rfl,_,SqL.of hp⟩,?_⟩
    refine a W0 W ρ σ _ _ _ g e1 fun v W1 w1 l1 r1=>?_
    obtain ⟨b,us,rfl,hb,rb⟩:=r1
    refine ⟨p,b,vs,us,rfl,rfl,l1.keep _ _ hp a2,l1.ok.le _ _ hb,by rw [r.len,rb.len];exact yxb hlen,?_⟩
    have g1:=g.step l1
    obtain ⟨p',b1,b2,b3,b4,b5,vs',b6,b7⟩:=g1.own i _ hx
    rw [a1] at b1
    cases b1
    rw [l1.keep _ _ hp a2] at b6
    cases b6
    exact q (yrL W1 p (.lst (vs++us))) σ w1 (yoP l1 b2) (g1.mut hx a1 b2 b3 b5 (fun z=>by cases z) ⟨b5,_,yu,b7.app rb⟩)
   .cases f1
  .cases f1
 .cases e
def ypt (i:Nat):XE:=fun ρ h=>match ρ[i]? with|some (.own (.lst xs))=>some (.int xs.length,h)|_=>none
theorem ysn (i:Nat):ybt K (tCB (yxS K.K) (ykG (ynP i) yty)) (ypt i):=by
 intro W0 W ρ σ Q x h' g e q
 unfold ypt at e
 split at e
 .rename_i xs hx
  cases e
  obtain ⟨p,a1,a2,a3,a4,hf,vs,hp,r⟩:=g.own i _ hx
  refine ⟨.ref p,a1,p,vs,rfl,.inl (SqL.of hp),?_⟩
  rw [r.len]
  exact q _ W rfl (.refl g.ok) rfl
 .cases e
end
end PX
namespace PX
open PySem L2
variable {K:Ck}
end PX
namespace PX
open PySem L2
variable {K:Ck}
def Odd (K:PySem.W.Frag) (H:Hp):Prop:=∃ a o ob,H a=some o/\K.lookup a=some ob
inductive EqR (K:PySem.W.Frag) (H:Hp):Nat->V->V->Bool->Prop where
 | flat {n:Nat}{x y:V}(fx:ydH x=true) (fy:ydH y=true):EqR K H n x y (eqV x y)
 | same {n:Nat}{a:Addr}:EqR K H n (.ref a) (.ref a) true
 | odd {n:Nat}{x y:V}{b:Bool}(h:Odd K H):EqR K H n x y b
 | nt {n:Nat}{b:Addr}{ys:List V}(hb:SqT K H b ys):EqR K H (n+1) .non (.ref b) false
 | tn {n:Nat}{b:Addr}{ys:List V}(hb:SqT K H b ys):EqR K H (n+1) (.ref b) .non false
 | lst {n:Nat}{a b:Addr}{xs ys:List V}{e:Nat->Bool}(ha:H a=some (.lst xs)) (hb:H b=some (.lst ys)) (hl:xs.length=ys.length) (hne:a≠b) (he:∀ j x y,xs[j]?=some x->ys[j]?=some y->EqR K H n x y (e j)):EqR K H (n+1) (.ref a) (.ref b) ((List.range xs.length).all e)
 | lstN {n:Nat}{a b:Addr}{xs ys:List V}(ha:H a=some (.lst xs)) (hb:H b=some (.lst ys)) (hl:xs.length≠ys.length):EqR K H (n+1) (.ref a) (.ref b) false
 | tup {n:Nat}{a b:Addr}{xs ys:List V}{e:Nat->Bool}(ha:SqT K H a xs) (hb:SqT K H b ys) (hne:a≠b) (he:∀ j x y,xs[j]?=some x->ys[j]?=some y->EqR K H n x y (e j)):EqR K H (n+1) (.ref a) (.ref b) ((List.range (min xs.length ys.length)).all e && xs.length == ys.length)
inductive RcR (K:PySem.W.Frag) (H:Hp):V->V->Bool->Prop where
 | nt {b:Addr}{ys:List V}(hb:SqT K H b ys):RcR K H .non (.ref b) false
 | tn {b:Addr}{ys:List V}(hb:SqT K H b ys):RcR K H (.ref b) .non false
 | lst {a b:Addr}{xs ys:List V}{e:Nat->Bool}(ha:H a=some (.lst xs)) (hb:H b=some (.lst ys)) (hl:xs.length=ys.length) (he:∀ j x y,xs[j]?=some x->ys[j]?=some y->EqR K H 40 x y (e j)):RcR K H (.ref a) (.ref b) ((List.range xs.length).all e)
 | lstN {a b:Addr}{xs ys:List V}(ha:H a=some (.lst xs)) (hb:H b=some (.lst ys)) (hl:xs.length≠ys.length):RcR K H (.ref a) (.ref b) false
 | tup {a b:Addr}{xs ys:List V}{e:Nat->Bool}(ha:SqT K H a xs) (hb:SqT K H b ys) (he:∀ j x y,xs[j]?=some x->ys[j]?=some y->EqR K H 40 x y (e j)):RcR K H (.ref a) (.ref b) ((List.range (min xs.length ys.length)).all e && xs.length == ys.length)
def yDf (K:PySem.W.Frag):R2:=fun x y H Q=>∃ b,RcR K H x y b/\Q (.bl b) H
def yDg (K:PySem.W.Frag):R2:=fun x y H Q=>∃ b,RcR K H x y b/\Q (.bl (!b)) H
noncomputable def yhM (f:PV->PV->Option Bool):List PV->List PV->Option Bool
 | x::xs,y::ys=>(match f x y,yhM f xs ys with|some b,some c=>some (b && c)|_,_=>none)
 | _,_=>some true
def pairE (f:PV->PV->Option Bool) (h:AH) (x y:PV):Option Bool:=match x,y with
 | .tup xs,.tup ys=>(match yhM f xs ys with|some b=>some (b && xs.length == ys.length)|none=>none)
 | .non,.tup _=>some false
 | .tup _,.non=>some false
 | x,y=>(match yba x h,yba y h with|some xs,some ys=>if xs.length=ys.length then yhM f xs ys else some false|_,_=>none)
def eqP:Nat->AH->PV->PV->Option Bool
 | 0,_,_,_=>none
 | n+1,h,x,y=>match sv x,sv y with
  | some u,some v=>some (eqV u v)
  | _,_=>pairE (eqP n h) h x y
theorem ymp:∀ {v:V},ydH v=true->eqV v v=true
 | .non,_=>rfl
 | .bl b,_=>by cases b<;>rfl
 | .int i,_=>by simp [eqV]
 | .str s,_=>by simp [eqV]
noncomputable def unV:Value->Option V
 | .none=>some .non
 | .bool b=>some (.bl b)
 | .int i _=>some (.int i)
 | .str x _=>some (.str x)
 | .bytes b _=>some (.byt b)
 | .float b _=>some (.flt b)
 | .ref a=>some (.ref a)
 | .type n=>some (.ty n)
 | _=>none
theorem ytX:∀ {v:V}{u:Value},RelV v u->unV u=some v
 | .non,_,h=>by rw [show _=Value.none from h];rfl
 | .bl _,_,h=>by rw [show _=Value.bool _ from h];rfl
 | .int _,_,⟨_,h⟩=>by rw [h];rfl
 | .str _,_,⟨_,h⟩=>by rw [h];rfl
 | .byt _,_,⟨_,h⟩=>by rw [h];rfl
 | .flt _,_,⟨_,h⟩=>by rw [h];rfl
 | .ref _,_,h=>by rw [show _=Value.ref _ from h];rfl
 | .ty _,_,h=>by rw [show _=Value.type _ from h];rfl
theorem yvM {v w:V}{u:Value}(h1:RelV v u) (h2:RelV w u):v=w:=Option.some.inj ((ytX h1).symm.trans (ytX h2))
theorem yso {vs ws:List V}{us:List Value}(h1:Vals vs us):Vals ws us->vs=ws:=by
 induction h1 generalizing ws with
 | nil=>intro h2;cases h2;rfl
 | cons r _ ih=>intro h2;cases h2 with|cons r2 t2=>rw [yvM r r2,ih t2]
theorem yyX {F H:Hp}{a:Addr}{vs ws:List V}(s:Same F H) (h1:TpAt K.K F a vs) (h2:TpAt K.K F a ws):vs=ws\/Odd K.K H:=by
 rcases h1 with h1|⟨o,its,n,e1,e2,e3,e4,e5⟩
 .rcases h2 with h2|⟨o,its,n,e1,e2,e3,e4,e5⟩
  .rw [h1] at h2;cases h2;exact .inl rfl
  .exact .inr ⟨a,_,o,s _ _ h1,e1⟩
 .rcases h2 with h2|⟨o',its',n',e1',e2',e3',e4',e5'⟩
  .exact .inr ⟨a,_,o,s _ _ h2,e1⟩
  .rw [e1] at e1';cases e1'
   rw [e3] at e3';cases e3'
   exact .inl (yso e5 e5')
theorem ygM {f:PV->PV->Option Bool}{W:Wd}(hf:∀ x y v b,f x y=some b->ycm K W x v->ycm K W y v->b=true\/Odd K.K W.H):∀ {xs ys:List PV}{vs:List V}{c:Bool},ycn K W xs vs->ycn K W ys vs->yhM f xs ys=some c->c=true\/Odd K.K W.H
 | [],_,_,_,_,_,e=>by simp [yhM] at e;exact .inl e
 | _::_,[],_,_,_,_,e=>by simp [yhM] at e;exact .inl e
 | x::xs,y::ys,_,c,⟨v,r,e1,h1,l1⟩,⟨u,q,e2,h2,l2⟩,e=>by
  rw [e1] at e2
  cases e2
  unfold yhM at e
  cases eb:f x y with
  | none=>rw [eb] at e;cases e
  | some b =>
   cases ec:yhM f xs ys with
   | none=>rw [eb,ec] at e;cases e
   | some c' =>
    rw [eb,ec] at e
    cases e
    rcases hf x y _ b eb h1 h2 with z|z
    .rcases ygM hf l1 l2 ec with z'|z'
     .exact .inl (by rw [z,z'];rfl)
     .exact .inr z'
    .exact .inr z
theorem ynx {f:PV->PV->Option Bool}{W:Wd}(w:WOk K W) (hf:∀ x y v b,f x y=some b->ycm K W x v->ycm K W y v->b=true\/Odd K.K W.H) {x y:PV}{v:V}{b:Bool}(e:pairE f W.h x y=some b) (rx:ycm K W x v) (ry:ycm K W y v):b=true\/Odd K.K W.H:=by
 unfold pairE at e
 split at e
 .rename_i xs ys
  obtain ⟨a,vs,ev,ha,ra⟩:=rx
  obtain ⟨a',vs',ev',ha',ra'⟩:=ry
  rw [ev] at ev'
  cases ev'
  rcases yyX w.le ha ha' with z|z
  .subst z
   cases ec:yhM f xs ys with
   | none=>rw [ec] at e;cases e
   | some c =>
    rw [ec] at e
    cases e
    rcases ygM hf ra ra' ec with z|z
    .left
     rw [z,<- ra.len,<- ra'.len]
     simp
    .exact .inr z
  .exact .inr z
 .obtain ⟨a',vs',ev',ha',ra'⟩:=ry
  have rx:v=.non:=rx
  rw [rx] at ev';cases ev'
 .obtain ⟨a',vs',ev',ha',ra'⟩:=rx
  have ry:v=.non:=ry
  rw [ry] at ev';cases ev'
 .split at e
  .rename_i xs ys hx hy
   obtain ⟨a,vs,ev,ha,ra⟩:=yN w hx rx
   obtain ⟨a',vs',ev',ha',ra'⟩:=yN w hy ry
   rw [ev] at ev'
   cases ev'
   rw [ha] at ha'
   cases ha'
   rw [if_pos (by rw [<- ra.len,<- ra'.len])] at e
   exact ygM hf ra ra' e
  .cases e
theorem yis {W:Wd}(w:WOk K W):∀ (n:Nat) (x y:PV) (v:V) (b:Bool),eqP n W.h x y=some b->ycm K W x v->ycm K W y v->b=true\/Odd K.K W.H
 | 0,_,_,_,_,e,_,_=>by cases e
 | n+1,x,y,v,b,e,rx,ry=>by
  unfold eqP at e
  split at e
  .rename_i u u' hu hu'
   cases e
   rw [<- yeF hu rx,<- yeF hu' ry]
   exact .inl (ymp (by rw [yeF hu rx];exact yiq hu))
  .exact ynx w (yis w n) e rx ry
theorem ygN {f:PV->PV->Option Bool}{W:Wd}{n:Nat}(hf:∀ x y v u b,f x y=some b->ycm K W x v->ycm K W y u->EqR K.K W.H n v u b):∀ {xs ys:List PV}{vs us:List V}{c:Bool},ycn K W xs vs->ycn K W ys us->yhM f xs ys=some c ->
  ∃ e:Nat->Bool,(∀ j v u,vs[j]?=some v->us[j]?=some u->EqR K.K W.H n v u (e j))/\c=(List.range (min vs.length us.length)).all e
 | [],_,_,_,c,h1,_,e=>by
  rw [show _=[] from h1]
  simp [yhM] at e
  exact ⟨fun _=>true,fun j v u hv=>by simp at hv,by simp [e]⟩
 | _::_,[],_,_,c,_,h2,e=>by
  rw [show _=[] from h2]
  simp [yhM] at e
  exact ⟨fun _=>true,fun j v u _ hu=>by simp at hu,by simp [e]⟩
 | x::xs,y::ys,_,_,c,⟨v,r,e1,h1,l1⟩,⟨u,q,e2,h2,l2⟩,e=>by
  subst e1 e2
  unfold yhM at e
  cases eb:f x y with
  | none=>rw [eb] at e;cases e
  | some b =>
   cases ec:yhM f xs ys with
   | none=>rw [eb,ec] at e;cases e
   | some c' =>
    rw [eb,ec] at e
    cases e
    obtain ⟨e',k1,k2⟩:=ygN hf l1 l2 ec
    refine ⟨fun j=>match j with|0=>b|j+1=>e' j,fun j v' u' hv hu=>?_,?_⟩
    .cases j with
     | zero =>
      simp at hv hu
      subst hv hu
      exact hf x y _ _ b eb h1 h2
     | succ j=>exact k1 j v' u' (by simpa using hv) (by simpa using hu)
    .rw [k2,length_cons,length_cons,show min (r.length+1) (q.length+1)=min r.length q.length+1 by omega,List.range_succ_eq_map,List.all_cons,List.all_map]
     rfl
theorem ymq {W:Wd}(w:WOk K W):∀ (n:Nat) (x y:PV) (v u:V) (b:Bool),eqP n W.h x y=some b->ycm K W x v->ycm K W y u->EqR K.K W.H n v u b
 | 0,_,_,_,_,_,e,_,_=>by cases e
 | n+1,x,y,v,u,b,e,rx,ry=>by
  have e0:=e
  unfold eqP at e
  split at e
  .rename_i v' u' hv hu
   cases e
   rw [yeF hv rx,yeF hu ry]
   exact .flat (yiq hv) (yiq hu)
  .unfold pairE at e
   split at e
   .rename_i xs ys _
    obtain ⟨a,vs,ev,ha,ra⟩:=rx
    obtain ⟨a',us,eu,ha',ra'⟩:=ry
    by_cases hab:a=a'
    .subst hab
     rcases yis w (n+1) _ _ v b e0 ⟨a,vs,ev,ha,ra⟩ (by rw [ev,<- eu];exact ⟨a,us,eu,ha',ra'⟩) with this|z
     .rw [this,ev,eu]
      exact .same
     .exact .odd z
    .cases ec:yhM (eqP n W.h) xs ys with
     | none=>rw [ec] at e;cases e
     | some c =>
      rw [ec] at e
      cases e
      obtain ⟨e',k1,k2⟩:=ygN (ymq w n) ra ra' ec
      rw [ev,eu,k2,<- ra.len,<- ra'.len]
      exact .tup (ybY w ha) (ybY w ha') hab k1
   .obtain ⟨a',us,eu,ha',ra'⟩:=ry
    cases e
    rw [show v=.non from rx,eu]
    exact .nt (ybY w ha')
   .obtain ⟨a',us,eu,ha',ra'⟩:=rx
    cases e
    rw [show u=.non from ry,eu]
    exact .tn (ybY w ha')
   .split at e
    .rename_i xs ys hx hy
     obtain ⟨a,vs,ev,ha,ra⟩:=yN w hx rx
     obtain ⟨a',us,eu,ha',ra'⟩:=yN w hy ry
     by_cases hab:a=a'
     .subst hab
      rcases yis w (n+1) _ _ v b e0 rx (by rw [ev,<- eu];exact ry) with this|z
      .rw [this,ev,eu]
       exact .same
      .exact .odd z
     .split at e
      .rename_i hl
       obtain ⟨e',k1,k2⟩:=ygN (ymq w n) ra ra' e
       have hl':vs.length=us.length:=by rw [ra.len,ra'.len,hl]
       rw [ev,eu,k2,<- hl',Nat.min_self]
       exact .lst ha ha' hl' hab k1
      .rename_i hl
       cases e
       rw [ev,eu]
       exact .lstN ha ha' (by rw [ra.len,ra'.len];exact hl)
    .cases e
def yyY:P2:=fun x y h=>match pairE (eqP 40 h) h x y with|some b=>some (.bl b,h)|none=>none
def yyZ:P2:=fun x y h=>match pairE (eqP 40 h) h x y with|some b=>some (.bl (!b),h)|none=>none
theorem ymr {W:Wd}(w:WOk K W) {x y:PV}{v u:V}{b:Bool}(e:pairE (eqP 40 W.h) W.h x y=some b) (rx:ycm K W x v) (ry:ycm K W y u):RcR K.K W.H v u b:=by
 unfold pairE at e
 split at e
 .rename_i xs ys
  obtain ⟨a,vs,ev,ha,ra⟩:=rx
  obtain ⟨a',us,eu,ha',ra'⟩:=ry
  cases ec:yhM (eqP 40 W.h) xs ys with
  | none=>rw [ec] at e;cases e
  | some c =>
   rw [ec] at e
   cases e
   obtain ⟨e',k1,k2⟩:=ygN (ymq w 40) ra ra' ec
   rw [ev,eu,k2,<- ra.len,<- ra'.len]
   exact .tup (ybY w ha) (ybY w ha') k1
 .obtain ⟨a',us,eu,ha',ra'⟩:=ry
  cases e
  rw [show v=.non from rx,eu]
  exact .nt (ybY w ha')
 .obtain ⟨a',us,eu,ha',ra'⟩:=rx
  cases e
  rw [show u=.non from ry,eu]
  exact .tn (ybY w ha')
 .split at e
  .rename_i xs ys hx hy
   obtain ⟨a,vs,ev,ha,ra⟩:=yN w hx rx
   obtain ⟨a',us,eu,ha',ra'⟩:=yN w hy ry
   split at e
   .rename_i hl
    obtain ⟨e',k1,k2⟩:=ygN (ymq w 40) ra ra' e
    have hl':vs.length=us.length:=by rw [ra.len,ra'.len,hl]
    rw [ev,eu,k2,<- hl',Nat.min_self]
    exact .lst ha ha' hl' k1
   .rename_i hl
    cases e
    rw [ev,eu]
    exact .lstN ha ha' (by rw [ra.len,ra'.len];exact hl)
  .cases e
theorem yCd:ybU K (yDf K.K) yyY:=by
 intro W x y v u Q z h' w rx ry e q
 unfold yyY at e
 split at e
 .rename_i b hb
  cases e
  exact ⟨b,ymr w hb rx ry,q _ W rfl (.refl w) rfl⟩
 .cases e
theorem yCe:ybU K (yDg K.K) yyZ:=by
 intro W x y v u Q z h' w rx ry e q
 unfold yyZ at e
 split at e
 .rename_i b hb
  cases e
  exact ⟨b,ymr w hb rx ry,q _ W rfl (.refl w) rfl⟩
 .cases e
end PX
namespace PX
open PySem L2
variable {K:Ck}
def ybE:XS:=fun _ _=>none
theorem ysp:yee K ytq ybE:=fun _ _ _ _ _ _ _ _ e _=>by cases e
def yl (k:Nat) (m:Str) (f:Fn) (e:XE) (as:XA):XE:=fun ρ h=>ob (e ρ h) fun x h1=>match ydX x h1 with
 | some (k',ns,_)=>if k'=k/\m∉ns then ob (as ρ h1) fun ys h2=>f (x::ys) h2 else none
 | none=>none
theorem yjQ {k n:Nat}{m:Str}{f:Fn}{ex:XK}{ta:TE}{t:TA}{ea:XE}{as:XA}(a:ybt K ta ea) (b:yky K t as) (hn:∀ ρ h xs h',as ρ h=some (xs,h')->xs.length=n) :
  ybt K (yuS (K.A k) m (spE K (n+1) f) [] ex ta t) (yl k m f ea as):=by
 intro W0 W ρ σ Q z h' g e q
 obtain ⟨x,h1,e1,f1⟩:=yg e
 refine a W0 W ρ σ _ x h1 g e1 fun v W1 w1 l1 r1=>?_
 subst w1
 split at f1
 .rename_i k' ns xs hi
  split at f1
  .rename_i hc
   obtain ⟨ys,h2,e2,f2⟩:=yg f1
   obtain ⟨p,dx,vs,ev,hp,hl,rs⟩:=yfa l1.ok hi r1
   rw [hc.1] at hp
   refine ⟨p,dx,_,ev,hp,ycY hc.2,?_⟩
   refine b W0 W1 ρ σ _ ys h2 (g.step l1) e2 fun us W2 w2 l2 r2=>?_
   subst w2
   rw [append_nil]
   exact ⟨W2,x::ys,z,h',rfl,l2.ok,⟨v,us,rfl,l2.rep r1,r2⟩,by rw [length_cons,hn _ _ _ _ e2],f2,fun u W3 w3 l3 r3=>q u W3 w3 ((l1.trans l2).trans l3) r3⟩
  .cases f1
 .cases f1
def ydn (cs:List Nat) (f:Str) (eo ev:XE):XS:=fun ρ h=>ob (ev ρ h) fun y h1=>ob (eo ρ h1) fun x h2=>match x with
 | .loc n=>(match h2[n]? with|some (.ins k ns xs)=>if k∈cs/\ns.length<1000 then some (.nx ρ,h2.set n (.ins k (putN f y ns xs).1 (putN f y ns xs).2)) else none|_=>none)
 | _=>none
theorem ysq {cs:List Nat}{f:Str}{ta tv:TE}{ea ev:XE}(hc:∀ k∈cs,Cls K.K (K.A k)/\NoAttr K.K (K.A k) f) (a:ybt K ta ea) (c:ybt K tv ev):yee K (yAK K.K ta tv f) (ydn cs f ea ev):=by
 intro W0 W ρ σ D o h' g e q
 obtain ⟨y,h1,e1,f1⟩:=yg e
 obtain ⟨x,h2,e2,f2⟩:=yg f1
 refine c W0 W ρ σ _ y h1 g e1 fun vy W1 w1 l1 r1=>?_
 subst w1
 refine a W0 W1 ρ σ _ x h2 (g.step l1) e2 fun vx W2 w2 l2 r2=>?_
 subst w2
 have w:=l2.ok
 split at f2
 .rename_i n
  split at f2
  .rename_i k ns xs hn
   split at f2
   .rename_i hk
    cases f2
    obtain ⟨p,ep,hm,hf,dx,us,hp,hl,rs⟩:=w.loc hn r2
    obtain ⟨us',p1,p2,p3⟩:=rs.putN (f:=f) hl (l2.rep r1)
    refine ⟨p,_,dx,_,ep,hp,(hc k hk.1).1,(hc k hk.1).2,by rw [length_zip,hl];simpa using hk.2,?_⟩
    rw [p1]
    have l4:Le K W2 (yjK W2 n p (.ins (K.A k) dx ((putN f y ns xs).1.zip us')) (.ins k (putN f y ns xs).1 (putN f y ns xs).2)):=yfJ w hn hm hf ⟨hf,dx,us',yu,p2,p3⟩
    have l:=l1.trans (l2.trans l4)
    exact q _ σ rfl l.lf (g.step l)
   .cases f2
  .cases f2
 .cases f2
end PX
namespace PX
open PySem L2
variable {K:Ck}
def yeD (r d:Addr):HO:=.ext fun h=>h.get? r=some { cls:=.type "dict_items",data:=.fields #[.ref d] }
noncomputable def ypu:V->List V->Hp->VK->Prop:=fun x vs H Q=>∃ d kvs,x=.ref d/\vs=[]/\H d=some (.dK kvs)/\∀ r,H r=none->Q (.ref r) (upd H r (yeD r d))
noncomputable def yms (H:Hp) (as:List Addr) (ts:List (List V)):Hp:=fun b=>match (as.zip ts).lookup b with|some t=>some (.tup t)|none=>H b
def yAr (H:Hp) (p:Addr) (as:List Addr) (ts:List (List V)):Hp:=upd (yms H as ts) p (.lst (as.map V.ref))
def rSI:List V->Hp->VK->Prop:=fun xs H Q=>∃ (r d:Addr) (kvs:List (Key×V)) (ns:List Int),xs=[.ref r]/\H r=some (yeD r d)/\H d=some (.dK kvs)/\kvs.map (·.1)=ns.map .inl/\kvs.length<64 /\
 ∀ (p:Addr) (as:List Addr) (q:List Nat),q.Perm (List.range ns.length)->q.Pairwise (fun i j=>ns.getD i 0<=ns.getD j 0)->ns.Nodup->as.length=q.length->(∀ a∈p::as,H a=none)->(p::as).Nodup ->
  Q (.ref p) (yAr H p as (q.map fun i=>[V.int (ns.getD i 0),(kvs.map (·.2)).getD i .non]))
def yxe (p:Int×PV):List (Int×PV)->List (Int×PV)
 | []=>[p]
 | q::r=>if p.1<=q.1 then p::q::r else q::yxe p r
def yny:List (Int×PV)->List (Int×PV)
 | []=>[]
 | p::r=>yxe p (yny r)
def ypv:List Key->Option (List Int)
 | []=>some []
 | .inl i::r=>(ypv r).map (i::·)
 | .inr _::_=>none
theorem ymt:∀ {ks:List Key}{ns:List Int},ypv ks=some ns->ks=ns.map .inl
 | [],ns,h=>by cases h;rfl
 | .inl i::r,ns,h=>by
  obtain ⟨m,e,rfl⟩:=Option.map_eq_some_iff.mp h
  rw [map_cons,<- ymt e]
 | .inr _::_,_,h=>by cases h
theorem ygO (p:Int×PV):∀ l,(yxe p l).Perm (p::l)
 | []=>.refl _
 | q::r=>by
  unfold yxe
  split
  .exact .refl _
  .exact ((ygO p r).cons q).trans (.swap _ _ _)
theorem yet:∀ l,(yny l).Perm l
 | []=>.refl _
 | p::r=>(ygO p _).trans ((yet r).cons p)
theorem ypw {p:Int×PV}:∀ {l:List (Int×PV)},l.Pairwise (fun a b=>a.1<=b.1)->(yxe p l).Pairwise (fun a b=>a.1<=b.1)
 | [],_=>List.pairwise_singleton _ _
 | q::r,h=>by
  obtain ⟨h1,h2⟩:=List.pairwise_cons.mp h
  unfold yxe
  split
  .rename_i hc
   exact List.pairwise_cons.mpr ⟨fun b hb=>by
    rcases mem_cons.mp hb with rfl|hb
    .exact hc
    .exact Int.le_trans hc (h1 b hb),h⟩
  .rename_i hc
   refine List.pairwise_cons.mpr ⟨fun b hb=>?_,ypw h2⟩
   rcases mem_cons.mp ((ygO p r).mem_iff.mp hb) with rfl|hb
   .omega
   .exact h1 b hb
theorem ymu:∀ l,(yny l).Pairwise (fun a b=>a.1<=b.1)
 | []=>.nil
 | _::r=>ypw (ymu r)
theorem ysr {ns:List Int}{xs:List PV}{q:List Nat}(hl:xs.length=ns.length) (hp:q.Perm (List.range ns.length)) (hs:q.Pairwise fun i j=>ns.getD i 0<=ns.getD j 0) (nd:ns.Nodup) :
  (q.map fun i=>(ns.getD i 0,xs.getD i .non))=yny (ns.zip xs):=by
 have hz:((List.range ns.length).map fun i=>(ns.getD i 0,xs.getD i .non))=ns.zip xs:=by
  apply List.ext_getElem
  .simp [hl]
  .intro i h1 h2
   have h3:i<ns.length:=by simpa using h1
   simp [getD,List.getElem?_eq_getElem h3,List.getElem?_eq_getElem (show i<xs.length by omega)]
 have hm:(q.map fun i=>(ns.getD i 0,xs.getD i .non)).Perm (ns.zip xs):=by rw [<- hz];exact hp.map _
 have hk:(ns.zip xs).map (·.1)=ns:=List.map_fst_zip (by omega)
 refine List.Perm.eq_of_pairwise (le:=fun a b=>a.1<=b.1) (fun a b ha hb h1 h2=>?_) (List.pairwise_map.mpr hs) (ymu _) (hm.trans (yet _).symm)
 have ha:=hm.mem_iff.mp ha
 have hb:=(yet _).mem_iff.mp hb
 obtain ⟨i,hi,rfl⟩:=getElem_of_mem ha
 obtain ⟨j,hj,rfl⟩:=getElem_of_mem hb
 have hi':i<ns.length:=by rw [length_zip] at hi;omega
 have hj':j<ns.length:=by rw [length_zip] at hj;omega
 have e:ns[i]=ns[j]:=by
  have:((ns.zip xs)[i]).1=((ns.zip xs)[j]).1:=Int.le_antisymm h1 h2
  simpa using this
 have:=yjJ nd hi' hj' e
 subst this
 rfl
def yDh (W:Wd) (as:List Addr) (ts:List (List V)):Wd:=⟨yms W.F as ts,yms W.H as ts,W.m,W.h⟩
theorem lookup_mem {α:Type}:∀ {as:List Addr}{ts:List α}{b:Addr}{t:α},(as.zip ts).lookup b=some t->b∈as
 | [],_,_,_,h=>by simp at h
 | _::_,[],_,_,h=>by simp at h
 | a::as,u::ts,b,t,h=>by
  rw [zip_cons_cons,lookup_cons] at h
  split at h
  .rename_i hb;rw [eq_of_beq hb];exact mem_cons_self
  .exact mem_cons_of_mem _ (lookup_mem h)
theorem yfK {H:Hp}{as:List Addr}{ts:List (List V)}{b:Addr}(h:b∉as):yms H as ts b=H b:=by
 unfold yms
 split
 .rename_i e;exact absurd (lookup_mem e) h
 .rfl
theorem yvN {W:Wd}{as:List Addr}{ts:List (List V)}(w:WOk K W) (h:∀ a∈as,W.H a=none):Le K W (yDh W as ts):=by
 have nm:∀ a∈as,a∉W.m:=fun a ha=>w.out (h a ha)
 have sF:Same W.F (yms W.F as ts):=fun b o e=>by
  rw [yfK fun z=>by rw [w.ff (h b z)] at e;cases e];exact e
 have sH:Same W.H (yms W.H as ts):=fun b o e=>by
  rw [yfK fun z=>by rw [h b z] at e;cases e];exact e
 refine ⟨⟨?_,w.len,w.nd,fun n d a e1 e2=>?_⟩,sF,prefix_refl _,fun b u e _=>sH b u e,fun b u e _ f=>?_,fun b z n=>absurd z n,fun n ks xs e1=>⟨e1,fun a e2=>yfK fun z=>nm a z (mem_of_getElem? e2)⟩⟩
 .intro b u e
  have e:yms W.F as ts b=some u:=e
  show yms W.H as ts b=some u
  unfold yms at e ⊢
  split at e
  .exact e
  .exact w.le _ _ e
 .have ha:a∉as:=fun z=>nm a z (mem_of_getElem? e2)
  exact (w.at_ n d a e1 e2).mono sF (prefix_refl _) (fun u e=>sH _ _ e) fun f=>(yfK ha).trans f
 .exact (yfK fun z=>by rw [h b z] at e;cases e).trans f
theorem yjR {F:Hp}{m:List Addr}{Y:Nat->PV}{T:Nat->List V}{Z:Nat->List PV}(hY:∀ i,Y i=.tup (Z i)):∀ (as:List Addr) (q:List Nat),as.length=q.length->as.Nodup->(∀ a∈as,∀ i,i∈q->(as.zip (q.map T)).lookup a=some (T i)->F a=some (.tup (T i))) ->
  (∀ i∈q,RepL K F m (Z i) (T i))->RepL K F m (q.map Y) (as.map V.ref)
 | [],[],_,_,_,_=>rfl
 | [],_::_,h,_,_,_=>by cases h
 | _::_,[],h,_,_,_=>by cases h
 | a::as,i::q,hl,hn,hF,hR=>by
  obtain ⟨n1,n2⟩:=List.nodup_cons.mp hn
  refine ⟨.ref a,_,rfl,?_,yjR hY as q (by simpa using hl) n2 (fun b hb j hj e=>?_) fun j hj=>hR j (mem_cons_of_mem _ hj)⟩
  .rw [hY]
   exact ⟨a,T i,rfl,.inl (hF a mem_cons_self i mem_cons_self (by simp)),hR i mem_cons_self⟩
  .refine hF b (mem_cons_of_mem _ hb) j (mem_cons_of_mem _ hj) ?_
   rw [map_cons,zip_cons_cons,lookup_cons]
   have:(b == a)=false:=beq_eq_false_iff_ne.mpr fun z=>n1 (z ▸ hb)
   rw [this]
   exact e
noncomputable def sortI (ks:List Key) (xs:List PV):Option (List PV):=match ypv ks with|some ns=>if ns.length<64 then some ((yny (ns.zip xs)).map fun p=>.tup [.int p.1,p.2]) else none|none=>none
def ydx (e:XE):XO:=fun ρ h=>ob (e ρ h) fun x h1=>match yjM x h1 with|some (ks,xs)=>(match sortI ks xs with|some l=>some (.lst l,h1)|none=>none)|none=>none
theorem ytY {W:Wd}{x:PV}{v:V}{ks:List Key}{xs:List PV}(w:WOk K W) (e:yjM x W.h=some (ks,xs)) (r:ycm K W x v):tyV K.K "dict" v W.H:=by
 obtain ⟨a,vs,rfl,hp,_⟩:=yjN w e r
 exact .inr (.inr (.inl ⟨rfl,.inl ⟨_,hp⟩⟩))
theorem ypx {ta:TE}{ea:XE}(a:ybt K ta ea):ymc K (tCB rSI (ykG (yAQ K.K "dict" ypu ta) yty)) (ydx ea):=by
 intro W0 W ρ σ Q z h' g e q
 obtain ⟨x,h1,e1,f1⟩:=yg e
 refine a W0 W ρ σ _ x h1 g e1 fun v W1 w1 l1 r1=>?_
 subst w1
 split at f1
 .rename_i ks xs hd
  split at f1
  .rename_i l hl
   cases f1
   refine ⟨ytY l1.ok hd r1,?_⟩
   obtain ⟨d,vs,ev,hp,hvl,rs⟩:=yjN l1.ok hd r1
   subst ev
   refine ⟨d,_,rfl,rfl,hp,fun r hr=>?_⟩
   unfold sortI at hl
   split at hl
   .rename_i ns hk
    split at hl
    .rename_i h64
     cases hl
     have hk:=ymt hk
     have l2:=ycO (o:=yeD r d) l1.ok hr
     have hnl:ks.length=ns.length:=by rw [hk,length_map]
     have hxl:xs.length=ns.length:=by rw [<- rs.len];omega
     show rSI [.ref r] (upd W1.H r (yeD r d)) Q
     refine ⟨r,d,ks.zip vs,ns,rfl,yu,(yy (yZ hp hr)).trans hp,by rw [List.map_fst_zip (by omega),hk],by rw [length_zip];omega,fun p as o hperm hs nd hal hfree hnd=>?_⟩
     rw [List.map_snd_zip (by omega)]
     generalize hW2:yfT W1 r (yeD r d)=W2 at l2
     have hH2:W2.H=upd W1.H r (yeD r d):=by rw [<- hW2];rfl
     rw [<- hH2] at hfree ⊢
     have l3:=yvN (ts:=o.map fun i=>[V.int (ns.getD i 0),vs.getD i .non]) l2.ok fun a ha=>hfree a (mem_cons_of_mem _ ha)
     obtain ⟨n1,n2⟩:=List.nodup_cons.mp hnd
     have hp3:(yDh W2 as (o.map fun i=>[V.int (ns.getD i 0),vs.getD i .non])).H p=none:=(yfK n1).trans (hfree p mem_cons_self)
     have l4:=ycO (o:=.lst (as.map V.ref)) l3.ok hp3
     have l:=l2.trans (l3.trans l4)
     have inq:∀ i∈o,i<ns.length:=fun i hi=>by have:=hperm.mem_iff.mp hi;simpa using this
     refine q p _ (by rw [<- hW2];rfl) (l1.trans l) (l3.ok.out hp3) ((l1.trans l2).fresh (hfree p mem_cons_self)) (fun z=>by cases z) ⟨l3.ok.ff hp3,_,yu,?_⟩
     rw [<- ysr hxl hperm hs nd,map_map]
     refine yjR (T:=fun i=>[V.int (ns.getD i 0),vs.getD i .non]) (Z:=fun i=>[.int (ns.getD i 0),xs.getD i .non]) (fun i=>rfl) as o hal n2 (fun a ha i hi e=>?_) fun i hi=>⟨_,_,rfl,rfl,_,_,rfl,?_,rfl⟩
     .show yms W2.F as _ a=_
      unfold yms
      rw [e]
     .have hi':=inq i hi
      obtain ⟨u,h3,h4⟩:=(l2.trans (l3.trans l4)).repL rs |>.get (List.getElem?_eq_getElem (show i<xs.length by omega))
      have e5:xs.getD i .non=xs[i]'(by omega):=by simp [getD,List.getElem?_eq_getElem (show i<xs.length by omega)]
      have e6:vs.getD i .non=u:=by simp [getD,h3]
      rw [e5,e6]
      exact h4
    .cases hl
   .cases hl
  .cases f1
 .cases f1
end PX
namespace PX
open PySem L2
variable {K:Ck}
def ItR (K:PySem.W.Frag) (a:Addr) (m:Nat):It :=
 ⟨fun i H=>i<m/\∃ xs x,SqL K H a xs/\xs[m-1-i]?=some x,fun i H x H'=>H'=H/\∀ xs,SqL K H a xs->xs[m-1-i]?=some x,fun i _=>i=m⟩
def yDi (K:PySem.W.Frag) (tl:TE):TI:=fun σ H R=>tl σ H fun x H1=>∃ a xs,x=.ref a/\SqL K H1 a xs/\R (ItR K a xs.length) H1
def ykA (n:Nat) (rev:Bool) (g:XG) (s:XS):Nat->Nat->PSt->AH->Option (Out×AH)
 | 0,i,ρ,h=>match h[n]? with|some (.lst xs)=>if xs.length=i then some (.nx ρ,h) else none|_=>none
 | k+1,i,ρ,h=>match h[n]? with
  | some (.lst xs)=>(match xs[if rev then k else i]? with
   | some x=>(g x ρ).bind fun ρ1=>ob (s ρ1 h) fun o h1=>match o with|.nx ρ'=>ykA n rev g s k (i+1) ρ' h1|.ct ρ'=>ykA n rev g s k (i+1) ρ' h1|.bk ρ'=>some (.nx ρ',h1)|.rt y=>some (.rt y,h1)
   | none=>none)
  | _=>none
def yit (rev:Bool) (e:XE) (g:XG) (s:XS):XS:=fun ρ h=>ob (e ρ h) fun x h1=>match x with
 | .loc n=>(match h1[n]? with|some (.lst xs)=>ykA n rev g s xs.length 0 ρ h1|_=>none)
 | _=>none
structure ItX (K:Ck) (n:Nat) (rev:Bool) (m:Nat) (a:Addr) (J:It):Prop where
 go:∀ (i:Nat) (H:Hp) (vs:List V) (v:V),H a=some (.lst vs)->i<m->vs[if rev then m-1-i else i]?=some v->J.go i H
 yld:∀ (i:Nat) (H:Hp) (vs:List V) (v:V) (H2:Hp),H a=some (.lst vs)->i<m->J.yld i H v H2->H2=H/\vs[if rev then m-1-i else i]?=some v
 stop:∀ (H:Hp) (vs:List V),H a=some (.lst vs)->vs.length=m->J.stop m H
section
variable {ta:TE}{ea:XE}{t:TS}{s:XS}
theorem yjS {n:Nat}{xs:List PV}{p:Addr}{us:List V}{J:It}{rev:Bool}{g:TG}{y:XG}(b:ynQ K g y) (c:yee K t s) {W0 W W1:Wd}{ρ:PSt}{σ:St}{D:Ends}{o:Out}{h':AH}(gd:Good K W0 W ρ σ) (l1:Le K W W1) (q:Ends.Ok K W0 W D h' o)
  (f1:ykA n rev y s xs.length 0 ρ W1.h=some (o,h')) (hn:W1.h[n]?=some (.lst xs)) (hm:W1.m[n]?=some p) (rs:ycn K W1 xs us) (J1:ItX K n rev us.length p J) :
  ∃ Z:Nat->Nat->St->Hp->Prop,(∃ m,Z 0 m σ W1.H)/\∀ i m σ H,Z i m σ H ->
   (J.stop i H/\D.nx σ H)\/(J.go i H/\∃ N:St->Hp->Prop,(∀ σ' H',N σ' H'->∃ m',m'<m/\Z (i+1) m' σ' H')/\∀ x H',J.yld i H x H'->g x σ H' fun σ2 H2=>t { D with nx:=N,ct:=N,bk:=D.nx } σ2 H2):=by
   have q1:=q.from_ l1.lf
   have hul:us.length=xs.length:=rs.len
   rw [hul] at J1
   refine ⟨fun i m σ H=>m=xs.length-i/\i<=xs.length/\∃ W' ρ',W'.H=H/\Lf K W1 W'/\Good K W0 W' ρ' σ/\ykA n rev y s (xs.length-i) i ρ' W'.h=some (o,h'),⟨_,rfl,zero_le _,W1,ρ,rfl,.refl,gd.step l1,f1⟩,?_⟩
   rintro i m σ _ ⟨rfl,hi,W',ρ',rfl,l,g',f⟩
   have hm':W'.m[n]?=some p:=ydI l.pre hm
   by_cases hlt:i<xs.length
   .obtain ⟨k,hk⟩:∃ k,xs.length-i=k+1:=⟨xs.length-i-1,by omega⟩
    rw [hk] at f
    unfold ykA at f
    split at f
    .rename_i ys hy
     split at f
     .rename_i z hz
      obtain ⟨p',ev',hm2,hf',vs,hp',rs'⟩:=g'.ok.loc hy (v:=.ref p) ⟨p,rfl,hm'⟩
      cases ev'
      have hix:(if rev=true then xs.length-1-i else i)=(if rev=true then k else i):=by rw [show xs.length-1-i=k by omega]
      obtain ⟨vz,hv1,hv2⟩:=rs'.get hz
      obtain ⟨ρ1,k1,f⟩:=Option.bind_eq_some_iff.mp f
      obtain ⟨o1,h2,k2,f3⟩:=yg f
      refine .inr ⟨J1.go i W'.H vs vz hp' hlt (by rw [hix];exact hv1),fun σ2 H2=>i+1<=xs.length/\∃ W2 ρ2,W2.H=H2/\Lf K W1 W2/\Good K W0 W2 ρ2 σ2/\ykA n rev y s (xs.length-(i+1)) (i+1) ρ2 W2.h=some (o,h'),fun σ2 H2 ⟨n1,n2⟩=>⟨xs.length-(i+1),by omega,rfl,n1,n2⟩,fun v H2 hy=>?_⟩
      obtain ⟨rfl,hx⟩:=J1.yld i W'.H vs v H2 hp' hlt hy
      rw [hix,hv1] at hx
      cases hx
      have ek:xs.length-(i+1)=k:=by omega
      refine b W0 W' ρ' ρ1 σ _ vz _ g' hv2 k1 fun σ2 g2=>?_
      refine c W0 W' ρ1 σ2 _ o1 h2 g2 k2 ?_
      cases o1 with
      | nx ρ2=>exact fun W2 σ3 w2 l2 g3=>⟨hlt,W2,ρ2,rfl,l.trans l2,g3,by rw [w2,ek];exact f3⟩
      | ct ρ2=>exact fun W2 σ3 w2 l2 g3=>⟨hlt,W2,ρ2,rfl,l.trans l2,g3,by rw [w2,ek];exact f3⟩
      | bk ρ2=>cases f3;exact fun W2 σ3 w2 l2 g3=>q1 W2 σ3 w2 (l.trans l2) g3
      | rt x=>cases f3;exact q1
     .cases f
    .cases f
   .have ei:i=xs.length:=by omega
    subst ei
    rw [sub_self] at f
    unfold ykA at f
    split at f
    .rename_i ys hy
     obtain ⟨p',ev',hm2,hf',vs,hp',rs'⟩:=g'.ok.loc hy (v:=.ref p) ⟨p,rfl,hm'⟩
     cases ev'
     split at f
     .rename_i hyl
      cases f
      exact .inl ⟨J1.stop W'.H vs hp' (by rw [rs'.len,hyl]),q1 W' σ rfl l g'⟩
     .cases f
    .cases f
theorem yCf {n m:Nat}{a:Addr}:ItX K n false m a (Itl K.K a) where
 go:=fun i H vs v h _ e=>⟨vs,v,SqL.of h,e⟩
 yld:=fun i H vs v H2 h _ e=>⟨e.1,e.2 vs (SqL.of h)⟩
 stop:=fun H vs h e=>⟨vs,SqL.of h,le_of_eq e⟩
theorem yCg {n m:Nat}{a:Addr}:ItX K n true m a (ItR K.K a m) where
 go:=fun i H vs v h hi e=>⟨hi,vs,v,SqL.of h,e⟩
 yld:=fun i H vs v H2 h _ e=>⟨e.1,e.2 vs (SqL.of h)⟩
 stop:=fun H vs h e=>rfl
theorem yss {g:TG}{y:XG}(a:ybt K ta ea) (b:ynQ K g y) (c:yee K t s):yee K (yxI (yuJ K.K ta) g t) (yit false ea y s):=by
 intro W0 W ρ σ D o h' gd e q
 obtain ⟨x,h1,e1,f1⟩:=yg e
 refine a W0 W ρ σ _ x h1 gd e1 fun v W1 w1 l1 r1=>?_
 subst w1
 split at f1
 .rename_i n
  split at f1
  .rename_i xs hn
   obtain ⟨p,ev,hm,hf,us,hp,rs⟩:=l1.ok.loc hn r1
   exact ⟨p,ev,⟨us,SqL.of hp⟩,yjS b c gd l1 q f1 hn hm rs yCf⟩
  .cases f1
 .cases f1
theorem yst {g:TG}{y:XG}(a:ybt K ta ea) (b:ynQ K g y) (c:yee K t s):yee K (yxI (yDi K.K ta) g t) (yit true ea y s):=by
 intro W0 W ρ σ D o h' gd e q
 obtain ⟨x,h1,e1,f1⟩:=yg e
 refine a W0 W ρ σ _ x h1 gd e1 fun v W1 w1 l1 r1=>?_
 subst w1
 split at f1
 .rename_i n
  split at f1
  .rename_i xs hn
   obtain ⟨p,ev,hm,hf,us,hp,rs⟩:=l1.ok.loc hn r1
   exact ⟨p,us,ev,SqL.of hp,yjS b c gd l1 q f1 hn hm rs yCg⟩
  .cases f1
 .cases f1
end
end PX
namespace PX
open PySem L2
variable {K:Ck}
end PX
namespace PX
open PySem L2
variable {K:Ck}
noncomputable def yza (J:It) (tc:TT) (te:TE) (inn:V->St) (D:Addr) (Q:VK) (H:Hp):Prop:=∃ W:Nat->Nat->Hp->Prop,(∃ m,W 0 m H)/\∀ i m H,W i m H ->
 (J.stop i H/\Q (.ref D) H)\/(J.go i H/\∀ x H',J.yld i H x H'->tc (inn x) H' fun b H1=>if b=true then te (inn x) H1 fun y H2=>∃ acc,H2 D=some (.lst acc)/\acc.length<sizeLine/\∃ m',m'<m/\W (i+1) m' (upd H2 D (.lst (acc++[y]))) else ∃ m',m'<m/\W (i+1) m' H1)
def yjT (wi:TI) (ix:List Nat) (tc:TT) (te:TE):TE:=fun σ H Q=>wi σ H fun J H1=>∀ D,H1 D=none->yza J tc te (inner ix σ) D Q (upd H1 D (.lst []))
end PX
namespace PX
open PySem L2
variable {K:Ck}
end PX
namespace PX
open PySem L2
variable {K:Ck}
def ygh:Key->PV|.inl i=>.int i|.inr s=>.str s
theorem yjU {W:Wd}(k:Key):ycm K W (ygh k) (kV k):=by cases k<;>exact rfl
def ItD (a:Addr) (ob:Obj) (kvs:List (Key×V)):It :=
 ⟨fun i H=>i<kvs.length/\H a=some (.frz ob (.dK kvs)),fun i H x H'=>H'=H/\∃ kv,kvs[i]?=some kv/\x=kV kv.1,fun i H=>i=kvs.length/\H a=some (.frz ob (.dK kvs))⟩
def yzb (NF:Addr->Prop) (te:TE):TI:=fun σ H R=>te σ H fun x H1=>∃ a kvs,x=.ref a/\H1 a=some (.dK kvs)/\∀ ob,NF a->R (ItD a ob kvs) (upd H1 a (.frz ob (.dK kvs)))
def yzc (NF:Addr->Prop) (D:Ends):Ends:=⟨fun σ H=>∃ a ob kvs,NF a/\H a=some (.frz ob (.dK kvs))/\D.nx σ (upd H a (.dK kvs)),D.rt,D.bk,D.ct⟩
theorem yvO {W:Wd}(w:WOk K W) {n:Nat}{d d':Nd}{a:Addr}{o:HO}(e:W.h[n]?=some d) (hm:W.m[n]?=some a) (hF:W.F a=none) (at':NdAt K W.F (upd W.H a o) W.m d' a):WOk K (yjK W n a o d'):=by
 have hn:n<W.h.length:=(List.getElem?_eq_some_iff.mp e).1
 refine ⟨fun b u q=>?_,by show W.m.length=(W.h.set n d').length;rw [length_set];exact w.len,w.nd,fun j dj b e1 e2=>?_⟩
 .have:b≠a:=yZ q hF
  exact (yy this).trans (w.le _ _ q)
 .have e1:(W.h.set n d')[j]?=some dj:=e1
  by_cases hj:n=j
  .subst hj
   rw [getElem?_set_self hn] at e1
   cases e1
   have e2:W.m[n]?=some b:=e2
   rw [hm] at e2
   cases e2
   exact at'
  .rw [getElem?_set_ne hj] at e1
   have e2:W.m[j]?=some b:=e2
   have hb:b≠a:=fun z=>by
    subst z
    obtain ⟨l1,q1⟩:=List.getElem?_eq_some_iff.mp hm
    obtain ⟨l2,q2⟩:=List.getElem?_eq_some_iff.mp e2
    exact hj (yjJ w.nd l1 l2 (q1.trans q2.symm))
   exact (w.at_ j dj b e1 e2).mono (Same.refl _) (prefix_refl _) (fun u q=>(yy hb).trans q) id
theorem ypy {W0 W':Wd}(w:WOk K W') (pre:W0.m <+: W'.m) (fz:∀ (n:Nat) (ks:List Key) (xs:List PV),W0.h[n]?=some (.fz ks xs)->W'.h[n]?=some (.fz ks xs)/\∀ a,W0.m[n]?=some a->W'.H a=W0.H a)
  {n:Nat}{a:Addr}{o:HO}{d:Nd}(hm:W'.m[n]?=some a) (n0:∀ ks xs,W0.h[n]?≠some (.fz ks xs)) (j:Nat) (ks:List Key) (xs:List PV) (e1:W0.h[j]?=some (.fz ks xs)) :
  (yjK W' n a o d).h[j]?=some (.fz ks xs)/\∀ b,W0.m[j]?=some b->(yjK W' n a o d).H b=W0.H b:=by
 obtain ⟨h1,h2⟩:=fz j ks xs e1
 have hj:n≠j:=fun z=>by subst z;exact n0 _ _ e1
 refine ⟨(getElem?_set_ne hj).trans h1,fun b e2=>(yy fun z=>?_).trans (h2 b e2)⟩
 subst z
 obtain ⟨l1,q1⟩:=List.getElem?_eq_some_iff.mp hm
 obtain ⟨l2,q2⟩:=List.getElem?_eq_some_iff.mp (ydI pre e2)
 exact hj (yjJ w.nd l1 l2 (q1.trans q2.symm))
theorem ypz {W0 W':Wd}(l:Le K W0 W') {n:Nat}{a:Addr}{o:HO}{d d':Nd}(e:W'.h[n]?=some d) (hm:W'.m[n]?=some a) (hF:W'.F a=none) (at':NdAt K W'.F (upd W'.H a o) W'.m d' a) (n0:∀ ks xs,W0.h[n]?≠some (.fz ks xs)):Le K W0 (yjK W' n a o d') where
 ok:=yvO l.ok e hm hF at'
 fs:=l.fs
 pre:=l.pre
 keep:=fun b u q hb=>by
  have:b≠a:=fun z=>by
   subst z
   rw [l.mn b (mem_of_getElem? hm) hb] at q
   cases q
  exact (yy this).trans (l.keep b u q hb)
 new:=l.new
 mn:=l.mn
 fz:=ypy l.ok l.pre l.fz hm n0
theorem Good.thaw {W0 W':Wd}{ρ:PSt}{σ:St}(g:Good K W0 W' ρ σ) {n:Nat}{a:Addr}{o:HO}{d d':Nd}(e:W'.h[n]?=some d) (hm:W'.m[n]?=some a) (hF:W'.F a=none) (at':NdAt K W'.F (upd W'.H a o) W'.m d' a) (n0:∀ ks xs,W0.h[n]?≠some (.fz ks xs)):Good K W0 (yjK W' n a o d') ρ σ where
 le:=ypz g.le e hm hF at' n0
 len:=g.len
 val:=g.val
 own:=fun i d1 e1=>by
  obtain ⟨p,h1,h2,h3,h4,h5⟩:=g.own i d1 e1
  have hp:p≠a:=fun z=>h2 (z ▸ mem_of_getElem? hm)
  exact ⟨p,h1,h2,h3,h4,h5.mono (Same.refl _) (prefix_refl _) (fun u q=>(yy hp).trans q) id⟩
 ne:=g.ne
theorem ytZ {W W1:Wd}(l:Le K W W1) {n:Nat}{d:Nd}(e:W1.h[n]?=some d) (nf:∀ ks xs,d≠.fz ks xs) (ks:List Key) (xs:List PV):W.h[n]?≠some (.fz ks xs):=fun z=>by
 have:=(l.fz n ks xs z).1
 rw [e] at this
 cases this
 exact nf _ _ rfl
section
variable {ta:TE}{ea:XE}{t:TS}{s:XS}
end
end PX
namespace PX
open PySem L2
variable {K:Ck}
def spJ (K:Ck) (n k:Nat) (f:List PV->AH->Option (Nd×AH)):Sp:=fun vs H Q _=>∃ (W0 W:Wd) (x:Addr) (args:List V) (xs:List PV) (d:Nd) (h':AH),vs=.ref x::args/\W.H=H/\Le K W0 W/\W0.H x=none/\x∉W.m/\NdAt K W.F W.H W.m (.ins k [] []) x /\
 ycn K W xs args/\xs.length=n/\f xs W.h=some (d,h')/\∀ W',W'.h=h'->Lf K W W'->Le K W0 W'->x∉W'.m->d≠.dead->NdAt K W'.F W'.H W'.m d x->Q .non W'.H
theorem yvP {n k:Nat}{f} {vs:List V}{H:Hp}{Q:VK}{E:XK}(h:spJ K n k f vs H Q E):vs.length=n+1:=by
 obtain ⟨W0,W,x,args,xs,d,h',rfl,_,_,_,_,_,r,hn,_⟩:=h
 rw [length_cons,r.len,hn]
theorem ypA {N:List Str}{n k:Nat}{t:TS}{s:XS}{vs:List V}{H:Hp}{Q:VK}{E:XK}{bk ct:St->Hp->Prop}(hN:n+1<=N.length) (a:yqW K t s) (h:spJ K n k (ynR N.length k s) vs H Q E):t ⟨fun _ H'=>Q .non H',Q,bk,ct⟩ (L2.start N vs) H:=by
 obtain ⟨W0,W,x,args,xs,d,h',rfl,rfl,le,hx,hm,at_,r,hn,e,q⟩:=h
 obtain ⟨o,h1,e1,f1⟩:=yg e
 have gs:=yfG (K:=K) (N:=N.drop 1) le.ok r
 have g:Good K W0 W (.own (.ins k [] [])::(xs.map .val++replicate (N.length-(xs.length+1)) .no)) (L2.start N (.ref x::args)):=by
  have es:L2.start N (.ref x::args)=some (.ref x)::L2.start (N.drop 1) args:=by
   have e3:N.length-(args.length+1)=(N.drop 1).length-args.length:=by rw [length_drop];omega
   unfold L2.start
   rw [map_cons,List.cons_append,length_cons,e3]
  have eN:N.length-(xs.length+1)=(N.drop 1).length-xs.length:=by rw [length_drop];omega
  rw [es,eN]
  have noown:∀ (j:Nat) (d:Nd),(xs.map PVar.val++replicate ((N.drop 1).length-xs.length) .no)[j]?≠some (.own d):=fun j d z=>by
   by_cases hj:j<xs.length
   .rw [getElem?_append_left (by simpa using hj),getElem?_map,List.getElem?_eq_getElem hj] at z
    cases z
   .rw [getElem?_append_right (by simp;omega),getElem?_replicate] at z
    split at z<;>cases z
  refine ⟨le,by rw [length_cons,length_cons,gs.len],fun j y z=>?_,fun j d z=>?_,fun i j d d' hij z z'=>?_⟩
  .cases j with
   | zero=>cases z
   | succ j=>exact gs.val j y z
  .cases j with
   | zero=>cases z;exact ⟨x,rfl,hm,hx,(fun z=>by cases z),at_⟩
   | succ j=>exact absurd z (noown j d)
  .cases i with
   | zero =>
    cases j with
    | zero=>exact absurd rfl hij
    | succ j=>exact absurd z' (noown j d')
   | succ i=>exact absurd z (noown i d)
 cases o with
 | rt y=>cases f1
 | bk ρ=>cases f1
 | ct ρ=>cases f1
 | nx ρ =>
  refine a W0 W _ ρ _ _ h1 g e1 fun W' ew lf g'=>?_
  dsimp only at f1
  split at f1
  .rename_i d' hd'
   cases f1
   obtain ⟨p,b1,b2,b3,b4,b5⟩:=g'.own 0 _ hd'
   have b1:some (some (V.ref x))=some (some (V.ref p)):=b1
   cases b1
   exact q W' ew lf g'.le b2 b4 b5
  .cases f1
def yzd:PVar->Bool|.own _=>false|_=>true
def xBI (k:Nat) (f:List PV->AH->Option (Nd×AH)) (a:XA):XS:=fun ρ h=>match ρ with
 | .own (.ins k' [] [])::r=>if k'=k/\r.all yzd=true then ob (a ρ h) fun xs h1=>ob (f xs h1) fun d h2=>(match d with|.dead=>none|d=>some (.nx (.own d::r),h2)) else none
 | _=>none
theorem yvQ {n k:Nat}{f} {E:XK}{t:TA}{aa:XA}(a:yky K t aa) (hn:∀ ρ h xs h',aa ρ h=some (xs,h')->xs.length=n):yqW K (yob (yrm (spJ K n k f) [] E (ykG (ynP 0) t))) (xBI k f aa):=by
 intro W0 W ρ ρ' σ D h' g e q
 unfold xBI at e
 split at e
 .rename_i k' r
  split at e
  .rename_i c
   obtain ⟨rfl,hr⟩:=c
   obtain ⟨xs,h1,e1,f1⟩:=yg e
   obtain ⟨d,h2,e2,f2⟩:=yg f1
   have nodead:d≠.dead:=fun z=>by subst z;cases f2
   have f2:some (Out.nx (.own d::r),h2)=some (.nx ρ',h'):=by
    cases d<;>first|exact f2|cases f2
   cases f2
   obtain ⟨p,b1,b2,b3,b4,b5⟩:=g.own 0 _ rfl
   refine ⟨.ref p,b1,?_⟩
   refine a W0 W _ σ _ xs h1 g e1 fun vs W1 w1 l1 r1=>?_
   subst w1
   have g1:=g.step l1
   obtain ⟨p',c1,c2,c3,c4,c5⟩:=g1.own 0 _ rfl
   rw [b1] at c1
   cases c1
   rw [append_nil]
   refine ⟨W0,W1,p,vs,xs,d,h',rfl,rfl,g1.le,c3,c2,c5,r1,hn _ _ _ _ e1,e2,fun W2 w2 lf le hm hd at_=>?_⟩
   refine q W2 w2 (l1.lf.trans lf) ⟨le,g1.len,fun j y z=>?_,fun j d' z=>?_,fun i j d1 d2 hij z1 z2=>?_⟩
   .cases j with
    | zero=>cases z
    | succ j =>
     obtain ⟨v,z1,z2⟩:=g1.val (j+1) y z
     exact ⟨v,z1,lf.rep z2⟩
   .cases j with
    | zero=>cases z;exact ⟨p,b1,hm,c3,hd,at_⟩
    | succ j =>
     have z:r[j]?=some (.own d'):=z
     have:=List.all_eq_true.mp hr _ (mem_of_getElem? z)
     cases this
   .cases i with
    | zero =>
     cases j with
     | zero=>exact absurd rfl hij
     | succ j =>
      have z:r[j]?=some (.own d2):=z2
      have:=List.all_eq_true.mp hr _ (mem_of_getElem? z)
      cases this
    | succ i =>
     have z:r[i]?=some (.own d1):=z1
     have:=List.all_eq_true.mp hr _ (mem_of_getElem? z)
     cases this
  .cases e
 .cases e
theorem ysu {a:Addr}{ss:List Str}(h:KTp K.K a (ss.map V.str)):ybt K (tC (.ref a)) (xC (.tup (ss.map PV.str))):=by
 intro W0 W ρ σ Q x h' g e q
 cases e
 refine q _ W rfl (.refl g.ok) ⟨a,_,rfl,.inr h,?_⟩
 clear h q
 induction ss with
 | nil=>exact rfl
 | cons s ss ih=>exact ⟨_,_,rfl,rfl,ih⟩
end PX
namespace PX
open PySem L2
variable {K:Ck}
end PX
namespace PX
open PySem L2
variable {K:Ck}
end PX
namespace PX
open PySem L2
variable {K:Ck}
noncomputable def ypB (c:Nat):List Nat->List (List Nat)
 | []=>[[]]
 | k::r=>if k=c then []::ypB c r else match ypB c r with|[]=>[[k]]|w::ws=>(k::w)::ws
theorem yjV {c:Nat}:∀ {w:List Nat},c∉w->ypB c w=[w]
 | [],_=>rfl
 | k::r,h=>by
  have h1:k≠c:=fun z=>h (z ▸ mem_cons_self ..)
  unfold ypB
  rw [if_neg h1,yjV fun z=>h (mem_cons_of_mem _ z)]
theorem ymv {c:Nat}:∀ {w r:List Nat},c∉w->ypB c (w++c::r)=w::ypB c r
 | [],r,_=>by
  rw [List.nil_append]
  show (if c=c then []::ypB c r else _)=_
  rw [if_pos rfl]
 | k::w,r,h=>by
  have h1:k≠c:=fun z=>h (z ▸ mem_cons_self ..)
  rw [List.cons_append]
  show (if k=c then []::ypB c (w++c::r) else match ypB c (w++c::r) with|[]=>[[k]]|w::ws=>(k::w)::ws)=_
  rw [if_neg h1,ymv fun z=>h (mem_cons_of_mem _ z)]
def ypC (z:Str):List Str:=(ypB 32 z.cps.toList).map fun w=>⟨w.toArray⟩
theorem ygP:∀ (ws:List Str),ws≠[]->(∀ w∈ws,32∉w.cps.toList)->ypC (Str.join " " ws)=ws
 | [],h,_=>absurd rfl h
 | [w],_,h=>by
  have h1:=yjV (h w (List.mem_singleton.mpr rfl))
  show (ypB 32 w.cps.toList).map _=_
  rw [h1];rfl
 | w::v::r,_,h=>by
  have ih:=ygP (v::r) (fun z=>by cases z) fun u hu=>h u (mem_cons_of_mem _ hu)
  show ypC (w++" "++Str.join " " (v::r))=_
  have e:(w++(" ":Str)++Str.join " " (v::r)).cps.toList=w.cps.toList++32::(Str.join " " (v::r)).cps.toList:=by
   show (w.cps++(" ":Str).cps++(Str.join " " (v::r)).cps).toList=_
   rw [show (" ":Str).cps = #[32] by rfl']
   simp
  unfold ypC at ih ⊢
  rw [e,ymv (h w (mem_cons_self ..)),map_cons,ih]
def yua:V->List V->Hp->VK->Prop:=fun x vs H Q=>∃ z:Str,x=.str z/\vs=[.str " "]/\z.length<=100000/\∀ p,H p=none->Q (.ref p) (upd H p (.lst ((ypC z).map V.str)))
def yjW:PM:=fun x xs h=>match x,xs with|.str z,[.str y]=>if y = " "/\z.length<=100000 then some (.lst ((ypC z).map .str),h) else none|_,_=>none
theorem RepL.of_strs {F:Hp}{m:List Addr}:∀ (ts:List Str),RepL K F m (ts.map PV.str) (ts.map V.str)
 | []=>rfl
 | _::ts=>⟨_,_,rfl,rfl,RepL.of_strs ts⟩
theorem m_split:ynn K "str" isStr yua yjW:=by
 refine ⟨fun W x v w r c=>?_,fun W x v xs vs Q z h' w rx r e q=>?_⟩
 .unfold isStr at c
  split at c
  .rw [show v=_ from r];rfl
  .cases c
 .unfold yjW at e
  split at e
  .rename_i z y
   split at e
   .rename_i c
    cases e
    obtain ⟨u,rfl,ru⟩:=yjD r
    have ru:u=.str y:=ru
    refine ⟨z,rx,by rw [ru,c.1],c.2,fun p hp=>?_⟩
    have l2:=yle (o:=.lst ((ypC z).map V.str)) w hp
    exact q (.ref p) (ytF W p (.lst ((ypC z).map V.str))) rfl l2 ⟨p,_,rfl,yu,RepL.of_strs _⟩
   .cases e
  .cases e
theorem yvR {z:Str}{h:AH}(e:z.length<=100000):yjW (.str z) [.str " "] h=some (.lst ((ypC z).map .str),h):=by
 unfold yjW;exact if_pos ⟨rfl,e⟩
def yze:List V->Hp->VK->Prop:=fun xs H Q=>yBc xs H Q\/∃ z,xs=[.str z]/\Q (.str z) H
noncomputable def yho:List PV->AH->Option (PV×AH):=fun xs h=>match xs with|[.int i]=>if i.natAbs.log2<1920 then some (.str (toString i:String),h) else none|[.str z]=>some (.str z,h)|_=>none
theorem yzf:yge K yze yho:=by
 intro W xs vs Q z h' w r e q
 unfold yho at e
 split at e
 .rename_i i
  split at e
  .rename_i hl
   cases e
   obtain ⟨v,rfl,rx⟩:=yjD r
   exact .inl ⟨i,by rw [show v=_ from rx],hl,q _ W rfl (.refl w) rfl⟩
  .cases e
 .rename_i z
  cases e
  obtain ⟨v,rfl,rx⟩:=yjD r
  exact .inr ⟨z,by rw [show v=_ from rx],q _ W rfl (.refl w) rfl⟩
 .cases e
theorem yvS {k:Int}{h:AH}:yho [.int k] h=if k.natAbs.log2<1920 then some (.str (toString k:String),h) else none:=id rfl
theorem yvT {z:Str}{h:AH}:yho [.str z] h=some (.str z,h):=id rfl
def yxf:List PV->List PV->List PV
 | x::xs,y::ys=>.tup [x,y]::yxf xs ys
 | _,_=>[]
theorem ymw:∀ {xs ys:List PV}{i:Nat}{x y:PV},xs[i]?=some x->ys[i]?=some y->(yxf xs ys)[i]?=some (.tup [x,y])
 | x::xs,y::ys,0,_,_,e,f=>by simp at e f;subst e;subst f;rfl
 | x::xs,y::ys,i+1,_,_,e,f=>by
  show (yxf xs ys)[i]?=_
  exact ymw (by simpa using e) (by simpa using f)
theorem ymx:∀ {xs ys:List PV},xs.length=ys.length->(yxf xs ys).length=xs.length
 | [],[],_=>rfl
 | x::xs,y::ys,e=>by
  show (yxf xs ys).length+1=_
  rw [ymx (by simpa using e)];rfl
structure yCh (K:Ck) (W:Wd) (J:It) (xs:List PV):Prop where
 go:∀ (i:Nat) (W':Wd),Lf K W W'->WOk K W'->i<xs.length->J.go i W'.H
 yld:∀ (i:Nat) (W':Wd) (v:V) (H2:Hp),Lf K W W'->WOk K W'->i<xs.length->J.yld i W'.H v H2->∃ W2,W2.H=H2/\W2.h=W'.h/\Le K W' W2/\∃ x,xs[i]?=some x/\ycm K W2 x v
 stop:∀ (W':Wd),Lf K W W'->WOk K W'->J.stop xs.length W'.H
variable {t:TS}{s:XS}
end PX
namespace PX
open PySem L2
variable {K:Ck}
mutual
noncomputable def clean:PV->Bool
 | .loc _=>false
 | .lst xs=>ymy xs
 | .tup xs=>ymy xs
 | .ins _ _ xs=>ymy xs
 | _=>true
noncomputable def ymy:List PV->Bool
 | []=>true
 | x::xs=>clean x && ymy xs
end
noncomputable def ypD (f:PV->Option PV):List PV->Option (List PV)
 | []=>some []
 | x::xs=>match f x,ypD f xs with|some y,some ys=>some (y::ys)|_,_=>none
def see:Nat->AH->PV->Option PV
 | 0,_,x=>if clean x=true then some x else none
 | n+1,h,x=>match x with
  | .loc m=>(match h[m]? with|some (.lst xs)=>(ypD (see n h) xs).map .lst|some (.ins k ns xs)=>(ypD (see n h) xs).map (.ins k ns)|_=>none)
  | x=>if clean x=true then some x else none
section
variable {F H:Hp}{m:List Addr}
end
variable {t:TA}{e:XA}
end PX
namespace PX
open PySem L2
variable {K:Ck}
end PX
namespace PX
open PySem L2
variable {K:Ck}
theorem yCi {W W1:Wd}(l1:Le K W W1) {p:Addr}{d:Nd}(hm:p∉W1.m) (hn:W.H p=none) (at_:NdAt K W1.F W1.H W1.m d p):Le K W ⟨W1.F,W1.H,W1.m++[p],W1.h++[d]⟩/\ycm K ⟨W1.F,W1.H,W1.m++[p],W1.h++[d]⟩ (.loc W1.h.length) (.ref p):=by
 have pre:W1.m <+: W1.m++[p]:=List.prefix_append _ _
 refine ⟨⟨⟨l1.ok.le,?_,?_,fun n d' a e1 e2=>?_⟩,l1.fs,l1.pre.trans pre,l1.keep,l1.new,fun b z n=>?_,fun n ks xs e1=>⟨by
  have:=(l1.fz n ks xs e1).1
  show (W1.h++[d])[n]?=_
  rw [getElem?_append_left (List.getElem?_eq_some_iff.mp this).1];exact this,(l1.fz n ks xs e1).2⟩⟩,⟨p,rfl,?_⟩⟩
 .show (W1.m++[p]).length=(W1.h++[d]).length
  rw [length_append,length_append,l1.ok.len];rfl
 .show (W1.m++[p]).Nodup
  rw [List.nodup_append]
  refine ⟨l1.ok.nd,by simp,?_⟩
  intro a ha b hb
  simp at hb
  subst hb
  exact fun z=>hm (z ▸ ha)
 .have e1:(W1.h++[d])[n]?=some d':=e1
  have e2:(W1.m++[p])[n]?=some a:=e2
  by_cases hlt:n<W1.h.length
  .rw [getElem?_append_left hlt] at e1
   rw [getElem?_append_left (by rw [l1.ok.len];exact hlt)] at e2
   exact (l1.ok.at_ n d' a e1 e2).mono (Same.refl _) pre (fun _ f1=>f1) id
  .rw [getElem?_append_right (by omega)] at e1
   rw [getElem?_append_right (by rw [l1.ok.len];omega)] at e2
   rw [l1.ok.len] at e2
   cases hk:n-W1.h.length with
   | zero =>
    rw [hk] at e1 e2
    simp at e1 e2
    subst e1 e2
    exact at_.mono (Same.refl _) pre (fun _ f1=>f1) id
   | succ k=>rw [hk] at e1;simp at e1
 .have z:b∈W1.m++[p]:=z
  rcases List.mem_append.mp z with z|z
  .exact l1.mn b z n
  .simp at z;subst z;exact hn
 .show (W1.m++[p])[W1.h.length]?=some p
  rw [<- l1.ok.len];simp
def yfU (k:Nat) (f:Fn) (a:XA):XE:=fun ρ h=>ob (a ρ h) fun xs h1=>ob (f (.loc h1.length::xs) (h1++[.ins k [] []])) fun x h2=>match x with|.non=>some (.loc h1.length,h2)|_=>none
theorem ypE {k:Nat}{f:Fn}{aa:XA}{ρ:PSt}{h:AH}:yfU k f aa ρ h=ob (aa ρ h) fun xs h1=>ob (f (.loc h1.length::xs) (h1++[.ins k [] []])) fun x h2=>match x with|.non=>some (.loc h1.length,h2)|_=>none:=id rfl
theorem ypF {n k:Nat}{f:Fn}{ex:XK}{t:TA}{e:XA}(a:yky K t e) (hn:∀ ρ h xs h',e ρ h=some (xs,h')->xs.length=n):ybt K (yrn (K.A k) (spE K (n+1) f) [] ex t) (yfU k f e):=by
 intro W0 W ρ σ Q z h' g e' q
 obtain ⟨xs,h1,e1,e2⟩:=yg e'
 obtain ⟨y,h2,e3,e4⟩:=yg e2
 refine a W0 W ρ σ _ xs h1 g e1 fun vs W1 w1 l1 r1=>?_
 subst w1
 intro x dx hx hd hne
 rw [append_nil]
 have a1:Le K W1 (yfT W1 dx (.own x)):=ycO l1.ok hd
 have hx1:(yfT W1 dx (.own x)).H x=none:=(yy hne.symm).trans hx
 have a2:Le K (yfT W1 dx (.own x)) (yfT (yfT W1 dx (.own x)) x (.ins (K.A k) dx [])):=ycO a1.ok hx1
 obtain ⟨a3,r3⟩:=yCi (d:=.ins k [] []) (a1.trans a2) (l1.ok.out hx) hx ⟨l1.ok.ff hx,dx,[],yu,rfl,rfl⟩
 refine ⟨⟨W1.F,upd (upd W1.H dx (.own x)) x (.ins (K.A k) dx []),W1.m++[x],W1.h++[Nd.ins k [] []]⟩,.loc W1.h.length::xs,y,h2,rfl,a3.ok,⟨_,_,rfl,r3,a3.repL r1⟩,by rw [length_cons,hn _ _ _ _ e1],e3,fun v W' w' l' r'=>?_⟩
 split at e4
 .cases e4
  exact ⟨r',q (.ref x) W' w' (l1.trans (a3.trans l')) (l'.rep r3)⟩
 .cases e4
noncomputable def yDj:List V->Hp->VK->Prop:=fun xs H Q=>∃ (p:Addr) (bs:List Bool),xs=[.ref p]/\H p=some (.lst (bs.map V.bl))/\Q (.bl (bs.any id)) H
def ysv:List PV->AH->Option (PV×AH):=fun xs h=>match xs with|[x]=>(match yba x h with|some ys=>(match ygI ys with|some ns=>some (.bl (ns.any id),h)|none=>none)|none=>none)|_=>none
theorem yzg:yge K yDj ysv:=by
 intro W xs vs Q z h' w r e q
 unfold ysv at e
 split at e
 .split at e
  .rename_i ys hy
   split at e
   .rename_i ns hn
    cases e
    obtain ⟨v,rfl,rx⟩:=yjD r
    obtain ⟨a,us,rfl,hs,rs⟩:=yN w hy rx
    have:=ygJ hn rs
    subst this
    exact ⟨a,ns,rfl,hs,q _ W rfl (.refl w) rfl⟩
   .cases e
  .cases e
 .cases e
end PX
namespace PX
open PySem L2
variable {K:Ck}
def yhN (e:XE) (ix:List Nat) (el:XE):XO:=fun ρ h=>ob (e ρ h) fun x h1=>match x with
 | .loc n=>(match h1[n]? with|some (.dct ks xs)=>if ks.length<=10000 then ob (ygt el (yeY ix ρ) (ks.map ygh) (h1.set n (.fz ks xs))) fun ys h2=>some (.lst ys,h2.set n (.dct ks xs)) else none|_=>none)
 | _=>none
def yub (NF:Addr->Prop) (te:TE) (ix:List Nat) (tb:TE):TE:=fun σ H Q=>yoz (yzb NF te) ix tb σ H fun v H'=>∃ a ob kvs,NF a/\H' a=some (.frz ob (.dK kvs))/\Q v (upd H' a (.dK kvs))
theorem ypG {NF:Addr->Prop}{ta tb:TE}{ea eb:XE}(ix:List Nat) (a:ybt K ta ea) (b:ybt K tb eb):ymc K (yub NF ta ix tb) (yhN ea ix eb):=by
 intro W0 W ρ σ Q d h' gd e q
 obtain ⟨x,h1,e1,f1⟩:=yg e
 refine a W0 W ρ σ _ x h1 gd e1 fun v W1 w1 l1 r1=>?_
 subst w1
 split at f1
 .rename_i n
  split at f1
  .rename_i ks xs hn
   split at f1
   .rename_i hlen
    obtain ⟨zs,h2,e2,f2⟩:=yg f1
    cases f2
    have hz:=ylj e2
    rw [length_map] at hz
    obtain ⟨p,ev,hm,hf,us,hp,hl,rs⟩:=l1.ok.loc hn r1
    have hzl:(ks.zip us).length=ks.length:=by rw [length_zip,hl,Nat.min_self]
    refine ⟨p,ks.zip us,ev,hp,fun ob nf=>?_⟩
    have lf:Le K W1 (yjK W1 n p (.frz ob (.dK (ks.zip us))) (.fz ks xs)):=yfJ l1.ok hn hm hf ⟨hf,ob,us,yu,hl,rs⟩
    have hnl:n<W1.h.length:=(List.getElem?_eq_some_iff.mp hn).1
    have still:∀ W',Lf K (yjK W1 n p (.frz ob (.dK (ks.zip us))) (.fz ks xs)) W'->W'.h[n]?=some (.fz ks xs)/\W'.H p=some (.frz ob (.dK (ks.zip us))):=fun W' l=>by
     obtain ⟨z1,z2⟩:=l.fz n ks xs (getElem?_set_self hnl)
     exact ⟨z1,(z2 p hm).trans yu⟩
    have l2:=l1.trans lf
    generalize hW2:yjK W1 n p (.frz ob (.dK (ks.zip us))) (.fz ks xs)=W2 at *
    have hW2h:W2.h=W1.h.set n (.fz ks xs):=by rw [<- hW2];rfl
    have hW2H:W2.H=upd W1.H p (.frz ob (.dK (ks.zip us))):=by rw [<- hW2];rfl
    have hW2m:W2.m=W1.m:=by rw [<- hW2];rfl
    rw [<- hW2h] at e2
    rw [<- hW2H]
    intro D hD
    have nm:=lf.ok.out hD
    have nf2:=lf.ok.ff hD
    refine ⟨fun i m H=>m=ks.length-i/\i<=ks.length/\∃ W' acc done rest,W'.H=H/\Le K W2 W'/\D∉W'.m/\W'.F D=none/\H D=some (.lst acc)/\ycn K W' done acc/\done.length=i/\zs=done++rest/\ygt eb (yeY ix ρ) ((ks.map ygh).drop i) W'.h=some (rest,h2),⟨_,rfl,zero_le _,yfT W2 D (.lst []),[],[],zs,rfl,ycO lf.ok hD,nm,nf2,yu,rfl,rfl,rfl,by rw [List.drop_zero];exact e2⟩,?_⟩
    rintro i m _ ⟨rfl,hi,W',acc,done,rest,rfl,l,n1,n2,hd,rd,ld,ez,f⟩
    obtain ⟨z1,z2⟩:=still W' l.lf
    by_cases hlt:i<ks.length
    .have hlt':i<(ks.map ygh).length:=by rw [length_map];exact hlt
     rw [List.drop_eq_getElem_cons hlt'] at f
     obtain ⟨y,h3,k1,f3⟩:=yg f
     obtain ⟨ys,h4,k2,f4⟩:=yg f3
     cases f4
     refine .inr ⟨⟨by rw [hzl];exact hlt,z2⟩,fun v H2 hy=>?_⟩
     obtain ⟨rfl,kv,y1,rfl⟩:=hy
     obtain ⟨y4,y5⟩:=List.getElem?_eq_some_iff.mp y1
     have ek:(ks.map ygh)[i]=ygh kv.1:=by rw [List.getElem_map,<- y5,List.getElem_zip]
     rw [ek] at k1
     refine b W' W' _ _ _ y h3 (ymg gd (l2.trans l) ix (yjU kv.1)) k1 fun w W3 w3 l3 r3=>?_
     have nm3:D∉W3.m:=fun z=>by rw [l3.mn D z n1] at hd;cases hd
     have nf3:W3.F D=none:=l3.new D _ hd n1 n2
     refine ⟨acc,l3.keep _ _ hd n1,?_,ks.length-(i+1),by omega,rfl,hlt,yrL W3 D (.lst (acc++[w])),acc++[w],done++[y],ys,rfl,yli (l.trans l3) nm3 nf3 hD,nm3,nf3,yu,(l3.repL rd).snoc r3,by simp [ld],by simp [ez],?_⟩
     .rw [rd.len,ld];exact big (by omega)
     .show ygt eb (yeY ix ρ) ((ks.map ygh).drop (i+1)) W3.h=some (ys,h2)
      rw [w3];exact k2
    .have ei:i=ks.length:=by omega
     subst ei
     rw [List.drop_of_length_le (by rw [length_map];exact Nat.le_refl _)] at f
     cases f
     refine .inl ⟨⟨hzl.symm,z2⟩,p,ob,ks.zip us,nf,z2,?_⟩
     rw [append_nil] at ez
     subst ez
     have hm':W'.m[n]?=some p:=ydI l.pre (by rw [hW2m];exact hm)
     obtain ⟨z3,_⟩:=l.ok.at_ n _ p z1 hm'
     have at':NdAt K W'.F (upd W'.H p (.dK (ks.zip us))) W'.m (.dct ks xs) p:=⟨z3,us,yu,hl,RepL.mono (lf.fs.trans l.fs) (lf.pre.trans l.pre) _ _ rs⟩
     have nW:=ytZ l1 hn (fun _ _ z=>by cases z)
     have hDp:D≠p:=fun z=>by subst z;exact n1 (mem_of_getElem? hm')
     refine q D (yjK W' n p (.dK (ks.zip us)) (.dct ks xs)) rfl (ypz (l2.trans l) z1 hm' z3 at' nW) n1 (l2.fresh hD) (fun z=>by cases z) ⟨n2,acc,(yy hDp).trans hd,rd⟩
   .cases f1
  .cases f1
 .cases f1
end PX
namespace PX
open PySem L2
variable {K:Ck}
def ylt (ks:List Key) (xs:List PV):List PV:=yxf (ks.map ygh) xs
def yDk (a:Addr) (ob:Obj) (kvs:List (Key×V)):It :=
 ⟨fun i H=>i<kvs.length/\H a=some (.frz ob (.dK kvs)),fun i H x H'=>∃ p kv,H p=none/\x=.ref p/\H'=upd H p (.tup [kV kv.1,kv.2])/\kvs[i]?=some kv,fun i H=>i=kvs.length/\H a=some (.frz ob (.dK kvs))⟩
def ypH (Kf:PySem.W.Frag) (NF:Addr->Prop) (te:TE):TI:=fun σ H R=>yAQ Kf "dict" ypu te σ H fun x H1=>∃ r a kvs,x=.ref r/\H1 r=some (yeD r a)/\H1 a=some (.dK kvs)/\∀ ob,NF a->R (yDk a ob kvs) (upd H1 a (.frz ob (.dK kvs)))
def yzh (Kf:PySem.W.Frag) (NF:Addr->Prop) (te:TE) (g:TG) (t:TS):TS:=fun D=>yxI (ypH Kf NF te) g t (yzc NF D)
section
variable {ta:TE}{ea:XE}{t:TS}{s:XS}
theorem ypI {J:It}{xs:List PV}{g:TG}{y:XG}(b:ynQ K g y) (c:yee K t s) {W0 W1:Wd}{ρ:PSt}{σ:St}{D:Ends}{o:Out}{h':AH}(gd:Good K W0 W1 ρ σ) (q1:Ends.Ok K W0 W1 D h' o) (J1:yCh K W1 J xs) (f1:yeU y s xs ρ W1.h=some (o,h')) :
  ∃ Z:Nat->Nat->St->Hp->Prop,(∃ m,Z 0 m σ W1.H)/\∀ i m σ H,Z i m σ H ->
   (J.stop i H/\D.nx σ H)\/(J.go i H/\∃ N:St->Hp->Prop,(∀ σ' H',N σ' H'->∃ m',m'<m/\Z (i+1) m' σ' H')/\∀ x H',J.yld i H x H'->g x σ H' fun σ2 H2=>t { D with nx:=N,ct:=N,bk:=D.nx } σ2 H2):=by
 refine ⟨fun i m σ H=>m=xs.length-i/\i<=xs.length/\∃ W' ρ',W'.H=H/\Lf K W1 W'/\Good K W0 W' ρ' σ/\yeU y s (xs.drop i) ρ' W'.h=some (o,h'),⟨_,rfl,zero_le _,W1,ρ,rfl,.refl,gd,by simpa using f1⟩,?_⟩
 rintro i m σ _ ⟨rfl,hi,W',ρ',rfl,l,g',f⟩
 by_cases hlt:i<xs.length
 .rw [List.drop_eq_getElem_cons hlt] at f
  obtain ⟨ρ1,k1,f⟩:=Option.bind_eq_some_iff.mp f
  obtain ⟨o1,h2,k2,f3⟩:=yg f
  refine .inr ⟨J1.go i W' l g'.ok hlt,fun σ2 H2=>i+1<=xs.length/\∃ W2 ρ2,W2.H=H2/\Lf K W1 W2/\Good K W0 W2 ρ2 σ2/\yeU y s (xs.drop (i+1)) ρ2 W2.h=some (o,h'),fun σ2 H2 ⟨n1,n2⟩=>⟨xs.length-(i+1),by omega,rfl,n1,n2⟩,fun v H2 hy=>?_⟩
  obtain ⟨Wz,rfl,eh,lz,x,hx,rx⟩:=J1.yld i W' v H2 l g'.ok hlt hy
  rw [List.getElem?_eq_getElem hlt] at hx
  cases hx
  rw [<- eh] at k2
  refine b W0 Wz ρ' ρ1 σ _ v _ (g'.step lz) rx k1 fun σ2 g2=>?_
  refine c W0 Wz ρ1 σ2 _ o1 h2 g2 k2 ?_
  have l:=l.trans lz.lf
  cases o1 with
  | nx ρ2=>exact fun W2 σ3 w2 l2 g3=>⟨hlt,W2,ρ2,rfl,l.trans l2,g3,by rw [w2];exact f3⟩
  | ct ρ2=>exact fun W2 σ3 w2 l2 g3=>⟨hlt,W2,ρ2,rfl,l.trans l2,g3,by rw [w2];exact f3⟩
  | bk ρ2=>cases f3;exact fun W2 σ3 w2 l2 g3=>q1 W2 σ3 w2 (l.trans l2) g3
  | rt x=>cases f3;exact q1
 .have ei:i=xs.length:=by omega
  subst ei
  refine .inl ⟨J1.stop W' l g'.ok,?_⟩
  rw [List.drop_length] at f
  cases f
  exact q1 W' σ rfl l g'
def ypJ (e:XE) (g:XG) (s:XS):XS:=fun ρ h=>ob (e ρ h) fun x h1=>match x with
 | .loc n=>(match h1[n]? with
  | some (.dct ks xs)=>ob (yeU g s (ylt ks xs) ρ (h1.set n (.fz ks xs))) fun o h2=>(match o with|.nx ρ'=>some (.nx ρ',h2.set n (.dct ks xs))|_=>none)
  | _=>none)
 | _=>none
theorem ysw {NF:Addr->Prop}{g:TG}{y:XG}(a:ybt K ta ea) (b:ynQ K g y) (c:yee K t s):yee K (yzh K.K NF ta g t) (ypJ ea y s):=by
 intro W0 W ρ σ D o h' gd e q
 obtain ⟨x,h1,e1,f1⟩:=yg e
 refine a W0 W ρ σ _ x h1 gd e1 fun v W2 w1 l2 r2=>?_
 subst w1
 split at f1
 .rename_i n
  split at f1
  .rename_i ks xs hn
   obtain ⟨o1,h2,e2,f2⟩:=yg f1
   split at f2
   .rename_i ρ'
    cases f2
    refine ⟨ytY (x:=.loc n) (ks:=ks) (xs:=xs) l2.ok (show (match W2.h[n]? with|some (Nd.dct ks xs)=>some (ks,xs)|_=>none)=some (ks,xs) by rw [hn]) r2,?_⟩
    obtain ⟨p,ev,hm,hf,us,hp,hl,rs⟩:=l2.ok.loc hn r2
    subst ev
    refine ⟨p,_,rfl,rfl,hp,fun r hr=>?_⟩
    have lv:=ycO (o:=yeD r p) l2.ok hr
    have hpr:p≠r:=yZ hp hr
    refine ⟨r,p,ks.zip us,rfl,yu,(yy hpr).trans hp,fun ob nf=>?_⟩
    have l1:=l2.trans lv
    have hp:(yfT W2 r (yeD r p)).H p=some (.dK (ks.zip us)):=(yy hpr).trans hp
    have rs:=RepL.mono lv.fs lv.pre _ _ rs
    have hf:(yfT W2 r (yeD r p)).F p=none:=hf
    have hn:(yfT W2 r (yeD r p)).h[n]?=some (.dct ks xs):=hn
    have hm:(yfT W2 r (yeD r p)).m[n]?=some p:=hm
    have e2:yeU y s (ylt ks xs) ρ ((yfT W2 r (yeD r p)).h.set n (.fz ks xs))=some (.nx ρ',h2):=e2
    show _
    change ∃ Z:Nat->Nat->St->Hp->Prop,(∃ m,Z 0 m σ (upd (yfT W2 r (yeD r p)).H p (.frz ob (.dK (ks.zip us)))))/\_
    generalize yfT W2 r (yeD r p)=W1 at l1 lv hp rs hf hn hm e2 ⊢
    have hz:(ks.zip us).length=ks.length:=by rw [length_zip,hl,Nat.min_self]
    have hxl:(ks.map ygh).length=xs.length:=by rw [length_map,<- rs.len];omega
    have lf:Le K W1 (yjK W1 n p (.frz ob (.dK (ks.zip us))) (.fz ks xs)):=yfJ l1.ok hn hm hf ⟨hf,ob,us,yu,hl,rs⟩
    have hnl:n<W1.h.length:=(List.getElem?_eq_some_iff.mp hn).1
    have still:∀ W',Lf K (yjK W1 n p (.frz ob (.dK (ks.zip us))) (.fz ks xs)) W'->W'.h[n]?=some (.fz ks xs)/\W'.H p=some (.frz ob (.dK (ks.zip us))):=fun W' l=>by
     obtain ⟨z1,z2⟩:=l.fz n ks xs (getElem?_set_self hnl)
     exact ⟨z1,(z2 p hm).trans yu⟩
    have il:(ylt ks xs).length=ks.length:=by unfold ylt;rw [ymx hxl,length_map]
    refine ypI b c (gd.step (l1.trans lf)) (o:=.nx ρ') (h':=h2) ?_ (xs:=ylt ks xs) ⟨fun i W' l w hi=>?_,fun i W' v' H2 l w hi hy=>?_,fun W' l w=>?_⟩ e2
    .intro W' σ' w' l' g'
     obtain ⟨z1,z2⟩:=still W' l'
     have hm':W'.m[n]?=some p:=ydI l'.pre hm
     obtain ⟨z3,_⟩:=g'.ok.at_ n _ p z1 hm'
     have at':NdAt K W'.F (upd W'.H p (.dK (ks.zip us))) W'.m (.dct ks xs) p:=⟨z3,us,yu,hl,RepL.mono l'.fs l'.pre _ _ rs⟩
     refine ⟨p,ob,ks.zip us,nf,z2,?_⟩
     have nW:=ytZ l1 hn (fun _ _ z=>by cases z)
     refine q (yjK W' n p (.dK (ks.zip us)) (.dct ks xs)) σ' (by rw [<- w'];rfl) ⟨l1.fs.trans (lf.fs.trans l'.fs),l1.pre.trans (lf.pre.trans l'.pre),?_⟩ (g'.thaw z1 hm' z3 at' ?_)
     .exact ypy g'.ok (l1.pre.trans (lf.pre.trans l'.pre)) (l1.lf.trans (lf.lf.trans l')).fz hm' nW
     .exact fun ks' xs' z=>nW _ _ (gd.le.fz n ks' xs' z).1
    .rw [il] at hi
     exact ⟨by rw [hz];exact hi,(still W' l).2⟩
    .obtain ⟨b,kv,hb,rfl,rfl,hk⟩:=hy
     have l2:=yle (o:=.tup [kV kv.1,kv.2]) w hb
     obtain ⟨z4,z5⟩:=List.getElem?_eq_some_iff.mp hk
     have hik:i<ks.length:=by rw [hz] at z4;exact z4
     have hiu:i<us.length:=by omega
     have ek:kv=(ks[i],us[i]):=by rw [<- z5,List.getElem_zip]
     subst ek
     obtain ⟨x',hx,rx⟩:=rs.get' (List.getElem?_eq_getElem hiu)
     exact ⟨ytF W' b (.tup [kV ks[i],us[i]]),rfl,rfl,l2,.tup [ygh ks[i],x'],ymw (by rw [getElem?_map,List.getElem?_eq_getElem hik];rfl) hx,b,[kV ks[i],us[i]],rfl,.inl yu,_,[us[i]],rfl,yjU _,_,[],rfl,l2.rep (l.rep (lf.rep rx)),rfl⟩
    .exact ⟨by rw [il,hz],(still W' l).2⟩
   .cases f2
  .cases f1
 .cases f1
end
end PX
namespace L2
open PySem PySem.Spec PyProof.Rows PX
def PTs (X:Cx) (cs:List Expr) (t:TT):Prop :=
 ∀ (pins:List (Addr×Obj)) (s:Shared) (σ:St) (H:Hp) (Q:Bool->Hp->Prop),Inv X pins σ H s->t σ H Q->wpAny (model X.prog X.w) X.A (forIn cs true fun c r=>if r=true then do let ok <- isTrue c X.env (eval c X.env);pure (ForInStep.yield ok) else pure (ForInStep.yield r)) (TP X pins σ Q) X.xe s
def yAs:TT:=fun _ H Q=>Q true H
theorem yiu {X:Cx}:PTs X [] yAs:=fun p s σ H Q I q=>wpAny_tests_nil ⟨H,I,q⟩
theorem ypK {wi:TI}{ix:List Nat}{te:TE}:yjT wi ix yAs te=yoz wi ix te:=rfl
theorem yzi {X:Cx}{e:Expr}{wi:TI}{ix:List Nat}{te:TE}(h:PE X e (yjT wi ix yAs te)):PE X e (yoz wi ix te):=ypK ▸ h
theorem yzj {X:Cx}{e:Stmt}{wi:TI}{ix:List Nat}{te:TE}{g:TG}(h:PS X e (ytr (yjT wi ix yAs te) g)):PS X e (ytr (yoz wi ix te) g):=ypK ▸ h
theorem ymz {X:Cx}{elt iter:Expr}{cs:List Expr}{tc:TT}{x:Str}{px:Pos}{scope:Scope}{cpos:Pos}{wi:TI}{te:TE}(ix:List Nat) (fr:List Str) (hc:X.calm=true) (hi:PI X (.Name x px) iter wi) (hfr:FrOk X scope ix fr)
  (he:∀ (cl:List (Str×Addr)) (C:Addr) (s₃:Shared) (H₃:Hp) (fp:List Addr) (pins:List (Addr×Obj)),PE (cxC X scope cl C (x::fr) s₃ H₃ fp pins) elt te)
  (hq:∀ (cl:List (Str×Addr)) (C:Addr) (s₃:Shared) (H₃:Hp) (fp:List Addr) (pins:List (Addr×Obj)),PTs (cxC X scope cl C (x::fr) s₃ H₃ fp pins) cs tc)
  (hnd:(x::fr).Nodup) (hkind:scope.kind=.function) (hcell:∀ y∈scope.names,y.2≠.cell)
  (hnames:∀ y∈scope.names,y.2=.local->scope.names.lookup y.1=some .local) (hfree0:∀ y∈scope.names,y.2=.free->y.1∈fr) (hx:scope.names.lookup x=some .local)
  (hs:∀ v,foldedSetIterable iter X.env v=pure v):PE X (.ListComp elt [⟨.Name x px,iter,cs,0⟩] scope cpos) (yjT wi ix tc te):=by
 intro pins s σ H Q I h
 have hfn:X.env.scope.kind=.function:=I.ok.kind
 have hfree:∀ y∈scope.names,y.2=.free->X.env.kindOf y.1=some .cell/\scope.names.lookup y.1=some .free:=fun y hy e=>by
  obtain ⟨j,hj,ej⟩:=getElem_of_mem (hfree0 y hy e)
  obtain ⟨i,_,_,h3,h4⟩:=hfr.get (j:=j) (y:=y.1) (by rw [List.getElem?_eq_getElem hj,ej])
  exact ⟨h4,h3⟩
 obtain ⟨cl,ecl,hcl1,hcl2⟩:=ydg (env:=X.env) scope.names [] fun n hn=>I.ok.has n (.inl (hfree _ hn rfl).1)
 have hclos:closureFor scope X.env=pure cl:=by
  unfold closureFor
  have:(forIn scope.names ([]:List (Str×Addr)) (fun (x:Str×NameKind) (r:List (Str×Addr))=>if (x.2 == NameKind.free)=true then do let c <- cellOf X.env x.1;pure (ForInStep.yield ((x.1,c)::r)) else pure (ForInStep.yield r)):Sem (List (Str×Addr)))=pure cl:=ecl
  first
   | exact (by simpa using congrArg (· >>= fun r=>pure r) this)
   | (rw [show (pure cl:Sem (List (Str×Addr)))=(pure cl >>= fun r=>pure r) from rfl,<- this];rfl)
 have hcle:∀ y c,cl.lookup y=some c->X.env.cells.lookup y=some c/\(y,NameKind.free)∈scope.names:=fun y c e=>by
  by_cases hy:(y,NameKind.free)∈scope.names
  .exact ⟨by rw [<- hcl1 y hy];exact e,hy⟩
  .rw [hcl2 y hy] at e;simp at e
 rw [eval_ListComp]
 refine wpAny_comprehension_free (use:=none) rfl hs hclos hkind hnames ?_
 refine thn (hi pins s σ H _ I h) fun v s1 h1=>thn h1 fun itv s2 h2=>?_
 obtain ⟨it,fp,tn,J,H2,e,I2,T,st2,f2,q2⟩:=h2
 subst e
 refine wpAny_newObj_type ?_
 generalize hs3:({ s2 with heap:=s2.heap.push { cls:=.type "list",dict:=none,data:=.seq ([]:List Value).toArray } }:Shared)=s3
 generalize hD:s2.heap.objs.size=D
 have hDn:H2 D=none:=by rw [<- hD];exact I2.hok.fresh (Nat.le_refl _)
 have I3:Inv X pins σ (upd H2 D (.lst [])) s3:=by
  rw [<- hs3,<- hD]
  exact I2.lnew (t':=s2.toks) (ys:=[]) (its:=[]) .nil (zero_le _)
 have k3:∀ b o,s2.heap.get? b=some o->s3.heap.get? b=some o:=fun b o e=>by rw [<- hs3];exact Heap.get?_push_of_some _ e
 have st3:tn 0 s3.heap:=T.keep _ _ _ st2 fun b _ o e=>k3 b o e
 have fne:∀ b∈fp,b≠D:=fun b hb=>by
  obtain ⟨o,e,_⟩:=T.obj _ _ st2 b hb
  rw [<- hD]
  exact ne_of_lt (Heap.lt_size e)
 have f3:∀ b∈fp,yna X pins (upd H2 D (.lst [])) b:=fun b hb=>⟨by rw [yy (fne b hb)];exact (f2 b hb).1,(f2 b hb).2⟩
 have q3:=q2 D hDn
 generalize upd H2 D (.lst [])=H3 at I3 f3 q3
 obtain ⟨W,⟨m0,w0⟩,turn⟩:=q3
 refine wpAny_newFunctionEnv hcell (by intro y hy;simp at hy) (fun h4 hns hsb=>?_) hkind
 try dsimp only at hns hsb ⊢
 generalize hC:s3.heap.objs.size=C at hns hsb ⊢
 have k4:∀ b o,s3.heap.get? b=some o->h4.get? b=some o:=fun b o e=>(hsb.2 b (by rw [<- hC];exact ne_of_lt (Heap.lt_size e))).trans (Heap.get?_push_of_some _ e)
 have Cne:∀ b o,s3.heap.get? b=some o->b≠C:=fun b o e=>by rw [<- hC];exact ne_of_lt (Heap.lt_size e)
 have stk:=I3.stkSub
 have pinF:∀ p∈X.pn++pins,p.1∉frs X.stack:=fun p hp z=>by
  obtain ⟨_,_,n1,n2,_⟩:=I3.pin p hp
  rcases mem_cons.mp (stk _ z) with z|z
  .exact n1 z
  .exact n2 z
 have okC:(cxC X scope cl C (x::fr) s3 H3 fp pins).Ok:=by
  refine ⟨I3.ok.mod,by show (relabel scope X.env).kind=_;exact hkind,I3.ok.glob,I3.ok.blt,le_of_eq hC,fun y z c h1 h2=>I3.ok.inj y z c (hcle y c h1).1 (hcle z c h2).1,fun y hy=>?_,fun y c hf _=>(by cases hf),I3.ok.hd,I3.ok.frames,.inl rfl,fun b hb=>⟨?_,fun y c e z=>?_⟩,I3.bs,?_,fun b o e hb=>?_,fun b hb z=>?_,I3.stack,I3.stkFree⟩
  .have hy:((relabel scope X.env).names.lookup y=some .cell)\/((relabel scope X.env).names.lookup y=some .free):=hy
   rw [show (relabel scope X.env).names.lookup y=_ from ycd y scope.names] at hy
   cases e:scope.names.lookup y with
   | none=>rw [e] at hy;simp at hy
   | some k =>
    have hm:(y,k)∈scope.names:=PySem.mem_of_lookup e
    have hkf:k=.free:=by
     rw [e] at hy
     cases k<;>simp at hy ⊢
     exact absurd rfl (hcell _ hm)
    subst hkf
    obtain ⟨c,hc'⟩:=I3.ok.has y (.inl (hfree _ hm rfl).1)
    exact ⟨c,by show cl.lookup y=_;rw [hcl1 y hm];exact hc'⟩
  .obtain ⟨o,e,_⟩:=T.obj _ _ st3 b hb
   exact Cne b o e
  .exact (f3 b hb).2.2.2.2.1 y c (hcle y c e).1 z
  .exact Nat.le_trans I3.ok.bsz I3.sz
  .rcases (f3 b hb).2.2.2.1 with z|z
   .exact I3.ok.noex b o e z
   .exact absurd (lt_of_lt_of_le (Heap.lt_size e) (Nat.le_trans I3.ok.bsz z)) (lt_irrefl _)
  .rcases mem_cons.mp (stk _ z) with z|z
   .exact (f3 b hb).2.1 z
   .exact (f3 b hb).2.2.1 z
 have inn:∀ v,(inner ix σ v)=some v::ix.map fun i=>(σ[i]?).getD none:=fun _=>rfl
 have I4:Inv (cxC X scope cl C (x::fr) s3 H3 fp pins) [] (none::ix.map fun i=>(σ[i]?).getD none) H3 { s3 with heap:=h4,toks:=s3.toks+([]:List (Str×Value)).length }:=by
  refine ⟨okC,rfl,I3.bare,Un.kept k4,⟨_,hns,fun j y v e1 e2 e3=>?_⟩,fun y c e=>?_,I3.hok.fresh (le_of_eq hC),fun y c e=>I3.freeC y c (hcle y c e).1,fun p hp=>?_,I3.hok.kept k4,?_⟩
  .match j,e1,e2 with
   | 0,e1,e2=>simp at e2
   | j+1,e1,e2 =>
    obtain ⟨i,hi1,hi2,hi3,hi4⟩:=hfr.get (j:=j) (y:=y) (by have e1':(x::fr)[j+1]?=some y:=e1;simpa using e1')
    have e2':σ[i]?=some (some v):=by
     have e2:(ix.map fun i=>(σ[i]?).getD none)[j]?=some (some v):=by simpa using e2
     rw [getElem?_map,hi1] at e2
     simp at e2
     cases z:σ[i]? with
     | none=>rw [z] at e2;simp at e2
     | some o=>rw [z] at e2;simp at e2;rw [e2]
    obtain ⟨m,_,hl⟩:=I3.loc
    obtain ⟨u,r,l⟩:=hl i y v hi2 e2' (.inr (.inl hi4))
    refine ⟨u,r,?_⟩
    rcases l with ⟨k,_⟩|⟨k,c,ec,z⟩
    .rw [hi4] at k;cases k
    .have hm:(y,NameKind.free)∈scope.names:=PySem.mem_of_lookup hi3
     refine .inr ⟨.inl ?_,c,by show cl.lookup y=_;rw [hcl1 y hm];exact ec,?_⟩
     .show (relabel scope X.env).names.lookup y=_
      rw [show (relabel scope X.env).names.lookup y=_ from ycd y scope.names,hi3]
      simp [hfn,hi4]
     .obtain ⟨o,ho,hd⟩:=z
      exact ⟨o,k4 _ _ ho,hd⟩
  .obtain ⟨v,o,ho,hd⟩:=I3.cell y c (hcle y c e).1
   exact ⟨v,o,k4 _ _ ho,hd⟩
  .have hp:p∈X.pn++pins:=by simpa [cxC] using hp
   obtain ⟨e,n,ne,nf,d⟩:=I3.pin p hp
   exact ⟨k4 _ _ e,n,Cne _ _ e,pinF p hp,d⟩
  .show (none::ix.map fun i=>(σ[i]?).getD none).length=(x::fr).length
   rw [length_cons,length_cons,length_map,hfr.len]
 have st4:tn 0 h4:=T.keep _ _ _ st3 fun b _ o e=>k4 b o e
 have f4:∀ b∈fp,b≠C/\b∉frs X.stack/\(∀ y c,cl.lookup y=some c->c≠b)/\∀ p∈(X.pn++pins)++([]:List (Addr×Obj)),p.1≠b:=fun b hb=>by
  obtain ⟨o,e,_⟩:=T.obj _ _ st3 b hb
  refine ⟨Cne b o e,fun z=>?_,fun y c e=>(f3 b hb).2.2.2.2.1 y c (hcle y c e).1,fun p hp=>(f3 b hb).2.2.2.2.2 p (by simpa using hp)⟩
  rcases mem_cons.mp (stk _ z) with z|z
  .exact (f3 b hb).2.1 z
  .exact (f3 b hb).2.2.1 z
 have stat:∀ {H':Hp},(∀ b∈fp,H' b=none)->∀ b∈fp,yna (cxC X scope cl C (x::fr) s3 H3 fp pins) [] H' b:=fun hn b hb=>⟨hn b hb,(f4 b hb).1,(f4 b hb).2.1,.inl hb,(f4 b hb).2.2.1,(f4 b hb).2.2.2⟩
 have fin:∀ {σ':St}{H':Hp}{s':Shared},Inv (cxC X scope cl C (x::fr) s3 H3 fp pins) [] σ' H' s'->Q (.ref D) H'->compPost (model X.prog X.w) X.A X.xe none (EP X pins σ Q) (.ref D) C (.ok .next) s':=fun {σ' H' s'} I' q'=>by
  obtain ⟨m,hn,_⟩:=I'.loc
  refine ⟨m,hn,fun h' sb=>⟨.ref D,H',?_,rfl,q'⟩⟩
  have hCn:H' C=none:=I'.free
  have same:∀ b,b≠C->h'.get? b=s'.heap.get? b:=fun b hb=>sb.2 b hb
  have U:=I'.base
  have U':Un (frs X.stack) fp H3 H' s3.heap h':=by
   refine ⟨fun b o e n h1 h2=>?_,fun b o e n h1 h2=>?_,U.free,fun b o e h2=>?_,U.tups,U.frzs,U.tbls⟩
   .rw [same b (Cne b o e)];exact U.keep b o e n h1 h2
   .rw [same b (Cne b o e)];exact U.slot b o e n h1 h2
   .rw [same b (Cne b o e)];exact U.there b o e h2
  refine I3.call' (s':={ s' with heap:=h' }) (by show s'.os=s3.os;exact I'.os) U' ?_ I'.bare fun b hb=>⟨(f3 b hb).2.2.2.1,(f3 b hb).2.1,(f3 b hb).2.2.2.2.1,(f3 b hb).2.2.2.2.2⟩
  intro b ob e
  refine (I'.hok b ob e).stay (fun c w' hc q=>?_) (fun _ q=>q) fun _ _ q=>q
  show h'.get? c=_
  rw [same c ?_]
  .exact q
  rintro rfl
  rcases hc with rfl|hc
  .rw [hCn] at e;cases e
  .rw [hCn] at hc;cases hc
 have loop:∀ s5:Shared,s5={ s3 with heap:=h4,toks:=s3.toks+([]:List (Str×Value)).length } ->
   codeAny (model X.prog X.w) X.A (.compLoop (.ListComp elt [⟨.Name x px,iter,cs,0⟩] scope cpos) 0 (.ref it) (.ref D) (compEnvC scope cl C X.env)) (compPost (model X.prog X.w) X.A X.xe none (EP X pins σ Q) (.ref D) C) s5:=by
  rintro s5 rfl
  refine codeAny_loop rfl (fun n s'=>∃ i o H',Inv (cxC X scope cl C (x::fr) s3 H3 fp pins) [] (o::ix.map fun i=>(σ[i]?).getD none) H' s'/\tn i s'.heap/\(∀ b∈fp,H' b=none)/\W i n H') ?_ m0 ⟨0,none,H3,I4,st4,fun b hb=>(f3 b hb).1,w0⟩
  rintro n s6 ⟨i,o,H6,I6,st6,fr6,w6⟩
  show wpAny _ _ ((compTurn (.ListComp elt [⟨.Name x px,iter,cs,0⟩] scope cpos) 0 (.ref it) (.ref D) (compEnvC scope cl C X.env)).onRaise (fun x=>do noteFrame x (compEnvC scope cl C X.env);theTreesLotGoes x)) _ _ s6
  refine wpAny_noted ?_
  rw [compTurn_list]
  rcases turn i n H6 w6 with ⟨stop,qn⟩|⟨go,step⟩
  .refine wpAny_bind (wpAny_standAt (wpAny_bind (thn (T.done (cxC X scope cl C (x::fr) s3 H3 fp pins) rfl rfl rfl hc i [] s6 _ H6 _ I6 (stat fr6) st6 stop) fun r s7 ⟨hr,I7⟩=>?_)))
   subst hr
   exact wpAny_pure (fin I7 qn)
  .refine wpAny_bind (wpAny_standAt (wpAny_bind (thn (T.item (cxC X scope cl C (x::fr) s3 H3 fp pins) rfl rfl rfl hc i [] s6 _ H6 _ I6 (stat fr6) st6 go) fun r s7 ⟨u,hr,h7⟩=>?_)))
   subst hr
   refine wpAny_bind (thn h7 fun _ s8 ⟨y,H8,I8,r8,y8,st8,fr8⟩=>?_)
   have I8':=I8.pinned (stat fr8) (T.obj _ _ st8)
   have hx':Loc (cxC X scope cl C (x::fr) s3 H3 fp pins).env.scope x:=.inl (lookup_relabel_local hx)
   refine wpAny_bind (wpAny_mono (yhZ (X:=cxC X scope cl C (x::fr) s3 H3 fp pins) (i:=0) (x:=x) (pos:=px) hnd rfl hx' (.inr (lookup_relabel_local hx)) _ s8 _ H8 y u (fun σ9 H9=>σ9=inner ix σ y/\H9=H8) I8' r8 ⟨rfl,rfl⟩) (fun _ s9 ⟨σ9,H9,I9,e9,e9'⟩=>?_) fun _ _ f=>f.elim)
   subst e9 e9'
   refine wpAny_bind (wpAny_mono (hq cl C s3 H3 fp pins _ s9 _ _ _ I9 (step y _ y8)) (fun kb s9b hkb=>?_) fun _ _ f=>f.elim)
   obtain ⟨H9b,I9b,q9b⟩:=hkb
   cases kb with
   | false =>
    rw [if_neg (by decide)] at q9b
    obtain ⟨m',hm',w10⟩:=q9b
    refine wpAny_pure ⟨rfl,m',hm',i+1,some y,_,I9b.unpinned,T.keep _ _ _ st8 fun b hb o e=>(I9b.pin (b,o) (mem_append_right _ (mem_append_right _ (yby hb e)))).1,fun b hb=>?_,w10⟩
    obtain ⟨o,e,d⟩:=T.obj _ _ st8 b hb
    exact (I9b.pin (b,o) (mem_append_right _ (mem_append_right _ (yby hb e)))).2.1
   | true =>
   rw [if_pos rfl] at q9b
   refine wpAny_bind (wpAny_bind (wpAny_mono (he cl C s3 H3 fp pins _ s9b _ _ _ I9b q9b) (fun v s10 ⟨z,H10,I10,r10,acc,a10,l10,m',hm',w10⟩=>?_) fun _ _ f=>f.elim))
   refine wpAny_bind (wpAny_mono (yed (X:=cxC X scope cl C (x::fr) s3 H3 fp pins) _ s10 _ H10 (.ref D) [z] (.ref D) [v] (fun _ H11=>H11=upd H10 D (.lst (acc++[z]))) I10 rfl (.cons r10 .nil) ⟨D,acc,z,rfl,rfl,a10,l10,rfl⟩) (fun _ s11 ⟨_,H11,I11,_,e11⟩=>?_) fun _ _ f=>f.elim)
   subst e11
   refine wpAny_pure (wpAny_pure ⟨rfl,m',hm',i+1,some y,_,I11.unpinned,T.keep _ _ _ st8 fun b hb o e=>(I11.pin (b,o) (mem_append_right _ (mem_append_right _ (yby hb e)))).1,fun b hb=>?_,w10⟩)
   obtain ⟨o,e,d⟩:=T.obj _ _ st8 b hb
   exact (I11.pin (b,o) (mem_append_right _ (mem_append_right _ (yby hb e)))).2.1
 exact codeAny_compStart_list (loop _ rfl) (T.self X.A 0 _ _ _ st4 (loop _ rfl))
theorem ymA {y:Str}{py spos:Pos}{iy:Nat}{X:Cx}{elt iter:Expr}{cs:List Expr}{tc:TT}{x:Str}{px:Pos}{scope:Scope}{cpos:Pos}{wi:TI}{te:TE}(ix:List Nat) (fr:List Str) (hc:X.calm=true) (hi:PI X (.Name x px) iter wi) (hfr:FrOk X scope ix fr)
  (he:∀ (cl:List (Str×Addr)) (C:Addr) (s₃:Shared) (H₃:Hp) (fp:List Addr) (pins:List (Addr×Obj)),PE (cxC X scope cl C (x::fr) s₃ H₃ fp pins) elt te)
  (hq:∀ (cl:List (Str×Addr)) (C:Addr) (s₃:Shared) (H₃:Hp) (fp:List Addr) (pins:List (Addr×Obj)),PTs (cxC X scope cl C (x::fr) s₃ H₃ fp pins) cs tc)
  (hnd:(x::fr).Nodup) (hkind:scope.kind=.function) (hcell:∀ y∈scope.names,y.2≠.cell)
  (hnames:∀ y∈scope.names,y.2=.local->scope.names.lookup y.1=some .local) (hfree0:∀ y∈scope.names,y.2=.free->y.1∈fr) (hx:scope.names.lookup x=some .local)
  (hs:∀ v,foldedSetIterable iter X.env v=pure v)
  (hN:X.N.Nodup) (hyi:X.N[iy]?=some y) (hyx:Loc X.env.scope y) (hyf:X.fn y=true\/X.env.scope.names.lookup y=some .local) (hsw:swapsWith (.ListComp elt [⟨.Name x px,iter,cs,0⟩] scope cpos) (some (.Name y py)) spos.line X.env=pure true) :
  PS X (.Assign [.Name y py] (.ListComp elt [⟨.Name x px,iter,cs,0⟩] scope cpos) spos) (ytr (yjT wi ix tc te) (ymZ iy)):=by
 intro pins s σ H D0 I h
 have hfn:X.env.scope.kind=.function:=I.ok.kind
 have hfree:∀ y∈scope.names,y.2=.free->X.env.kindOf y.1=some .cell/\scope.names.lookup y.1=some .free:=fun y hy e=>by
  obtain ⟨j,hj,ej⟩:=getElem_of_mem (hfree0 y hy e)
  obtain ⟨i,_,_,h3,h4⟩:=hfr.get (j:=j) (y:=y.1) (by rw [List.getElem?_eq_getElem hj,ej])
  exact ⟨h4,h3⟩
 obtain ⟨cl,ecl,hcl1,hcl2⟩:=ydg (env:=X.env) scope.names [] fun n hn=>I.ok.has n (.inl (hfree _ hn rfl).1)
 have hclos:closureFor scope X.env=pure cl:=by
  unfold closureFor
  have:(forIn scope.names ([]:List (Str×Addr)) (fun (x:Str×NameKind) (r:List (Str×Addr))=>if (x.2 == NameKind.free)=true then do let c <- cellOf X.env x.1;pure (ForInStep.yield ((x.1,c)::r)) else pure (ForInStep.yield r)):Sem (List (Str×Addr)))=pure cl:=ecl
  first
   | exact (by simpa using congrArg (· >>= fun r=>pure r) this)
   | (rw [show (pure cl:Sem (List (Str×Addr)))=(pure cl >>= fun r=>pure r) from rfl,<- this];rfl)
 have hcle:∀ y c,cl.lookup y=some c->X.env.cells.lookup y=some c/\(y,NameKind.free)∈scope.names:=fun y c e=>by
  by_cases hy:(y,NameKind.free)∈scope.names
  .exact ⟨by rw [<- hcl1 y hy];exact e,hy⟩
  .rw [hcl2 y hy] at e;simp at e
 rw [exec_Assign_Name_used _ _ _ _ hsw]
 refine wpAny_bind (wpAny_standAt (wpAny_bind ?_))
 show wpAny _ X.A (do let _ <- comprehension (.ListComp elt [⟨.Name x px,iter,cs,0⟩] scope cpos) scope X.env _ (newList []) false (eval iter X.env) (some (assign (.Name y py) X.env))) _ _ s
 refine wpAny_bind (wpAny_mono (wpAny_comprehension_free (use:=some (assign (.Name y py) X.env)) (Q:=fun _ s'=>SP X pins D0 .next s') rfl hs hclos hkind hnames ?_) (fun _ s' hq=>wpAny_pure (wpAny_pure hq)) fun _ _ e=>e)
 refine thn (hi pins s σ H _ I h) fun v s1 h1=>thn h1 fun itv s2 h2=>?_
 obtain ⟨it,fp,tn,J,H2,e,I2,T,st2,f2,q2⟩:=h2
 subst e
 refine wpAny_newObj_type ?_
 generalize hs3:({ s2 with heap:=s2.heap.push { cls:=.type "list",dict:=none,data:=.seq ([]:List Value).toArray } }:Shared)=s3
 generalize hD:s2.heap.objs.size=D
 have hDn:H2 D=none:=by rw [<- hD];exact I2.hok.fresh (Nat.le_refl _)
 have I3:Inv X pins σ (upd H2 D (.lst [])) s3:=by
  rw [<- hs3,<- hD]
  exact I2.lnew (t':=s2.toks) (ys:=[]) (its:=[]) .nil (zero_le _)
 have k3:∀ b o,s2.heap.get? b=some o->s3.heap.get? b=some o:=fun b o e=>by rw [<- hs3];exact Heap.get?_push_of_some _ e
 have st3:tn 0 s3.heap:=T.keep _ _ _ st2 fun b _ o e=>k3 b o e
 have fne:∀ b∈fp,b≠D:=fun b hb=>by
  obtain ⟨o,e,_⟩:=T.obj _ _ st2 b hb
  rw [<- hD]
  exact ne_of_lt (Heap.lt_size e)
 have f3:∀ b∈fp,yna X pins (upd H2 D (.lst [])) b:=fun b hb=>⟨by rw [yy (fne b hb)];exact (f2 b hb).1,(f2 b hb).2⟩
 have q3:=q2 D hDn
 generalize upd H2 D (.lst [])=H3 at I3 f3 q3
 obtain ⟨W,⟨m0,w0⟩,turn⟩:=q3
 refine wpAny_newFunctionEnv hcell (by intro y hy;simp at hy) (fun h4 hns hsb=>?_) hkind
 try dsimp only at hns hsb ⊢
 generalize hC:s3.heap.objs.size=C at hns hsb ⊢
 have k4:∀ b o,s3.heap.get? b=some o->h4.get? b=some o:=fun b o e=>(hsb.2 b (by rw [<- hC];exact ne_of_lt (Heap.lt_size e))).trans (Heap.get?_push_of_some _ e)
 have Cne:∀ b o,s3.heap.get? b=some o->b≠C:=fun b o e=>by rw [<- hC];exact ne_of_lt (Heap.lt_size e)
 have stk:=I3.stkSub
 have pinF:∀ p∈X.pn++pins,p.1∉frs X.stack:=fun p hp z=>by
  obtain ⟨_,_,n1,n2,_⟩:=I3.pin p hp
  rcases mem_cons.mp (stk _ z) with z|z
  .exact n1 z
  .exact n2 z
 have okC:(cxC X scope cl C (x::fr) s3 H3 fp pins).Ok:=by
  refine ⟨I3.ok.mod,by show (relabel scope X.env).kind=_;exact hkind,I3.ok.glob,I3.ok.blt,le_of_eq hC,fun y z c h1 h2=>I3.ok.inj y z c (hcle y c h1).1 (hcle z c h2).1,fun y hy=>?_,fun y c hf _=>(by cases hf),I3.ok.hd,I3.ok.frames,.inl rfl,fun b hb=>⟨?_,fun y c e z=>?_⟩,I3.bs,?_,fun b o e hb=>?_,fun b hb z=>?_,I3.stack,I3.stkFree⟩
  .have hy:((relabel scope X.env).names.lookup y=some .cell)\/((relabel scope X.env).names.lookup y=some .free):=hy
   rw [show (relabel scope X.env).names.lookup y=_ from ycd y scope.names] at hy
   cases e:scope.names.lookup y with
   | none=>rw [e] at hy;simp at hy
   | some k =>
    have hm:(y,k)∈scope.names:=PySem.mem_of_lookup e
    have hkf:k=.free:=by
     rw [e] at hy
     cases k<;>simp at hy ⊢
     exact absurd rfl (hcell _ hm)
    subst hkf
    obtain ⟨c,hc'⟩:=I3.ok.has y (.inl (hfree _ hm rfl).1)
    exact ⟨c,by show cl.lookup y=_;rw [hcl1 y hm];exact hc'⟩
  .obtain ⟨o,e,_⟩:=T.obj _ _ st3 b hb
   exact Cne b o e
  .exact (f3 b hb).2.2.2.2.1 y c (hcle y c e).1 z
  .exact Nat.le_trans I3.ok.bsz I3.sz
  .rcases (f3 b hb).2.2.2.1 with z|z
   .exact I3.ok.noex b o e z
   .exact absurd (lt_of_lt_of_le (Heap.lt_size e) (Nat.le_trans I3.ok.bsz z)) (lt_irrefl _)
  .rcases mem_cons.mp (stk _ z) with z|z
   .exact (f3 b hb).2.1 z
   .exact (f3 b hb).2.2.1 z
 have inn:∀ v,(inner ix σ v)=some v::ix.map fun i=>(σ[i]?).getD none:=fun _=>rfl
 have I4:Inv (cxC X scope cl C (x::fr) s3 H3 fp pins) [] (none::ix.map fun i=>(σ[i]?).getD none) H3 { s3 with heap:=h4,toks:=s3.toks+([]:List (Str×Value)).length }:=by
  refine ⟨okC,rfl,I3.bare,Un.kept k4,⟨_,hns,fun j y v e1 e2 e3=>?_⟩,fun y c e=>?_,I3.hok.fresh (le_of_eq hC),fun y c e=>I3.freeC y c (hcle y c e).1,fun p hp=>?_,I3.hok.kept k4,?_⟩
  .match j,e1,e2 with
   | 0,e1,e2=>simp at e2
   | j+1,e1,e2 =>
    obtain ⟨i,hi1,hi2,hi3,hi4⟩:=hfr.get (j:=j) (y:=y) (by have e1':(x::fr)[j+1]?=some y:=e1;simpa using e1')
    have e2':σ[i]?=some (some v):=by
     have e2:(ix.map fun i=>(σ[i]?).getD none)[j]?=some (some v):=by simpa using e2
     rw [getElem?_map,hi1] at e2
     simp at e2
     cases z:σ[i]? with
     | none=>rw [z] at e2;simp at e2
     | some o=>rw [z] at e2;simp at e2;rw [e2]
    obtain ⟨m,_,hl⟩:=I3.loc
    obtain ⟨u,r,l⟩:=hl i y v hi2 e2' (.inr (.inl hi4))
    refine ⟨u,r,?_⟩
    rcases l with ⟨k,_⟩|⟨k,c,ec,z⟩
    .rw [hi4] at k;cases k
    .have hm:(y,NameKind.free)∈scope.names:=PySem.mem_of_lookup hi3
     refine .inr ⟨.inl ?_,c,by show cl.lookup y=_;rw [hcl1 y hm];exact ec,?_⟩
     .show (relabel scope X.env).names.lookup y=_
      rw [show (relabel scope X.env).names.lookup y=_ from ycd y scope.names,hi3]
      simp [hfn,hi4]
     .obtain ⟨o,ho,hd⟩:=z
      exact ⟨o,k4 _ _ ho,hd⟩
  .obtain ⟨v,o,ho,hd⟩:=I3.cell y c (hcle y c e).1
   exact ⟨v,o,k4 _ _ ho,hd⟩
  .have hp:p∈X.pn++pins:=by simpa [cxC] using hp
   obtain ⟨e,n,ne,nf,d⟩:=I3.pin p hp
   exact ⟨k4 _ _ e,n,Cne _ _ e,pinF p hp,d⟩
  .show (none::ix.map fun i=>(σ[i]?).getD none).length=(x::fr).length
   rw [length_cons,length_cons,length_map,hfr.len]
 have st4:tn 0 h4:=T.keep _ _ _ st3 fun b _ o e=>k4 b o e
 have f4:∀ b∈fp,b≠C/\b∉frs X.stack/\(∀ y c,cl.lookup y=some c->c≠b)/\∀ p∈(X.pn++pins)++([]:List (Addr×Obj)),p.1≠b:=fun b hb=>by
  obtain ⟨o,e,_⟩:=T.obj _ _ st3 b hb
  refine ⟨Cne b o e,fun z=>?_,fun y c e=>(f3 b hb).2.2.2.2.1 y c (hcle y c e).1,fun p hp=>(f3 b hb).2.2.2.2.2 p (by simpa using hp)⟩
  rcases mem_cons.mp (stk _ z) with z|z
  .exact (f3 b hb).2.1 z
  .exact (f3 b hb).2.2.1 z
 have stat:∀ {H':Hp},(∀ b∈fp,H' b=none)->∀ b∈fp,yna (cxC X scope cl C (x::fr) s3 H3 fp pins) [] H' b:=fun hn b hb=>⟨hn b hb,(f4 b hb).1,(f4 b hb).2.1,.inl hb,(f4 b hb).2.2.1,(f4 b hb).2.2.2⟩
 have fin:∀ {σ':St}{H':Hp}{s':Shared},Inv (cxC X scope cl C (x::fr) s3 H3 fp pins) [] σ' H' s'->ymZ iy (.ref D) σ H' D0.nx->compPost (model X.prog X.w) X.A X.xe (some (assign (.Name y py) X.env)) (fun _ s'=>SP X pins D0 .next s') (.ref D) C (.ok .next) s':=fun {σ' H' s'} I' q'=>by
  obtain ⟨m,hn,_⟩:=I'.loc
  have hCn:H' C=none:=I'.free
  have U:=I'.base
  have U':Un (frs X.stack) fp H3 H' s3.heap s'.heap:=⟨U.keep,U.slot,U.free,U.there,U.tups,U.frzs,U.tbls⟩
  have IX:Inv X pins σ H' s':=I3.call' (s':=s') (by show s'.os=s3.os;exact I'.os) U' I'.hok I'.bare fun b hb=>⟨(f3 b hb).2.2.2.1,(f3 b hb).2.1,(f3 b hb).2.2.2.2.1,(f3 b hb).2.2.2.2.2⟩
  have hCf:yna X pins H' C:=I3.fpOk (le_of_eq hC) hCn
  obtain ⟨o,es,ep,eo,r1,r2,r3⟩:=hn
  have IP:=IX.pinned (fp:=[C]) (fun b hb=>by have e:b=C:=(by simpa using hb);subst e;exact hCf) (fun b hb=>by have e:b=C:=(by simpa using hb);subst e;exact ⟨o,eo,fun v z=>by rw [r1] at z;cases z⟩)
  refine thn (yhZ hN hyi hyx hyf _ s' σ H' (.ref D) (.ref D) D0.nx IP rfl q') fun _ s2 ⟨σ2,H2',I2',q2'⟩=>?_
  have pc:=I2'.pin (C,o) (mem_append_right _ (mem_append_right _ (yby (by simp) eo)))
  exact ⟨m,⟨o,es,ep,pc.1,r1,r2,r3⟩,fun h' sb=>⟨σ2,H2',I2'.unpinned.turned (t':=s2.toks) (fun b ob hb e=>(sb.2 b hb).trans e) pc.2.1 hCf.2.1 hCf.2.2.2.1 hCf.2.2.2.2.1 hCf.2.2.2.2.2,q2'⟩⟩
 have loop:∀ s5:Shared,s5={ s3 with heap:=h4,toks:=s3.toks+([]:List (Str×Value)).length } ->
   codeAny (model X.prog X.w) X.A (.compLoop (.ListComp elt [⟨.Name x px,iter,cs,0⟩] scope cpos) 0 (.ref it) (.ref D) (compEnvC scope cl C X.env)) (compPost (model X.prog X.w) X.A X.xe (some (assign (.Name y py) X.env)) (fun _ s'=>SP X pins D0 .next s') (.ref D) C) s5:=by
  rintro s5 rfl
  refine codeAny_loop rfl (fun n s'=>∃ i o H',Inv (cxC X scope cl C (x::fr) s3 H3 fp pins) [] (o::ix.map fun i=>(σ[i]?).getD none) H' s'/\tn i s'.heap/\(∀ b∈fp,H' b=none)/\W i n H') ?_ m0 ⟨0,none,H3,I4,st4,fun b hb=>(f3 b hb).1,w0⟩
  rintro n s6 ⟨i,o,H6,I6,st6,fr6,w6⟩
  show wpAny _ _ ((compTurn (.ListComp elt [⟨.Name x px,iter,cs,0⟩] scope cpos) 0 (.ref it) (.ref D) (compEnvC scope cl C X.env)).onRaise (fun x=>do noteFrame x (compEnvC scope cl C X.env);theTreesLotGoes x)) _ _ s6
  refine wpAny_noted ?_
  rw [compTurn_list]
  rcases turn i n H6 w6 with ⟨stop,qn⟩|⟨go,step⟩
  .refine wpAny_bind (wpAny_standAt (wpAny_bind (thn (T.done (cxC X scope cl C (x::fr) s3 H3 fp pins) rfl rfl rfl hc i [] s6 _ H6 _ I6 (stat fr6) st6 stop) fun r s7 ⟨hr,I7⟩=>?_)))
   subst hr
   exact wpAny_pure (fin I7 qn)
  .refine wpAny_bind (wpAny_standAt (wpAny_bind (thn (T.item (cxC X scope cl C (x::fr) s3 H3 fp pins) rfl rfl rfl hc i [] s6 _ H6 _ I6 (stat fr6) st6 go) fun r s7 ⟨u,hr,h7⟩=>?_)))
   subst hr
   refine wpAny_bind (thn h7 fun _ s8 ⟨y,H8,I8,r8,y8,st8,fr8⟩=>?_)
   have I8':=I8.pinned (stat fr8) (T.obj _ _ st8)
   have hx':Loc (cxC X scope cl C (x::fr) s3 H3 fp pins).env.scope x:=.inl (lookup_relabel_local hx)
   refine wpAny_bind (wpAny_mono (yhZ (X:=cxC X scope cl C (x::fr) s3 H3 fp pins) (i:=0) (x:=x) (pos:=px) hnd rfl hx' (.inr (lookup_relabel_local hx)) _ s8 _ H8 y u (fun σ9 H9=>σ9=inner ix σ y/\H9=H8) I8' r8 ⟨rfl,rfl⟩) (fun _ s9 ⟨σ9,H9,I9,e9,e9'⟩=>?_) fun _ _ f=>f.elim)
   subst e9 e9'
   refine wpAny_bind (wpAny_mono (hq cl C s3 H3 fp pins _ s9 _ _ _ I9 (step y _ y8)) (fun kb s9b hkb=>?_) fun _ _ f=>f.elim)
   obtain ⟨H9b,I9b,q9b⟩:=hkb
   cases kb with
   | false =>
    rw [if_neg (by decide)] at q9b
    obtain ⟨m',hm',w10⟩:=q9b
    refine wpAny_pure ⟨rfl,m',hm',i+1,some y,_,I9b.unpinned,T.keep _ _ _ st8 fun b hb o e=>(I9b.pin (b,o) (mem_append_right _ (mem_append_right _ (yby hb e)))).1,fun b hb=>?_,w10⟩
    obtain ⟨o,e,d⟩:=T.obj _ _ st8 b hb
    exact (I9b.pin (b,o) (mem_append_right _ (mem_append_right _ (yby hb e)))).2.1
   | true =>
   rw [if_pos rfl] at q9b
   refine wpAny_bind (wpAny_bind (wpAny_mono (he cl C s3 H3 fp pins _ s9b _ _ _ I9b q9b) (fun v s10 ⟨z,H10,I10,r10,acc,a10,l10,m',hm',w10⟩=>?_) fun _ _ f=>f.elim))
   refine wpAny_bind (wpAny_mono (yed (X:=cxC X scope cl C (x::fr) s3 H3 fp pins) _ s10 _ H10 (.ref D) [z] (.ref D) [v] (fun _ H11=>H11=upd H10 D (.lst (acc++[z]))) I10 rfl (.cons r10 .nil) ⟨D,acc,z,rfl,rfl,a10,l10,rfl⟩) (fun _ s11 ⟨_,H11,I11,_,e11⟩=>?_) fun _ _ f=>f.elim)
   subst e11
   refine wpAny_pure (wpAny_pure ⟨rfl,m',hm',i+1,some y,_,I11.unpinned,T.keep _ _ _ st8 fun b hb o e=>(I11.pin (b,o) (mem_append_right _ (mem_append_right _ (yby hb e)))).1,fun b hb=>?_,w10⟩)
   obtain ⟨o,e,d⟩:=T.obj _ _ st8 b hb
   exact (I11.pin (b,o) (mem_append_right _ (mem_append_right _ (yby hb e)))).2.1
 exact codeAny_compStart_list (loop _ rfl) (T.self X.A 0 _ _ _ st4 (loop _ rfl))
end L2
namespace PX
open PySem L2 PySem.Spec PyProof.Rows
section
variable (K:Ck)
noncomputable def cE (x:XE):TE:=fun σ H Q=>∃ (W0 W:Wd) (ρ:PSt) (y:PV) (h':AH),W.H=H/\Good K W0 W ρ σ/\x ρ W.h=some (y,h')/\∀ v W',W'.h=h'->Le K W W'->ycm K W' y v->Q v W'.H
def cO (x:XO):TE:=fun σ H Q=>∃ (W0 W:Wd) (ρ:PSt) (d:Nd) (h':AH),W.H=H/\Good K W0 W ρ σ/\x ρ W.h=some (d,h')/\∀ p W',W'.h=h'->Le K W W'->p∉W'.m->W.H p=none->d≠.dead->NdAt K W'.F W'.H W'.m d p->Q (.ref p) W'.H
noncomputable def cT (x:XT):TT:=fun σ H Q=>∃ (W0 W:Wd) (ρ:PSt) (y:Bool) (h':AH),W.H=H/\Good K W0 W ρ σ/\x ρ W.h=some (y,h')/\∀ W',W'.h=h'->Le K W W'->Q y W'.H
noncomputable def cA (x:XA):TA:=fun σ H Q=>∃ (W0 W:Wd) (ρ:PSt) (y:List PV) (h':AH),W.H=H/\Good K W0 W ρ σ/\x ρ W.h=some (y,h')/\∀ v W',W'.h=h'->Le K W W'->ycn K W' y v->Q v W'.H
noncomputable def cP (x:PSt->AH->Option (Option Int×AH)):TO:=fun σ H Q=>∃ (W0 W:Wd) (ρ:PSt) (y:Option Int) (h':AH),W.H=H/\Good K W0 W ρ σ/\x ρ W.h=some (y,h')/\∀ W',W'.h=h'->Le K W W'->Q y W'.H
noncomputable def cI (x:XA):TI:=fun σ H R=>∃ (W0 W:Wd) (ρ:PSt) (y:List PV) (h':AH),W.H=H/\Good K W0 W ρ σ/\x ρ W.h=some (y,h')/\∀ J W',W'.h=h'->Le K W W'->yBf K W' J y->R J W'.H
noncomputable def cG (y:XG):TG:=fun v σ H Q=>∃ (W0 W:Wd) (ρ ρ':PSt) (x:PV),W.H=H/\Good K W0 W ρ σ/\ycm K W x v/\y x ρ=some ρ'/\∀ σ',Good K W0 W ρ' σ'->Q σ' W.H
noncomputable def cGs (y:XGs):TGs:=fun v σ H Q=>∃ (W0 W:Wd) (ρ ρ':PSt) (x:List PV),W.H=H/\Good K W0 W ρ σ/\ycn K W x v/\y x ρ=some ρ'/\∀ σ',Good K W0 W ρ' σ'->Q σ' W.H
def cS (s:XS):TS:=fun D σ H=>∃ (W0 W:Wd) (ρ:PSt) (o:Out) (h':AH),W.H=H/\Good K W0 W ρ σ/\s ρ W.h=some (o,h')/\Ends.Ok K W0 W D h' o
noncomputable def cF (s:XS):TS:=fun D σ H=>∃ (W0 W:Wd) (ρ ρ':PSt) (h':AH),W.H=H/\Good K W0 W ρ σ/\s ρ W.h=some (.nx ρ',h')/\∀ W',W'.h=h'->Lf K W W'->Good K W0 W' ρ' σ->D.nx σ W'.H
end
section
variable {K:Ck}
theorem sE {x:XE}:ybt K (cE K x) x:=fun W0 W ρ σ Q y h' g e q=>⟨W0,W,ρ,y,h',rfl,g,e,q⟩
theorem sO {x:XO}:ymc K (cO K x) x:=fun W0 W ρ σ Q y h' g e q=>⟨W0,W,ρ,y,h',rfl,g,e,q⟩
theorem sT {x:XT}:ykx K (cT K x) x:=fun W0 W ρ σ Q y h' g e q=>⟨W0,W,ρ,y,h',rfl,g,e,q⟩
theorem sA {x:XA}:yky K (cA K x) x:=fun W0 W ρ σ Q y h' g e q=>⟨W0,W,ρ,y,h',rfl,g,e,q⟩
theorem sP {x}:yyf K (cP K x) x:=fun W0 W ρ σ Q y h' g e q=>⟨W0,W,ρ,y,h',rfl,g,e,q⟩
theorem sI {x:XA}:ytJ K (cI K x) x:=fun W0 W ρ σ Q y h' g e q=>⟨W0,W,ρ,y,h',rfl,g,e,q⟩
theorem sG {y:XG}:ynQ K (cG K y) y:=fun W0 W ρ ρ' σ x v Q g r e q=>⟨W0,W,ρ,ρ',x,rfl,g,r,e,q⟩
theorem sGs {y:XGs}:ynq K (cGs K y) y:=fun W0 W ρ ρ' σ x v Q g r e q=>⟨W0,W,ρ,ρ',x,rfl,g,r,e,q⟩
theorem sS {s:XS}:yee K (cS K s) s:=fun W0 W ρ σ D o h' g e q=>⟨W0,W,ρ,o,h',rfl,g,e,q⟩
theorem sF {s:XS}:yqW K (cF K s) s:=fun W0 W ρ ρ' σ D h' g e q=>⟨W0,W,ρ,ρ',h',rfl,g,e,q⟩
end
abbrev ckX (X:Cx) (A:Nat->Addr):Ck:=⟨X.K,A⟩
structure ZE (X:Cx) (A:Nat->Addr) (e:Expr) (x:XE):Prop where of:PE X e (cE (ckX X A) x)
structure ZO (X:Cx) (A:Nat->Addr) (e:Expr) (x:XO):Prop where of:PE X e (cO (ckX X A) x)
structure ZT (X:Cx) (A:Nat->Addr) (e:Expr) (x:XT):Prop where of:PT X e (cT (ckX X A) x)
structure ZW (X:Cx) (A:Nat->Addr) (e:Expr) (x:XT):Prop where of:PW X e (cT (ckX X A) x)
structure ZA (X:Cx) (A:Nat->Addr) (e:List Expr) (n:Nat) (x:XA):Prop where
 of:PA X e (cA (ckX X A) x)
 len:∀ ρ h xs h',x ρ h=some (xs,h')->xs.length=n
structure ZP (X:Cx) (A:Nat->Addr) (e:Option Expr) (x:PSt->AH->Option (Option Int×AH)):Prop where of:PO X e (cP (ckX X A) x)
structure ZI (X:Cx) (A:Nat->Addr) (tg e:Expr) (x:XA):Prop where of:PI X tg e (cI (ckX X A) x)
structure ZG (X:Cx) (A:Nat->Addr) (e:Expr) (y:XG):Prop where of:PG X e (cG (ckX X A) y)
structure ZGs (X:Cx) (A:Nat->Addr) (e:List Expr) (y:XGs):Prop where of:PGs X e (cGs (ckX X A) y)
structure ZS (X:Cx) (A:Nat->Addr) (e:Stmt) (s:XS):Prop where of:PS X e (cS (ckX X A) s)
structure ZSs (X:Cx) (A:Nat->Addr) (e:List Stmt) (s:XS):Prop where of:PSs X e (cS (ckX X A) s)
structure ZF (X:Cx) (A:Nat->Addr) (e:Stmt) (s:XS):Prop where of:PS X e (cF (ckX X A) s)
structure ZFs (X:Cx) (A:Nat->Addr) (e:List Stmt) (s:XS):Prop where of:PSs X e (cF (ckX X A) s)
section
variable {X:Cx}{A:Nat->Addr}{e:Expr}{es:List Expr}
theorem wE {t:TE}{x:XE}(p:PE X e t) (s:ybt (ckX X A) t x):ZE X A e x:=⟨fun pins st σ H Q I ⟨W0,W,ρ,y,h',eh,g,ex,q⟩=>by subst eh;exact p pins st σ _ Q I (s W0 W ρ σ Q y h' g ex q)⟩
theorem wO {t:TE}{x:XO}(p:PE X e t) (s:ymc (ckX X A) t x):ZO X A e x:=⟨fun pins st σ H Q I ⟨W0,W,ρ,y,h',eh,g,ex,q⟩=>by subst eh;exact p pins st σ _ Q I (s W0 W ρ σ Q y h' g ex q)⟩
theorem wT {t:TT}{x:XT}(p:PT X e t) (s:ykx (ckX X A) t x):ZT X A e x:=⟨fun pins st σ H Q I ⟨W0,W,ρ,y,h',eh,g,ex,q⟩=>by subst eh;exact p pins st σ _ Q I (s W0 W ρ σ Q y h' g ex q)⟩
theorem wW {t:TT}{x:XT}(p:PW X e t) (s:ykx (ckX X A) t x):ZW X A e x:=⟨fun wh pins st σ H Q I ⟨W0,W,ρ,y,h',eh,g,ex,q⟩=>by subst eh;exact p wh pins st σ _ Q I (s W0 W ρ σ Q y h' g ex q)⟩
theorem wA {t:TA}{x:XA}{n:Nat}(p:PA X es t) (s:yky (ckX X A) t x) (l:∀ ρ h xs h',x ρ h=some (xs,h')->xs.length=n):ZA X A es n x:=⟨fun pos pins st σ H Q I ⟨W0,W,ρ,y,h',eh,g,ex,q⟩=>by subst eh;exact p pos pins st σ _ Q I (s W0 W ρ σ Q y h' g ex q),l⟩
theorem wP {o:Option Expr}{t:TO}{x} (p:PO X o t) (s:yyf (ckX X A) t x):ZP X A o x:=⟨fun pins st σ H Q I ⟨W0,W,ρ,y,h',eh,g,ex,q⟩=>by subst eh;exact p pins st σ _ Q I (s W0 W ρ σ Q y h' g ex q)⟩
theorem wI {tg:Expr}{t:TI}{x:XA}(p:PI X tg e t) (s:ytJ (ckX X A) t x):ZI X A tg e x:=⟨fun pins st σ H Q I ⟨W0,W,ρ,y,h',eh,g,ex,q⟩=>by subst eh;exact p pins st σ _ Q I (s W0 W ρ σ Q y h' g ex q)⟩
theorem wG {t:TG}{y:XG}(p:PG X e t) (s:ynQ (ckX X A) t y):ZG X A e y:=⟨fun pins st σ H v u Q I rv ⟨W0,W,ρ,ρ',x,eh,g,r,ex,q⟩=>by subst eh;exact p pins st σ _ v u Q I rv (s W0 W ρ ρ' σ x v Q g r ex q)⟩
theorem wGs {t:TGs}{y:XGs}(p:PGs X es t) (s:ynq (ckX X A) t y):ZGs X A es y:=⟨fun pins st σ H v u Q I rv ⟨W0,W,ρ,ρ',x,eh,g,r,ex,q⟩=>by subst eh;exact p pins st σ _ v u Q I rv (s W0 W ρ ρ' σ x v Q g r ex q)⟩
theorem wS {st:Stmt}{t:TS}{x:XS}(p:PS X st t) (s:yee (ckX X A) t x):ZS X A st x:=⟨fun pins st σ H D I ⟨W0,W,ρ,o,h',eh,g,ex,q⟩=>by subst eh;exact p pins st σ _ D I (s W0 W ρ σ D o h' g ex q)⟩
theorem wSs {st:List Stmt}{t:TS}{x:XS}(p:PSs X st t) (s:yee (ckX X A) t x):ZSs X A st x:=⟨fun pins st σ H D I ⟨W0,W,ρ,o,h',eh,g,ex,q⟩=>by subst eh;exact p pins st σ _ D I (s W0 W ρ σ D o h' g ex q)⟩
theorem wF {st:Stmt}{t:TS}{x:XS}(p:PS X st t) (s:yqW (ckX X A) t x):ZF X A st x:=⟨fun pins st σ H D I ⟨W0,W,ρ,ρ',h',eh,g,ex,q⟩=>by subst eh;exact p pins st σ _ D I (s W0 W ρ ρ' σ D h' g ex q)⟩
theorem wFs {st:List Stmt}{t:TS}{x:XS}(p:PSs X st t) (s:yqW (ckX X A) t x):ZFs X A st x:=⟨fun pins st σ H D I ⟨W0,W,ρ,ρ',h',eh,g,ex,q⟩=>by subst eh;exact p pins st σ _ D I (s W0 W ρ ρ' σ D h' g ex q)⟩
end
structure Nm (x:Str):Prop where
 d:(x == ("__debug__":Str))=false
 c:(x == ("__classdict__":Str))=false
 n:x≠"__name__"
section
variable {X:Cx}{A:Nat->Addr}{a b c o:Expr}{es:List Expr}{xa xb xc:XE}{xo:XO}{aa:XA}{pos p apos:Pos}{x:Str}{n k:Nat}
theorem yhp {j}:ZE X A (.Constant .none j pos) (xC .non):=wE yxq yvf
theorem ylu {b j}:ZE X A (.Constant (.bool b) j pos) (xC (.bl b)):=wE yAA yxY
theorem yh {i j}:ZE X A (.Constant (.int i) j pos) (xC (.int i)):=wE yxp yoG
theorem yE {x j}:ZE X A (.Constant (.str x) j pos) (xC (.str x)):=wE yxr yoH
theorem z_v {i:Nat}(m:Nm x:=by exact ⟨by rfl',by rfl',by rfl'⟩) (hN:X.N[i]?=some x:=by rfl) (hv:Vis X.env.scope x:=by first|exact Or.inl rfl|exact Or.inr (Or.inl rfl)):ZE X A (.Name x pos) (yf i):=wE (yhA hN hv m.d m.c) (yve i)
theorem yeG {n:Int}{t:Tok}(hm:X.mg x=some (.int n t)) (m:Nm x:=by exact ⟨by rfl',by rfl',by rfl'⟩) (hg:Gl X x:=by rfl):ZE X A (.Name x pos) (xC (.int n)):=wE (yva hg hm m.d) yoG
theorem ymB {n:Str}{t:Tok}(hm:X.mg x=some (.str n t)) (m:Nm x:=by exact ⟨by rfl',by rfl',by rfl'⟩) (hg:Gl X x:=by rfl):ZE X A (.Name x pos) (xC (.str n)):=wE (yvb hg hm m.d) yoH
theorem yfd {k:Nat}(hm:X.mg x=some (.ref (A k))) (m:Nm x:=by exact ⟨by rfl',by rfl',by rfl'⟩) (hg:Gl X x:=by rfl):ZE X A (.Name x pos) (xC (.cls k)):=wE (ykR hg hm m.d) (yvg (K:=ckX X A))
theorem yhq {n:String}(hm:X.mg x=none) (m:Nm x:=by exact ⟨by rfl',by rfl',by rfl'⟩) (hg:Gl X x:=by rfl) (hv:bootBuiltins x=some (.type n):=by rfl'):ZE X A (.Name x pos) (xC (.ty n)):=wE (yxW hg hm hv m.n m.d) yxZ
theorem ycJ (h:ZO X A a xo):ZE X A a (xFz xo):=wE h.of (ytG sO)
theorem ydY (h:ZO X A a xo):ZE X A a (ygd xo):=wE h.of (yoJ sO)
theorem ycy {op:Operator}{r:R2}{q:P2}(ho:OpR X (binaryOp op) r) (hq:ybU (ckX X A) r q) (ha:ZE X A a xa) (hb:ZE X A b xb):ZE X A (.BinOp a op b pos) (xOp q xa xb):=wE (yxJ ho ha.of hb.of) (yme hq sE sE)
theorem ypL {op:Operator}{r:R2}{q:P2O}(ho:OpR X (binaryOp op) r) (hq:ymd (ckX X A) r q) (ha:ZE X A a xa) (hb:ZE X A b xb):ZO X A (.BinOp a op b pos) (ytE q xa xb):=wO (yxJ ho ha.of hb.of) (yvh hq sE sE)
theorem yDK {op:UnaryOp}{r} {q} (ho:UnR X (unaryOp op) r) (hq:yvd (ckX X A) r q) (ha:ZE X A a xa):ZE X A (.UnaryOp op a pos) (xUn q xa):=wE (yAH ho ha.of) (yya hq sE)
theorem yzk (ha:ZE X A a xa):ZE X A (.UnaryOp .Not a pos) (yoE xa):=wE (yxA ha.of) (yrz sE)
theorem yeO {op:CmpOp}{r:R2}{q:P2}(ho:OpR X (compareOp op) r) (hq:ybU (ckX X A) r q) (ha:ZE X A a xa) (hb:ZE X A b xb) (hm:behindInMarks op b=false:=by first|exact yhB _|with_unfolding_all rfl):ZE X A (.Compare a [op] [b] pos) (xOp q xa xb):=wE (yuM ho ha.of hb.of hm) (yme hq sE sE)
theorem yvU {op op':CmpOp}{r r':R2}{q q':P2}(ho:OpR X (compareOp op) r) (ho':OpR X (compareOp op') r') (hq:ybU (ckX X A) r q) (hq':ybU (ckX X A) r' q') (ha:ZE X A a xa) (hb:ZE X A b xb) (hc:ZE X A c xc) (hm:lastMarks [op,op'] [b,c]=false:=by first|exact yhB _|with_unfolding_all rfl):ZE X A (.Compare a [op,op'] [b,c] pos) (yeW q q' xa xb xc):=wE (yri ho ho' ha.of hb.of hc.of hm) (yjB hq hq' sE sE sE)
theorem ylv {op} (h:ZE X A a xa):ZE X A (.BoolOp op [a] pos) xa:=⟨yxy h.of⟩
theorem yiv (ha:ZE X A a xa) (hb:ZE X A (.BoolOp .And (b::es) pos) xb):ZE X A (.BoolOp .And (a::b::es) pos) (ygc xa xb):=wE (yxz ha.of hb.of) (yry sE sE)
section
variable {ca cb:XT}
theorem ypM (hc:ZT X A c ca) (ha:ZE X A a xa) (hb:ZE X A b xb):ZE X A (.IfExp c a b pos) (xIf ca xa xb):=wE (yrd hc.of ha.of hb.of) (yyd sT sE sE)
theorem yt {op:CmpOp}{r:R2}{q:P2}(ho:OpR X (compareOp op) r) (hq:ybU (ckX X A) r q) (ha:ZE X A a xa) (hb:ZE X A b xb) (hm:behindInMarks op b=false:=by first|exact yhB _|with_unfolding_all rfl):ZT X A (.Compare a [op] [b] pos) (yo (xOp q xa xb)):=wT (yuO ho ha.of hb.of hm) (yeX (yme hq sE sE))
theorem ygv {op op':CmpOp}{r r':R2}{q q':P2}(ho:OpR X (compareOp op) r) (ho':OpR X (compareOp op') r') (hq:ybU (ckX X A) r q) (hq':ybU (ckX X A) r' q') (ha:ZE X A a xa) (hb:ZE X A b xb) (hc:ZE X A c xc) (hm:lastMarks [op,op'] [b,c]=false:=by first|exact yhB _|with_unfolding_all rfl):ZT X A (.Compare a [op,op'] [b,c] pos) (yo (yeW q q' xa xb xc)):=wT (yrj ho ho' ha.of hb.of hc.of hm) (yeX (yjB hq hq' sE sE sE))
theorem ybW (ha:ZT X A a ca):ZT X A (.UnaryOp .Not a pos) (yfS ca):=wT (yxv ha.of) (yvj sT)
theorem yX (h:ZE X A a xa) (he:∀ whole,isTrue a X.env whole=(do let v <- whole;standAt a.pos;holding [v] (truthy v)):=by exact fun _=>rfl):ZT X A a (yo xa):=wT (yxs h.of he) (yyb sE)
theorem ymC (h:ZW X A a ca):ZT X A a ca:=⟨PW.pt h.of⟩
theorem ymD (ha:ZT X A a ca) (hb:ZW X A (.BoolOp .And (b::es) pos) cb):ZW X A (.BoolOp .And (a::b::es) pos) (yvc ca cb):=wW (yxu ha.of hb.of) (yvi sT sT)
theorem ygQ (ha:ZT X A a ca) (hb:ZW X A (.BoolOp .Or (b::es) pos) cb):ZW X A (.BoolOp .Or (a::b::es) pos) (xOr ca cb):=wW (yAC ha.of hb.of) (yyc sT sT)
theorem yiw (ha:ZT X A a ca):ZW X A (.BoolOp .And [a] pos) ca:=⟨yuG ha.of⟩
theorem yeH (ha:ZT X A a ca):ZW X A (.BoolOp .Or [a] pos) ca:=⟨yxt ha.of⟩
end
theorem ye:ZA X A [] 0 yk:=wA yhD ylc ylg
theorem ya (ha:ZE X A a xa) (hr:ZA X A es n aa) (hs:starEach (a::es) X.env=(false,eval a X.env)::starEach es X.env:=by rfl):ZA X A (a::es) (n+1) (yc xa aa):=wA (yeL ha.of hr.of hs) (yrA sE sA) (yrD hr.len)
theorem ycz (h:ZA X A es n aa):ZO X A (.List es pos) (yeA aa):=wO (yxN h.of) (yvl sA)
theorem ydy {q} (h:ZA X A es n aa):ZE X A (.Tuple es q pos) (ygG aa):=wE (yxM h.of) (yvk sA)
theorem ypN (h:ZE X A a xa):ZP X A (some a) (ylb xa):=wP (yuV h.of) (yrE sE)
section
variable {lo hi:Option Expr}{xl xh:PSt->AH->Option (Option Int×AH)}{p2:Pos}
theorem yCj {r} {q} (hr:SlR X r) (hq:yoK (ckX X A) r q) (ha:ZE X A a xa) (hl:ZP X A lo xl) (hh:ZP X A hi xh):ZO X A (.Subscript a (.Slice lo hi none p2) pos) (yxX q xa xl xh):=wO (yrr hr ha.of hl.of hh.of) (yvn hq sE sP sP)
end
theorem ybs {r:R2}{q:P2}(hr:IxR X r) (hq:ybU (ckX X A) r q) (ha:ZE X A a xa) (hb:ZE X A b xb) (hs:yor b:=by exact fun _ _=>rfl):ZE X A (.Subscript a b pos) (xOp q xa xb):=wE (yAM hr ha.of hb.of hs) (yme hq sE sE)
theorem yC {cs:List Nat}{f:Str}(hc:∀ k∈cs,Cls X.K (A k)/\NoAttr X.K (A k) f) (ha:ZE X A a xa) (hb:attributeBase a f X.env (eval a X.env)=eval a X.env:=by rfl):ZE X A (.Attribute a f pos) (ybm cs f xa):=wE (yxL ha.of hb) (yvz (K:=ckX X A) hc sE)
section
variable {f C:Addr}{fd:FuncData}{ps:List Str}{lv:Nat}{fn:Fn}
theorem yM (F:FnOk X.prog X.w X.K X.mg X.base CX0 lv f fd ps (spE (ckX X A) (n+1) fn)) (hm:X.mg x=some (.ref f)) (hk:keepIn X.K (.ref f)=true) (hb:Binds X.K fd ps []) (ha:ZA X A (a::es) (n+1) aa) (hr:Room lv X.A:=by exact hr.mono (by omega)) (m:Nm x:=by exact ⟨by rfl',by rfl',by rfl'⟩) (hg:Gl X x:=by rfl) (he:starEach (a::es) X.env=(false,eval a X.env)::starEach es X.env:=by rfl) (hpl:(backTo pos (starEach es X.env)).any (·.1)=false:=by rfl):ZE X A (.Call (.Name x p) (a::es) [] pos) (yT fn aa) :=
 wE (yuT F hr hg hm hk hb .nil yjh ha.of m.d he hpl) (yrC sA ha.len)
theorem yhO {k:Nat}{fi} (M:Mk X.K (A k) f) (F:FnOk X.prog X.w X.K X.mg X.base CX0 lv f fd ps (spI (ckX X A) (n+1) k fi)) (hm:X.mg x=some (.ref (A k))) (hb:Binds X.K fd ps []) (ha:ZA X A (a::es) (n+1) aa) (hr:Room (lv+1) X.A:=by exact hr.mono (by omega)) (m:Nm x:=by exact ⟨by rfl',by rfl',by rfl'⟩) (hg:Gl X x:=by rfl) (he:starEach (a::es) X.env=(false,eval a X.env)::starEach es X.env:=by rfl) (hpl:(backTo pos (starEach es X.env)).any (·.1)=false:=by rfl):ZO X A (.Call (.Name x p) (a::es) [] pos) (ygK fi aa) :=
 wO (yoo M F hr hg hm hb .nil yjh ha.of m.d he hpl) (ymj (K:=ckX X A) (k:=k) sA ha.len)
theorem yvV {m:Str}{fm:Nat->Fn}{pl:Sem Bool}(he:ZE X A o xa) (G:ykQ X.prog X.w X.K X.mg X.base lv A m (fun k=>spE (ckX X A) 1 (fm k))) (hr:Room lv X.A:=by exact hr.mono (by omega)) (ht:eval (.Call (.Attribute o m apos) [] [] pos) X.env=(do
   let ov <- eval o X.env
   standAt apos.atName
   let (f,first) <- holding [ov] (getMethod ov m pl)
   callWith pos f first (backTo pos (starEach [] X.env)) (backToKw pos (keywordEach [] X.env))):=by rfl):ZE X A (.Call (.Attribute o m apos) [] [] pos) (ypa m fm xa) :=
 wE (yoD he.of G hr ht) (ysb (K:=ckX X A) sE)
end
theorem yde {id:String}{r} {q} (hc:CallR X (.builtin id) r) (hq:yge (ckX X A) r q) (hm:X.mg x=none) (ha:ZA X A (a::es) n aa) (m:Nm x:=by exact ⟨by rfl',by rfl',by rfl'⟩) (hg:Gl X x:=by rfl) (hv:bootBuiltins x=some (.builtin id):=by rfl') (he:starEach (a::es) X.env=(false,eval a X.env)::starEach es X.env:=by rfl) (hpl:(backTo pos (starEach es X.env)).any (·.1)=false:=by rfl):ZE X A (.Call (.Name x p) (a::es) [] pos) (xCB q aa) :=
 wE (yib hc hg hm hv ha.of m.n m.d he hpl) (ytH hq sA)
theorem ysx {T:String}{r} {q} (hc:CallR X (.type T) r) (hq:yge (ckX X A) r q) (hm:X.mg x=none) (ha:ZA X A (a::es) n aa) (m:Nm x:=by exact ⟨by rfl',by rfl',by rfl'⟩) (hg:Gl X x:=by rfl) (hv:bootBuiltins x=some (.type T):=by rfl') (he:starEach (a::es) X.env=(false,eval a X.env)::starEach es X.env:=by rfl) (hpl:(backTo pos (starEach es X.env)).any (·.1)=false:=by rfl):ZE X A (.Call (.Name x p) (a::es) [] pos) (xCB q aa) :=
 wE (yje hc hg hm hv ha.of m.n m.d he hpl) (ytH hq sA)
theorem ydV {T:String}{r} {q} (hc:CallR X (.type T) r) (hq:yoF (ckX X A) r q) (hm:X.mg x=none) (ha:ZA X A (a::es) n aa) (m:Nm x:=by exact ⟨by rfl',by rfl',by rfl'⟩) (hg:Gl X x:=by rfl) (hv:bootBuiltins x=some (.type T):=by rfl') (he:starEach (a::es) X.env=(false,eval a X.env)::starEach es X.env:=by rfl) (hpl:(backTo pos (starEach es X.env)).any (·.1)=false:=by rfl):ZO X A (.Call (.Name x p) (a::es) [] pos) (yjA q aa) :=
 wO (yje hc hg hm hv ha.of m.n m.d he hpl) (yvm hq sA)
section
variable {name:Str}{cpos:Pos}{T id:String}{r:V->List V->Hp->VK->Prop}{cc:PV->AH->Bool}{q:PM}
theorem yxg (pa:PlainAttrs T) (slot:Slot T name id) (hty:typeOf (.builtin id)=pure (.type "method_descriptor")) (hm:MtR X id r) (hq:ynn (ckX X A) T cc r q) (ho:ZE X A o xa) (ha:ZA X A (a::es) n aa) (hbase:attributeBase o name X.env (eval o X.env)=eval o X.env:=by rfl) (hfew:((backTo cpos (starEach (a::es) X.env)).all (fun x=>!x.1) && (backToKw cpos (keywordEach [] X.env)).all (fun x=>x.1.isSome)
   && decide ((a::es).length+([]:List Keyword).length+(if ([]:List Keyword).isEmpty then 0 else 1)<30))=true:=by rfl) (hline:(apos.endLine == cpos.line)=true:=by rfl) (hs:starEach (a::es) X.env=(false,eval a X.env)::starEach es X.env:=by rfl) (hplain:(backTo cpos (starEach es X.env)).any (·.1)=false:=by rfl) :
  ZE X A (.Call (.Attribute o name apos) (a::es) [] cpos) (xBM cc q xa aa):=wE (yuX pa slot hty hm ho.of ha.of hbase hfew hline hs hplain) (yye (K:=ckX X A) hq sE sA)
theorem yzl {i:Nat}(ha:ZE X A a xa) (ho:PE X o (ynP i):=by exact yhA rfl (by first|exact Or.inl rfl|exact Or.inr (Or.inl rfl)) (by rfl') (by rfl')) (hbase:attributeBase o "append" X.env (eval o X.env)=eval o X.env:=by rfl) (hfew:((backTo cpos (starEach [a] X.env)).all (fun x=>!x.1) && (backToKw cpos (keywordEach [] X.env)).all (fun x=>x.1.isSome)
   && decide ([a].length+([]:List Keyword).length+(if ([]:List Keyword).isEmpty then 0 else 1)<30))=true:=by rfl) (hline:(apos.endLine == cpos.line)=true:=by rfl) (hs:starEach [a] X.env=(false,eval a X.env)::starEach [] X.env:=by rfl) (hplain:(backTo cpos (starEach [] X.env)).any (·.1)=false:=by rfl) (hsw:swapsWith (.Call (.Attribute o "append" apos) [a] [] cpos) none pos.line X.env=pure false:=by rfl) :
  ZS X A (.Expr (.Call (.Attribute o "append" apos) [a] [] cpos) pos) (ynp i xa) :=
 wS (yhY (yuX plainAttrs_list PySem.F.slot_list_append PySem.F.type_list_append yed ho (yeL ha.of yhD hs) hbase hfew hline hs hplain) hsw) (yrM (K:=ckX X A) i sE)
end
section
variable {tg:Expr}
theorem ydo (h:ZE X A a xa):ZI X A tg a (xIL xa):=wI (yod h.of) (yoQ (K:=ckX X A) sE)
theorem yzm (h:ZE X A a xa):ZI X A tg a (xIT xa):=wI (yxG h.of) (yrN (K:=ckX X A) sE)
theorem ymE (h:ZE X A a xa):ZI X A tg a (xIS xa):=wI (yxV h.of) (yrO sE)
theorem yix (hm:X.mg "range" = none) (ha:ZA X A [a] n aa) (hg:Gl X "range":=by rfl) (hs:starEach [a] X.env=[(false,eval a X.env)]:=by rfl):ZI X A tg (.Call (.Name "range" p) [a] [] pos) (ymf aa):=wI (yoe hg hm ha.of hs) (yoR sA)
end
theorem ycE {i:Nat}(hN:X.N.Nodup:=by exact nd) (hi:X.N[i]?=some x:=by rfl) (hx:Loc X.env.scope x:=by first|exact Or.inl rfl|exact Or.inr rfl) (hf:X.fn x=true\/X.env.scope.names.lookup x=some .local:=by exact Or.inl rfl):ZG X A (.Name x pos) (yz i):=wG (yhZ hN hi hx hf) (yeZ i)
theorem ypO:ZGs X A [] yvo:=wGs yuI yrI
theorem yfe {y:XG}{ys:XGs}(h1:ZG X A a y) (h2:ZGs X A es ys) (hs:(assignEach (a::es) X.env).map (·.2)=assign a X.env::(assignEach es X.env).map (·.2):=by rfl):ZGs X A (a::es) (ygf y ys):=wGs (yrf h1.of h2.of hs) (yoO sG sGs)
theorem yuc {ys:XGs}{q:Nat}(h:ZGs X A es ys) (hc:X.calm=true:=by rfl) (hn:(assignEach es X.env).length=n:=by rfl) (hst:(assignEach es X.env).findIdx? (·.1)=none:=by rfl):ZG X A (.Tuple es q pos) (ytI n ys):=wG (yxE hc h.of hn hst) (yrJ (K:=ckX X A) sGs)
theorem yff {elt iter:Expr}{px:Pos}{scope:Scope}{cpos:Pos}{it:XA}{xe:XE}{ix:List Nat}(fr:List Str) (hi:ZI X A (.Name x px) iter it) (he:∀ (cl:List (Str×Addr)) (C:Addr) (s₃:Shared) (H₃:Hp) (fp:List Addr) (pins:List (Addr×Obj)),ZE (cxC X scope cl C (x::fr) s₃ H₃ fp pins) A elt xe) (hc:X.calm=true:=by rfl) (hfr:FrOk X scope ix fr:=by repeat' first|exact True.intro|exact rfl|refine And.intro ?_ ?_) (hnd:(x::fr).Nodup:=by rfl') (hkind:scope.kind=.function:=by rfl) (hcell:∀ y∈scope.names,y.2≠.cell:=by rfl') (hnames:∀ y∈scope.names,y.2=.local->scope.names.lookup y.1=some .local:=by rfl') (hfree0:∀ y∈scope.names,y.2=.free->y.1∈fr:=by rfl') (hx:scope.names.lookup x=some .local:=by rfl) (hs:∀ v,foldedSetIterable iter X.env v=pure v:=by exact fun _=>rfl):ZO X A (.ListComp elt [⟨.Name x px,iter,[],0⟩] scope cpos) (ydd it ix xe) :=
 wO (yzi (ymz ix fr hc hi.of hfr (te:=cE (ckX X A) xe) (fun cl C s₃ H₃ fp pins=>(he cl C s₃ H₃ fp pins).of) (fun _ _ _ _ _ _=>yiu) hnd hkind hcell hnames hfree0 hx hs)) (yim (K:=ckX X A) ix sI sE)
section
variable {st:Stmt}{rest:List Stmt}{s u:XS}
theorem yi (h:ZE X A a xa):ZS X A (.Return (some a) pos) (yK xa):=wS (yxC h.of) (yvq sE)
theorem ybz (h:ZE X A a xa) (hs:swapsWith a none pos.line X.env=pure false:=by rfl):ZS X A (.Expr a pos) (yco xa):=wS (yhY h.of hs) (yrH sE)
theorem yH {i:Nat}{pos':Pos}(h:ZE X A a xa) (hN:X.N.Nodup:=by exact nd) (hi:X.N[i]?=some x:=by rfl) (hx:Loc X.env.scope x:=by first|exact Or.inl rfl|exact Or.inr rfl) (hs:swapsWith a (some (.Name x pos')) pos.line X.env=pure false:=by rfl) (hf:X.fn x=true\/X.env.scope.names.lookup x=some .local:=by exact Or.inl rfl):ZS X A (.Assign [.Name x pos'] a pos) (ycl xa (yz i)) :=
 wS (ytt hN hi hx h.of hs hf) (yil sE (yeZ i))
theorem ypP {i:Nat}{pos':Pos}(h:ZO X A a xo) (hN:X.N.Nodup:=by exact nd) (hi:X.N[i]?=some x:=by rfl) (hx:Loc X.env.scope x:=by first|exact Or.inl rfl|exact Or.inr rfl) (hs:swapsWith a (some (.Name x pos')) pos.line X.env=pure false:=by rfl) (hf:X.fn x=true\/X.env.scope.names.lookup x=some .local:=by exact Or.inl rfl):ZS X A (.Assign [.Name x pos'] a pos) (yoL xo i) :=
 wS (ytt hN hi hx h.of hs hf) (yrK i sO)
theorem yzn {tg:Expr}{y:XG}(h:ZE X A a xa) (hg:ZG X A tg y) (hs:swapsWithSole [tg] a pos.line X.env=pure false:=by rfl) (hw:swappedStores [tg] a X.env=pure none:=by rfl) (h1:(assignEach [tg] X.env).map (·.2)=[assign tg X.env]:=by rfl):ZS X A (.Assign [tg] a pos) (ycl xa y):=wS (yts h.of hg.of hs hw h1) (yil sE sG)
theorem ycf {cs:List Nat}{f:Str}{pos':Pos}{i:Nat}(hc:∀ k∈cs,Cls X.K (A k)/\NoAttr X.K (A k) f) (h:ZE X A a xa) (ho:PE X o (ynP i):=by exact yhA rfl (by first|exact Or.inl rfl|exact Or.inr (Or.inl rfl)) (by rfl') (by rfl')) (hs:swapsWith a (some (.Attribute o f pos')) pos.line X.env=pure false:=by rfl):ZF X A (.Assign [.Attribute o f pos'] a pos) (ycZ cs i f xa):=wF (ytx ho h.of hs) (yrY (K:=ckX X A) hc sE)
theorem yB {ca:XT}{l m:List Stmt}(hc:ZT X A c ca) (ha:ZSs X A l s) (hb:ZSs X A m u):ZS X A (.If c l m pos) (ybn ca s u):=wS (yAE hc.of ha.of hb.of) (yvr sT sS sS)
theorem yhP {tg iter:Expr}{it:XA}{y:XG}(hi:ZI X A tg iter it) (hg:ZG X A tg y) (hb:ZSs X A rest s) (hp:PassesOwn (model X.prog X.w) X.A X.env X.xe:=by exact PassesOwn.never) (hc:X.calm=true:=by rfl) (hs:∀ x,foldedSetIterable iter X.env x=pure x:=by exact fun _=>rfl):ZS X A (.For tg iter rest [] pos) (yoM it y s):=wS (ylT hp hc hi.of hg.of hb.of hs) (yvu sI sG sS)
theorem ysy {ca:XT}{fu:Nat}(hc:ZT X A c ca) (hb:ZSs X A rest s) (hp:PassesOwn (model X.prog X.w) X.A X.env X.xe:=by exact PassesOwn.never):ZS X A (.While c rest [] pos) (yjC fu ca s):=wS (yrg hp hc.of hb.of) (yoS fu sT sS)
theorem yj:ZSs X A [] yD:=wSs yuH yrG
theorem yd (h:ZS X A st s):ZSs X A [st] s:=⟨yoa h.of⟩
theorem yb (h:ZS X A st s) (hr:ZSs X A rest u):ZSs X A (st::rest) (yn s u):=wSs (ylR h.of hr.of) (yvp sS sS)
theorem ypQ {i:Nat}(h:ZSs X A rest s):ZSs X A rest (yyg i s):=wSs h.of (yvs i sS)
theorem yeg (h:ZF X A st s):ZFs X A [st] s:=⟨yoa h.of⟩
theorem ybJ (h:ZF X A st s) (hr:ZFs X A rest u):ZFs X A (st::rest) (yn s u):=wFs (ylR h.of hr.of) (yrZ sF sF)
end
end
section
variable {P:Program}{w:World}{K:PySem.W.Frag}{mg:Str->Option Value}{base:Heap}{A:Nat->Addr}
theorem zfn {x qual:Str}{st:Stmt}{f:Addr}{fd:FuncData}{N ps:List Str}{k:Nat}{s:XS}(F:Fun K x qual st f fd) (S:ydG N ps (ybl st))
  (h:∀ (cdv:Value) (Ar:Around) (outer:List Env) (sh:Shared) (H:Hp) (E:XK),Room k (Ar.deeper (envOfC qual (ybl st) sh.heap.objs.size f cdv))->ZSs (yrq CX0 P w K mg base N qual (ybl st) f cdv Ar outer sh H E).nox A (yeM st) s) :
  FnOk P w K mg base CX0 (k+1) f fd ps (spE ⟨K,A⟩ ps.length (ybC N.length s)) :=
 F.ok S (fun _ _ _ _ h=>yvv h) fun cdv Ar outer sh H vs Q E hr hq=>⟨_,(h cdv Ar outer sh H E hr).of,yrP (K:=⟨K,A⟩) sS hq⟩
theorem zin {x qual:Str}{st:Stmt}{f:Addr}{fd:FuncData}{N ps:List Str}{k kc n:Nat}{s:XS}(F:Fun K x qual st f fd) (S:ydG N ps (ybl st)) (hn:ps.length=n+1) (hN:n+1<=N.length)
  (h:∀ (cdv:Value) (Ar:Around) (outer:List Env) (sh:Shared) (H:Hp) (E:XK),Room k (Ar.deeper (envOfC qual (ybl st) sh.heap.objs.size f cdv))->ZFs (yrq CX0 P w K mg base N qual (ybl st) f cdv Ar outer sh H E).nox A (yeM st) s) :
  FnOk P w K mg base CX0 (k+1) f fd ps (spI ⟨K,A⟩ n kc (ynR N.length kc s)) :=
 F.ok S (fun _ _ _ _ h=>(yvA h).trans hn.symm) fun cdv Ar outer sh H vs Q E hr hq=>⟨_,(h cdv Ar outer sh H E hr).of,ysa (K:=⟨K,A⟩) hN sF hq⟩
end
end PX
namespace PX
open PySem L2 PySem.Spec PyProof.Rows
section
variable {X:Cx}{A:Nat->Addr}{a b c o i:Expr}{es:List Expr}{xa xb xc xd xk xv:XE}{xo:XO}{aa:XA}{pos p apos cpos pos':Pos}{x:Str}{n k:Nat}
theorem yfg (ho:ZE X A o xd) (hi:ZE X A i xk) (hu:X.A.units+1<cLine:=by exact yox hr) (hs:yBW i:=by exact fun _ _=>rfl):ZE X A (.Subscript o i pos) (ydw xd xk):=wE (yvJ hu ho.of hi.of hs) (ysi sE sE)
theorem yzo (hi:ZE X A i xk) (ho:ZE X A o xd) (hu:X.A.units+1<cLine:=by exact yox hr) (hm:behindInMarks .In o=false:=by first|exact yhB _|with_unfolding_all rfl):ZT X A (.Compare i [.In] [o] pos) (yo (ypl false xk xd)):=wT (ytp (yyS hu hi.of ho.of) hm) (yeX (yvL sE sE))
theorem ypR (hi:ZE X A i xk) (ho:ZE X A o xd) (hu:X.A.units+1<cLine:=by exact yox hr) (hm:behindInMarks .NotIn o=false:=by first|exact yhB _|with_unfolding_all rfl):ZT X A (.Compare i [.NotIn] [o] pos) (yo (ypl true xk xd)):=wT (ytp (ypi hu hi.of ho.of) hm) (yeX (ynv sE sE))
theorem ydL (ho:ZE X A o xd) (hi:ZE X A i xk) (hv:ZE X A a xv) (hu:X.A.units+1<cLine:=by exact yox hr) (hs:swapsWith a (some (.Subscript o i pos')) pos.line X.env=pure false:=by rfl):ZS X A (.Assign [.Subscript o i pos'] a pos) (yeC xd xk xv):=wS (yvK hu ho.of hi.of hv.of hs) (ysj sE sE sE)
theorem yhQ:ZO X A (.Dict [] [] pos) yip:=wO ysd ysk
theorem yvW (ho:ZE X A o xd) (hi:ZE X A i xk) (hb:ZE X A b xb) (m:M2 X o "get" apos i b cpos) (hu:X.A.units+1<cLine:=by exact yox hr):ZE X A (.Call (.Attribute o "get" apos) [i,b] [] cpos) (ymn xd xk xb):=wE (yse hu ho.of hi.of hb.of m) (ypm sE sE sE)
theorem ygR (h:ZE X A a xv) (ho:ZE X A o xd) (hi:ZE X A i xk) (ha:∀ v,assign (.Subscript o i pos') X.env v=(do
   let ov <- holding [v] (eval o X.env)
   let iv <- holding [v,ov] (eval i X.env)
   standAt pos'
   holding [v,ov,iv] (setItem ov iv v)
   release [v,ov,iv] []):=by exact fun _=>rfl) (hs:swapsWithSole [.Subscript o i pos'] a pos.line X.env=pure false:=by rfl) (hw:swappedStores [.Subscript o i pos'] a X.env=pure none:=by rfl) (h1:(assignEach [.Subscript o i pos'] X.env).map (·.2)=[assign (.Subscript o i pos') X.env]:=by rfl) :
  ZS X A (.Assign [.Subscript o i pos'] a pos) (ygg xd xk xv):=wS (yts h.of (yxF ho.of hi.of set_list ha) hs hw h1) (ysg sE sE sE)
end
end PX
namespace PX
open PySem L2 PySem.Spec PyProof.Rows
theorem ylw:bootBuiltins "reversed" = some (.type "reversed"):=by rfl'
section
variable {X:Cx}{A:Nat->Addr}{a b c o:Expr}{es:List Expr}{xa xb xc:XE}{pos p apos cpos:Pos}{x:Str}{n k:Nat}
theorem yzp {i:Nat}(ha:ZE X A a xa) (ho:PE X o (ynP i):=by exact yhA rfl (by first|exact Or.inl rfl|exact Or.inr (Or.inl rfl)) (by rfl') (by rfl')) (hbase:attributeBase o "extend" X.env (eval o X.env)=eval o X.env:=by rfl) (hfew:((backTo cpos (starEach [a] X.env)).all (fun x=>!x.1) && (backToKw cpos (keywordEach [] X.env)).all (fun x=>x.1.isSome)
   && decide ([a].length+([]:List Keyword).length+(if ([]:List Keyword).isEmpty then 0 else 1)<30))=true:=by rfl) (hline:(apos.endLine == cpos.line)=true:=by rfl) (hs:starEach [a] X.env=(false,eval a X.env)::starEach [] X.env:=by rfl) (hplain:(backTo cpos (starEach [] X.env)).any (·.1)=false:=by rfl) (hsw:swapsWith (.Call (.Attribute o "extend" apos) [a] [] cpos) none pos.line X.env=pure false:=by rfl) :
  ZS X A (.Expr (.Call (.Attribute o "extend" apos) [a] [] cpos) pos) (ynw i xa) :=
 wS (yhY (yuX plainAttrs_list PySem.F.slot_list_extend PySem.F.type_list_extend you ho (yeL ha.of yhD hs) hbase hfew hline hs hplain) hsw) (ysm (K:=ckX X A) i sE)
theorem yzq {i:Nat}(hm:X.mg x=none) (ho:PE X a (ynP i):=by exact yhA rfl (by first|exact Or.inl rfl|exact Or.inr (Or.inl rfl)) (by rfl') (by rfl')) (m:Nm x:=by exact ⟨by rfl',by rfl',by rfl'⟩) (hg:Gl X x:=by rfl) (hv:bootBuiltins x=some (.builtin "len"):=by rfl') (he:starEach [a] X.env=(false,eval a X.env)::starEach [] X.env:=by rfl) (hpl:(backTo pos (starEach [] X.env)).any (·.1)=false:=by rfl) :
  ZE X A (.Call (.Name x p) [a] [] pos) (ypt i) :=
 wE (yib yA hg hm hv (yeL ho yhD he) m.n m.d he hpl) (ysn (K:=ckX X A) i)
end
section
variable {X:Cx}{A:Nat->Addr}{tg a b c:Expr}{p pos:Pos}{aa:XA}{n:Nat}
end
section
theorem ycP {xs:List V}{its:List Value}(r:Vals xs its) {j:Nat}(hj:j<its.toArray.size):∃ x,xs[j]?=some x/\RelV x its.toArray[j]:=by
 have hl:=r.length
 have j1:j<its.length:=by simpa using hj
 have x1:xs[j]?=some xs[j]:=List.getElem?_eq_getElem (by omega)
 obtain ⟨u1,q1,w1⟩:=r.get x1
 have g1:its.toArray[j]=u1:=by
  have:=List.getElem?_eq_getElem j1
  rw [q1] at this
  simpa using (Option.some.inj this).symm
 exact ⟨_,x1,by rw [g1];exact w1⟩
variable {X:Cx}
theorem ymF {pins:List (Addr×Obj)}{σ:L2.St}{H:Hp}{s:Shared}(I:Inv X pins σ H s) {n:Nat}{x y:V}{b:Bool}(r:EqR X.K H n x y b):∀ {A:Around}{u v:Value},RelV x u->RelV y v->A.units+n<cLine->SeqAt.EqAt A s u v b:=by
 induction r with
 | flat fx fy=>exact fun rx ry _=>eqAt_V rx ry fx fy
 | same =>
  intro A u v rx ry _
  cases rx
  cases ry
  exact SeqAt.EqAt.same _
 | odd h =>
  obtain ⟨a,o,ob,h1,h2⟩:=h
  have:=(I.bs a ob (I.ok.mod.kin a ob h2)).2
  rw [h1] at this
  cases this
 | nt hb =>
  intro A u v rx ry hu
  cases rx
  cases ry
  obtain ⟨i2,r2,p2,z2⟩:=I.tuple hb
  exact SeqAt.EqAt.none_tuple p2 (by omega)
 | tn hb =>
  intro A u v rx ry hu
  cases rx
  cases ry
  obtain ⟨i2,r2,p2,z2⟩:=I.tuple hb
  exact SeqAt.EqAt.tuple_none p2 (by omega)
 | @lst n a b xs ys e ha hb hl hne he ih =>
  intro A u v rx ry hu
  cases rx
  cases ry
  obtain ⟨i1,n1,r1,e1,z1⟩:=I.lst ha
  obtain ⟨i2,n2,r2,e2,z2⟩:=I.lst hb
  have l1:=r1.length
  have l2:=r2.length
  rw [show xs.length=i1.toArray.size by simp only [size_toArray];omega]
  refine SeqAt.EqAt.of_refs hne (SeqAt.RcAt.lists ⟨_,e1,rfl,n1,rfl⟩ ⟨_,e2,rfl,n2,rfl⟩ (by simp only [size_toArray];omega) (by omega) fun j j1 j2=>?_)
  obtain ⟨x1,q1,w1⟩:=ycP r1 j1
  obtain ⟨y1,q2,w2⟩:=ycP r2 j2
  exact ih j x1 y1 q1 q2 w1 w2 (by show A.units+1+n<cLine;omega)
 | @lstN n a b xs ys ha hb hl =>
  intro A u v rx ry hu
  cases rx
  cases ry
  obtain ⟨i1,n1,r1,e1,z1⟩:=I.lst ha
  obtain ⟨i2,n2,r2,e2,z2⟩:=I.lst hb
  have l1:=r1.length
  have l2:=r2.length
  have hne:a≠b:=fun z=>by subst z;rw [ha] at hb;cases hb;exact hl rfl
  exact SeqAt.EqAt.of_refs hne (SeqAt.RcAt.lists_lengths ⟨_,e1,rfl,n1,rfl⟩ ⟨_,e2,rfl,n2,rfl⟩ (by simp only [size_toArray,bne_iff_ne];omega) (by omega))
 | @tup n a b xs ys e ha hb hne he ih =>
  intro A u v rx ry hu
  cases rx
  cases ry
  obtain ⟨i1,r1,p1,z1⟩:=I.tuple ha
  obtain ⟨i2,r2,p2,z2⟩:=I.tuple hb
  have l1:=r1.length
  have l2:=r2.length
  rw [show xs.length=i1.toArray.size by simp only [size_toArray];omega,show ys.length=i2.toArray.size by simp only [size_toArray];omega]
  refine SeqAt.EqAt.of_refs hne (SeqAt.RcAt.tuples p1 p2 (by omega) fun j j1 j2=>?_)
  obtain ⟨x1,q1,w1⟩:=ycP r1 j1
  obtain ⟨y1,q2,w2⟩:=ycP r2 j2
  exact ih j x1 y1 q1 q2 w1 w2 (by show A.units+1+n<cLine;omega)
theorem yzr (hu:X.A.units+60<cLine):OpR X (compareOp .Eq) (yDf X.K):=by
 intro pins s σ H x y v u Q I rx ry h
 obtain ⟨b,hb,q⟩:=h
 cases hb with
 | nt hb =>
  cases rx
  cases ry
  obtain ⟨i2,r2,p2,z2⟩:=I.tuple hb
  exact SeqAt.RcAt.none_tuple p2 (by omega) _ _ _ _ ⟨.bl _,H,I,rfl,q⟩
 | tn hb =>
  cases rx
  cases ry
  obtain ⟨i2,r2,p2,z2⟩:=I.tuple hb
  exact SeqAt.RcAt.tuple_none p2 (by omega) _ _ _ _ ⟨.bl _,H,I,rfl,q⟩
 | @lst a b xs ys e ha hb hl he =>
  cases rx
  cases ry
  obtain ⟨i1,n1,r1,e1,z1⟩:=I.lst ha
  obtain ⟨i2,n2,r2,e2,z2⟩:=I.lst hb
  have l1:=r1.length
  have l2:=r2.length
  rw [show xs.length=i1.toArray.size by simp only [size_toArray];omega] at q
  refine SeqAt.RcAt.lists ⟨_,e1,rfl,n1,rfl⟩ ⟨_,e2,rfl,n2,rfl⟩ (by simp only [size_toArray];omega) (by omega) (fun j j1 j2=>?_) _ _ _ _ ⟨.bl _,H,I,rfl,q⟩
  obtain ⟨x1,q1,w1⟩:=ycP r1 j1
  obtain ⟨y1,q2,w2⟩:=ycP r2 j2
  exact ymF I (he j x1 y1 q1 q2) w1 w2 (by show X.A.units+1+40<cLine;omega)
 | @lstN a b xs ys ha hb hl =>
  cases rx
  cases ry
  obtain ⟨i1,n1,r1,e1,z1⟩:=I.lst ha
  obtain ⟨i2,n2,r2,e2,z2⟩:=I.lst hb
  have l1:=r1.length
  have l2:=r2.length
  exact SeqAt.RcAt.lists_lengths ⟨_,e1,rfl,n1,rfl⟩ ⟨_,e2,rfl,n2,rfl⟩ (by simp only [size_toArray,bne_iff_ne];omega) (by omega) _ _ _ _ ⟨.bl _,H,I,rfl,q⟩
 | @tup a b xs ys e ha hb he =>
  cases rx
  cases ry
  obtain ⟨i1,r1,p1,z1⟩:=I.tuple ha
  obtain ⟨i2,r2,p2,z2⟩:=I.tuple hb
  have l1:=r1.length
  have l2:=r2.length
  rw [show xs.length=i1.toArray.size by simp only [size_toArray];omega,show ys.length=i2.toArray.size by simp only [size_toArray];omega] at q
  refine SeqAt.RcAt.tuples p1 p2 (by omega) (fun j j1 j2=>?_) _ _ _ _ ⟨.bl _,H,I,rfl,q⟩
  obtain ⟨x1,q1,w1⟩:=ycP r1 j1
  obtain ⟨y1,q2,w2⟩:=ycP r2 j2
  exact ymF I (he j x1 y1 q1 q2) w1 w2 (by show X.A.units+1+40<cLine;omega)
theorem yzs (hu:X.A.units+60<cLine):OpR X (compareOp .NotEq) (yDg X.K):=by
 intro pins s σ H x y v u Q I rx ry h
 obtain ⟨b,hb,q⟩:=h
 cases hb with
 | nt hb =>
  cases rx
  cases ry
  obtain ⟨i2,r2,p2,z2⟩:=I.tuple hb
  exact SeqAt.RcNeAt.none_tuple p2 (by omega) _ _ _ _ ⟨.bl _,H,I,rfl,q⟩
 | tn hb =>
  cases rx
  cases ry
  obtain ⟨i2,r2,p2,z2⟩:=I.tuple hb
  exact SeqAt.RcNeAt.tuple_none p2 (by omega) _ _ _ _ ⟨.bl _,H,I,rfl,q⟩
 | @lst a b xs ys e ha hb hl he =>
  cases rx
  cases ry
  obtain ⟨i1,n1,r1,e1,z1⟩:=I.lst ha
  obtain ⟨i2,n2,r2,e2,z2⟩:=I.lst hb
  have l1:=r1.length
  have l2:=r2.length
  rw [show xs.length=i1.toArray.size by simp only [size_toArray];omega] at q
  refine SeqAt.RcNeAt.lists ⟨_,e1,rfl,n1,rfl⟩ ⟨_,e2,rfl,n2,rfl⟩ (by simp only [size_toArray];omega) (by omega) (fun j j1 j2=>?_) _ _ _ _ ⟨.bl _,H,I,rfl,q⟩
  obtain ⟨x1,q1,w1⟩:=ycP r1 j1
  obtain ⟨y1,q2,w2⟩:=ycP r2 j2
  exact ymF I (he j x1 y1 q1 q2) w1 w2 (by show X.A.units+1+40<cLine;omega)
 | @lstN a b xs ys ha hb hl =>
  cases rx
  cases ry
  obtain ⟨i1,n1,r1,e1,z1⟩:=I.lst ha
  obtain ⟨i2,n2,r2,e2,z2⟩:=I.lst hb
  have l1:=r1.length
  have l2:=r2.length
  exact SeqAt.RcNeAt.lists_lengths ⟨_,e1,rfl,n1,rfl⟩ ⟨_,e2,rfl,n2,rfl⟩ (by simp only [size_toArray,bne_iff_ne];omega) (by omega) _ _ _ _ ⟨.bl _,H,I,rfl,q⟩
 | @tup a b xs ys e ha hb he =>
  cases rx
  cases ry
  obtain ⟨i1,r1,p1,z1⟩:=I.tuple ha
  obtain ⟨i2,r2,p2,z2⟩:=I.tuple hb
  have l1:=r1.length
  have l2:=r2.length
  rw [show xs.length=i1.toArray.size by simp only [size_toArray];omega,show ys.length=i2.toArray.size by simp only [size_toArray];omega] at q
  refine SeqAt.RcNeAt.tuples p1 p2 (by omega) (fun j j1 j2=>?_) _ _ _ _ ⟨.bl _,H,I,rfl,q⟩
  obtain ⟨x1,q1,w1⟩:=ycP r1 j1
  obtain ⟨y1,q2,w2⟩:=ycP r2 j2
  exact ymF I (he j x1 y1 q1 q2) w1 w2 (by show X.A.units+1+40<cLine;omega)
theorem yud {k:Nat}{A:Around}(r:Room k A):A.units+60<cLine:=by have:=r.un;omega
end
end PX
namespace PX
open PySem L2 PySem.Spec PyProof.Rows
section
variable {X:Cx}{A:Nat->Addr}{o e:Expr}{es:List Expr}{xa xb:XE}{aa:XA}{pos apos pos':Pos}{m f:Str}{n k kc:Nat}{pl:Sem Bool}{p:Fn}{fa:Addr}{fd:FuncData}{ps:List Str}
theorem yw {st:Stmt}:ZS X A st ybE:=wS yre (ysp (K:=ckX X A))
theorem yq (ho:ZE X A o xa) (hm:Meth X.K (A kc) m fa) (F:FnOk X.prog X.w X.K X.mg X.base CX0 k fa fd ps (spE (ckX X A) (n+1) p)) (hb:Binds X.K fd ps []) (ha:ZA X A (e::es) n aa) (c:Cls X.K (A kc):=by exact T.cl _) (hr:Room k X.A:=by exact hr.mono (by omega)) (hst:starEach (e::es) X.env=(false,eval e X.env)::starEach es X.env:=by rfl) (hpl:(backTo pos (starEach es X.env)).any (·.1)=false:=by rfl) (ht:eval (.Call (.Attribute o m apos) (e::es) [] pos) X.env=(do
   let ov <- eval o X.env
   standAt apos.atName
   let (f,first) <- holding [ov] (getMethod ov m pl)
   callWith pos f first (backTo pos (starEach (e::es) X.env)) (backToKw pos (keywordEach [] X.env))):=by rfl) :
  ZE X A (.Call (.Attribute o m apos) (e::es) [] pos) (yl kc m p xa aa):=wE (yuU ho.of c hm F hr hb .nil yjh ha.of hst hpl ht) (yjQ (K:=ckX X A) sE sA ha.len)
theorem yx (ho:ZE X A o xa) (hm:Meth X.K (A kc) m fa) (F:FnOk X.prog X.w X.K X.mg X.base CX0 k fa fd ps (spE (ckX X A) 1 p)) (hb:Binds X.K fd ps []) (c:Cls X.K (A kc):=by exact T.cl _) (hr:Room k X.A:=by exact hr.mono (by omega)) (ht:eval (.Call (.Attribute o m apos) [] [] pos) X.env=(do
   let ov <- eval o X.env
   standAt apos.atName
   let (f,first) <- holding [ov] (getMethod ov m pl)
   callWith pos f first (backTo pos (starEach [] X.env)) (backToKw pos (keywordEach [] X.env))):=by rfl) :
  ZE X A (.Call (.Attribute o m apos) [] [] pos) (yl kc m p xa yk):=wE (yro ho.of c hm F hr hb .nil yjh ht) (yjQ (K:=ckX X A) (n:=0) sE ylc ylg)
theorem yca {cs:List Nat}{value:Expr}(hc:∀ k∈cs,Cls X.K (A k)/\NoAttr X.K (A k) f) (ho:ZE X A o xa) (hv:ZE X A value xb) (hs:swapsWith value (some (.Attribute o f pos')) pos.line X.env=pure false:=by rfl) :
  ZS X A (.Assign [.Attribute o f pos'] value pos) (ydn cs f xa xb):=wS (ytx ho.of hv.of hs) (ysq (K:=ckX X A) hc sE sE)
end
end PX
namespace KasS
open PySem PySem.W PyProof.Rows
def run {α:Type}(lt:Nat->Nat->Bool):KasT α->α
 | .ret a=>a
 | .ask i j k=>run lt (k (lt i j))
theorem yeu {α β:Type}(lt:Nat->Nat->Bool) (f:α->KasT β):∀ t:KasT α,run lt (t.bind f)=run lt (f (run lt t))
 | .ret _=>rfl
 | .ask i j k=>yeu lt f (k (lt i j))
section
variable (key:Nat->Int)
def ltK (i j:Nat):Bool:=decide (key i<key j)
def Kp (p:Array Nat) (i:Nat):Int:=key (p[i]?.getD 0)
def Up (p:Array Nat) (k:Nat):Prop:=∀ i j,i<=j->j<k->Kp key p i<=Kp key p j
def Dn (p:Array Nat) (k:Nat):Prop:=∀ i j,i<=j->j<k->Kp key p j<=Kp key p i
variable {key}
theorem ygS (p:Array Nat) (i:Nat):p.getD i 0=p[i]?.getD 0:=by simp [Array.getD_eq_getD_getElem?]
theorem ypS (p:Array Nat) (i j:Nat):ltK key (p.getD i 0) (p.getD j 0)=decide (Kp key p i<Kp key p j):=by rw [ygS,ygS];rfl
theorem Up.succ {p:Array Nat}{n:Nat}(h:Up key p n) (h1:1<=n) (hn:Kp key p (n-1)<=Kp key p n):Up key p (n+1):=fun i j hij hj=>by
 by_cases e:j=n
 .subst e
  by_cases e2:i=j
  .subst e2;exact Int.le_refl _
  .exact Int.le_trans (h i (j-1) (by omega) (by omega)) hn
 .exact h i j hij (by omega)
theorem Dn.succ {p:Array Nat}{n:Nat}(h:Dn key p n) (h1:1<=n) (hn:Kp key p n<=Kp key p (n-1)):Dn key p (n+1):=fun i j hij hj=>by
 by_cases e:j=n
 .subst e
  by_cases e2:i=j
  .subst e2;exact Int.le_refl _
  .exact Int.le_trans hn (h i (j-1) (by omega) (by omega))
 .exact h i j hij (by omega)
theorem ypT (p:Array Nat):∀ (f n:Nat),1<=n->Up key p n->n<=run (ltK key) (kas_asc p f n)/\run (ltK key) (kas_asc p f n)<=n+f/\Up key p (run (ltK key) (kas_asc p f n))/\(run (ltK key) (kas_asc p f n)<n+f->Kp key p (run (ltK key) (kas_asc p f n))<Kp key p (run (ltK key) (kas_asc p f n)-1))
 | 0,n,_,h=>⟨Nat.le_refl _,Nat.le_refl _,h,fun z=>by exact absurd z (lt_irrefl _)⟩
 | f+1,n,h1,h=>by
  have e:run (ltK key) (kas_asc p (f+1) n)=run (ltK key) (if ltK key (p.getD n 0) (p.getD (n-1) 0)=true then .ret n else kas_asc p f (n+1)):=rfl
  rw [e,ypS]
  by_cases hc:Kp key p n<Kp key p (n-1)
  .rw [decide_eq_true hc,if_pos rfl]
   exact ⟨Nat.le_refl _,by show n<=n+(f+1);omega,h,fun _=>hc⟩
  .rw [decide_eq_false hc,if_neg (by simp)]
   obtain ⟨a,b,c,d⟩:=ypT p f (n+1) (by omega) (h.succ h1 (by omega))
   exact ⟨by omega,by omega,c,fun z=>d (by omega)⟩
theorem ypU {p:Array Nat}{i j:Nat}(hj:j<=p.size) (k:Nat):Kp key (kas_rev p i j) k=if i<=k/\k<j then Kp key p (i+j-1-k) else Kp key p k:=by
 unfold Kp kas_rev
 rw [getElem?_mirror_all hj]
 split<;>rfl
theorem ydM (p:Array Nat) (i j:Nat):(kas_rev p i j).size=p.size:=mirror_size _ _ _ _
theorem ycU (p:Array Nat) (i j:Nat):(kas_rev p i j).Perm p:=mirror_perm _ _ _ _
theorem ygT {p:Array Nat}{i j:Nat}(hj:j<=p.size) (he:∀ k,i<=k->k<j->Kp key p k=Kp key p (j-1)) (k:Nat):Kp key (kas_rev p i j) k=Kp key p k:=by
 rw [ypU hj]
 split
 .rename_i h
  rw [he (i+j-1-k) (by omega) (by omega),he k h.1 h.2]
 .rfl
theorem yiy:∀ (f:Nat) (p:Array Nat) (n q:Nat),n+f<=p.size->q+1<=n->Dn key p n->(∀ k,n-(q+1)<=k->k<n->Kp key p k=Kp key p (n-1)) ->
  let r:=run (ltK key) (kas_desc f p n q)
  r.1.Perm p/\r.1.size=p.size/\n<=r.2.1/\r.2.1<=n+f/\r.2.2+1<=r.2.1/\Dn key r.1 r.2.1/\(∀ k,r.2.1-(r.2.2+1)<=k->k<r.2.1->Kp key r.1 k=Kp key r.1 (r.2.1-1))
 | 0,p,n,q,hs,hq,hd,he=>⟨Array.Perm.refl _,rfl,Nat.le_refl _,Nat.le_refl _,hq,hd,he⟩
 | f+1,p,n,q,hs,hq,hd,he=>by
  intro r
  have e:r=run (ltK key) (if ltK key (p.getD n 0) (p.getD (n-1) 0)=true then (if q>0 then kas_desc f (kas_rev p (n-(q+1)) n) (n+1) 0 else kas_desc f p (n+1) 0)
   else .ask (p.getD (n-1) 0) (p.getD n 0) fun d=>if d=true then .ret (p,n,q) else kas_desc f p (n+1) (q+1)):=rfl
  rw [ypS] at e
  by_cases hc:Kp key p n<Kp key p (n-1)
  .rw [decide_eq_true hc,if_pos rfl] at e
   by_cases h0:q>0
   .rw [if_pos h0] at e
    have kk:∀ k,Kp key (kas_rev p (n-(q+1)) n) k=Kp key p k:=fun k=>ygT (by omega) he k
    have hd':Dn key (kas_rev p (n-(q+1)) n) (n+1):=fun i j hij hj=>by
     rw [kk,kk]
     exact hd.succ (by omega) (by omega) i j hij hj
    obtain ⟨a1,a2,a3,a4,a5,a6,a7⟩:=yiy f (kas_rev p (n-(q+1)) n) (n+1) 0 (by rw [ydM];omega) (by omega) hd' (fun k h1 h2=>by rw [show k=n+1-1 by omega])
    rw [e]
    exact ⟨a1.trans (ycU _ _ _),a2.trans (ydM _ _ _),by omega,by omega,a5,a6,a7⟩
   .rw [if_neg h0] at e
    obtain ⟨a1,a2,a3,a4,a5,a6,a7⟩:=yiy f p (n+1) 0 (by omega) (by omega) (hd.succ (by omega) (by omega)) (fun k h1 h2=>by rw [show k=n+1-1 by omega])
    rw [e]
    exact ⟨a1,a2,by omega,by omega,a5,a6,a7⟩
  .rw [decide_eq_false hc,if_neg (by simp)] at e
   have e:r=run (ltK key) (if ltK key (p.getD (n-1) 0) (p.getD n 0)=true then .ret (p,n,q) else kas_desc f p (n+1) (q+1)):=e
   rw [ypS] at e
   by_cases hc2:Kp key p (n-1)<Kp key p n
   .rw [decide_eq_true hc2,if_pos rfl] at e
    rw [e]
    exact ⟨Array.Perm.refl _,rfl,Nat.le_refl _,by show n<=n+(f+1);omega,hq,hd,he⟩
   .rw [decide_eq_false hc2,if_neg (by simp)] at e
    have heq:Kp key p n=Kp key p (n-1):=by omega
    obtain ⟨a1,a2,a3,a4,a5,a6,a7⟩:=yiy f p (n+1) (q+1) (by omega) (by omega) (hd.succ (by omega) (by omega)) (fun k h1 h2=>by
     by_cases hk:k=n
     .rw [hk];rfl
     .rw [he k (by omega) (by omega),show n+1-1=n by omega,heq])
    rw [e]
    exact ⟨a1,a2,by omega,by omega,a5,a6,a7⟩
theorem Dn.rev {p:Array Nat}{n:Nat}(hn:n<=p.size) (h:Dn key p n):Up key (kas_rev p 0 n) n:=fun i j hij hj=>by
 rw [ypU hn,ypU hn,if_pos ⟨by omega,by omega⟩,if_pos ⟨by omega,by omega⟩]
 exact h _ _ (by omega) (by omega)
theorem ymG {p:Array Nat}{n nrem:Nat}(h1:1<=n) (hn:n<=nrem) (hs:nrem<=p.size) (h:Dn key p n) :
  let r:=run (ltK key) (kas_tail3 n nrem p)
  r.2.Perm p/\r.2.size=p.size/\1<=r.1/\r.1<=nrem/\Up key r.2 r.1:=by
 intro r
 have e:r=(run (ltK key) (kas_asc (kas_rev p 0 n) (nrem-n) n),kas_rev p 0 n):=by show run _ (KasT.bind _ _)=_;rw [yeu];rfl
 obtain ⟨a,b,c,_⟩:=ypT (kas_rev p 0 n) (nrem-n) n h1 (h.rev (by omega))
 rw [e]
 exact ⟨ycU _ _ _,ydM _ _ _,by omega,by omega,c⟩
theorem ygU {p:Array Nat}{n nrem:Nat}(h1:1<=n) (hn:n<nrem) (hs:nrem<=p.size) (h:Dn key p (n+1)) :
  let r:=run (ltK key) (kas_descPart n nrem p)
  r.2.Perm p/\r.2.size=p.size/\1<=r.1/\r.1<=nrem/\Up key r.2 r.1:=by
 intro r
 obtain ⟨a1,a2,a3,a4,a5,a6,a7⟩:=yiy (key:=key) (nrem-(n+1)) p (n+1) 0 (by omega) (by omega) h (fun k h1 h2=>by rw [show k=n+1-1 by omega])
 generalize hd:run (ltK key) (kas_desc (nrem-(n+1)) p (n+1) 0)=d at *
 have e:r=run (ltK key) (if d.2.2>0 then kas_tail3 d.2.1 nrem (kas_rev d.1 (d.2.1-(d.2.2+1)) d.2.1) else kas_tail3 d.2.1 nrem d.1):=by show run _ (KasT.bind _ _)=_;rw [yeu,hd]
 by_cases h0:d.2.2>0
 .rw [if_pos h0] at e
  have kk:∀ k,Kp key (kas_rev d.1 (d.2.1-(d.2.2+1)) d.2.1) k=Kp key d.1 k:=fun k=>ygT (by omega) a7 k
  obtain ⟨b1,b2,b3,b4,b5⟩:=ymG (key:=key) (p:=kas_rev d.1 (d.2.1-(d.2.2+1)) d.2.1) (n:=d.2.1) (nrem:=nrem) (by omega) (by omega) (by rw [ydM];omega) (fun i j hij hj=>by rw [kk,kk];exact a6 i j hij hj)
  rw [e]
  exact ⟨b1.trans ((ycU _ _ _).trans a1),b2.trans ((ydM _ _ _).trans a2),b3,b4,b5⟩
 .rw [if_neg h0] at e
  obtain ⟨b1,b2,b3,b4,b5⟩:=ymG (key:=key) (p:=d.1) (n:=d.2.1) (nrem:=nrem) (by omega) (by omega) (by omega) a6
  rw [e]
  exact ⟨b1.trans a1,b2.trans a2,b3,b4,b5⟩
theorem ymH {p:Array Nat}{nrem:Nat}(h1:1<=nrem) (hs:nrem<=p.size) :
  let r:=run (ltK key) (kas_count nrem p)
  r.2.Perm p/\r.2.size=p.size/\1<=r.1/\r.1<=nrem/\Up key r.2 r.1:=by
 intro r
 obtain ⟨a,b,c,d⟩:=ypT (key:=key) p (nrem-1) 1 (Nat.le_refl _) (fun i j hij hj=>by rw [show i=j by omega];exact Int.le_refl _)
 generalize hn:run (ltK key) (kas_asc p (nrem-1) 1)=n at *
 have e:r=run (ltK key) (if (n == nrem)=true then .ret (n,p) else if n>1 then .ask (p.getD 0 0) (p.getD (n-1) 0) fun c=>if c=true then .ret (n,p) else kas_descPart n nrem (kas_rev p 0 n)
  else kas_descPart n nrem p):=by show run _ (KasT.bind _ _)=_;rw [yeu,hn]
 by_cases e1:n=nrem
 .rw [if_pos (by simp [e1])] at e
  rw [e]
  exact ⟨Array.Perm.refl _,rfl,a,by show n<=nrem;omega,c⟩
 .rw [if_neg (by simp [e1])] at e
  have dn:=d (by omega)
  by_cases h2:n>1
  .rw [if_pos h2] at e
   have e:r=run (ltK key) (if ltK key (p.getD 0 0) (p.getD (n-1) 0)=true then .ret (n,p) else kas_descPart n nrem (kas_rev p 0 n)):=e
   rw [ypS] at e
   by_cases hc:Kp key p 0<Kp key p (n-1)
   .rw [decide_eq_true hc,if_pos rfl] at e
    rw [e]
    exact ⟨Array.Perm.refl _,rfl,a,by show n<=nrem;omega,c⟩
   .rw [decide_eq_false hc,if_neg (by simp)] at e
    have eqs:∀ k,0<=k->k<n->Kp key p k=Kp key p (n-1):=fun k _ hk=>by
     have u1:=c 0 k (by omega) hk
     have u2:=c k (n-1) (by omega) (by omega)
     omega
    have kk:∀ k,Kp key (kas_rev p 0 n) k=Kp key p k:=fun k=>ygT (by omega) eqs k
    have hdn:Dn key (kas_rev p 0 n) (n+1):=fun i j hij hj=>by
     rw [kk,kk]
     by_cases ej:j=n
     .subst ej
      by_cases ei:i=j
      .rw [ei];exact Int.le_refl _
      .rw [eqs i (by omega) (by omega)];omega
     .rw [eqs i (by omega) (by omega),eqs j (by omega) (by omega)];exact Int.le_refl _
    obtain ⟨b1,b2,b3,b4,b5⟩:=ygU (key:=key) (p:=kas_rev p 0 n) (n:=n) (nrem:=nrem) a (by omega) (by rw [ydM];omega) hdn
    rw [e]
    exact ⟨b1.trans (ycU _ _ _),b2.trans (ydM _ _ _),b3,b4,b5⟩
  .rw [if_neg h2] at e
   have hn1:n=1:=by omega
   subst hn1
   obtain ⟨b1,b2,b3,b4,b5⟩:=ygU (key:=key) (p:=p) (n:=1) (nrem:=nrem) (by omega) (by omega) hs (fun i j hij hj=>by
    by_cases e3:i=j
    .rw [e3];exact Int.le_refl _
    .rw [show i=0 by omega,show j=1 by omega]
     exact Int.le_of_lt dn)
   rw [e]
   exact ⟨b1,b2,b3,b4,b5⟩
theorem yiz {p:Array Nat}{k:Nat}(hu:Up key p k):∀ (f l r:Nat),r<=k->l<=r->r-l<=f->(∀ i,i<l->Kp key p i<=Kp key p k)->(∀ i,r<=i->i<k->Kp key p k<Kp key p i) ->
  let m:=run (ltK key) (kas_place p k f l r)
  m<=k/\(∀ i,i<m->Kp key p i<=Kp key p k)/\(∀ i,m<=i->i<k->Kp key p k<Kp key p i)
 | 0,l,r,hr,hl,hf,h1,h2=>by
  have:l=r:=by omega
  subst this
  exact ⟨hr,h1,h2⟩
 | f+1,l,r,hr,hl,hf,h1,h2=>by
  intro m
  have e:m=run (ltK key) (if l>=r then .ret l else .ask (p.getD k 0) (p.getD ((l+r)/2) 0) fun c=>if c=true then kas_place p k f l ((l+r)/2) else kas_place p k f ((l+r)/2+1) r):=rfl
  by_cases hlr:l>=r
  .rw [if_pos hlr] at e
   have:l=r:=by omega
   subst this
   rw [e]
   exact ⟨hr,h1,h2⟩
  .rw [if_neg hlr] at e
   have e:m=run (ltK key) (if ltK key (p.getD k 0) (p.getD ((l+r)/2) 0)=true then kas_place p k f l ((l+r)/2) else kas_place p k f ((l+r)/2+1) r):=e
   rw [ypS] at e
   by_cases hc:Kp key p k<Kp key p ((l+r)/2)
   .rw [decide_eq_true hc,if_pos rfl] at e
    rw [e]
    exact yiz hu f l ((l+r)/2) (by omega) (by omega) (by omega) h1 (fun i h3 h4=>by have:=hu ((l+r)/2) i h3 h4;omega)
   .rw [decide_eq_false hc,if_neg (by simp)] at e
    rw [e]
    exact yiz hu f ((l+r)/2+1) r hr (by omega) (by omega) (fun i h3=>by have:=hu i ((l+r)/2) (by omega) (by omega);omega) h2
theorem ypV {p:Array Nat}{src d:Nat}(hs:src<p.size) (hd:d<=src) (k:Nat):Kp key (bubble p src d) k=if k=src-d then Kp key p src else if src-d<k/\k<=src then Kp key p (k-1) else Kp key p k:=by
 unfold Kp
 rw [getElem?_bubble hs d hd]
 repeat' split
 all_goals rfl
theorem yue:∀ (f:Nat) (p:Array Nat) (k:Nat),k+f<=p.size->Up key p k->(run (ltK key) (kas_bin f p k)).Perm p/\Up key (run (ltK key) (kas_bin f p k)) (k+f)
 | 0,p,k,_,h=>⟨Array.Perm.refl _,h⟩
 | f+1,p,k,hs,h=>by
  obtain ⟨a1,a2,a3⟩:=yiz (key:=key) h k 0 k (Nat.le_refl _) (by omega) (by omega) (fun i hi=>by omega) (fun i h1 h2=>by omega)
  generalize hl:run (ltK key) (kas_place p k k 0 k)=l at *
  have e:run (ltK key) (kas_bin (f+1) p k)=run (ltK key) (kas_bin f (bubble p k (k-l)) (k+1)):=by show run _ (KasT.bind _ _)=_;rw [yeu,hl]
  have hk:∀ i,Kp key (bubble p k (k-l)) i=if i=l then Kp key p k else if l<i/\i<=k then Kp key p (i-1) else Kp key p i:=fun i=>by
   rw [ypV (by omega) (by omega),show k-(k-l)=l by omega]
  have hu:Up key (bubble p k (k-l)) (k+1):=fun i j hij hj=>by
   rw [hk,hk]
   by_cases i1:i=l
   .rw [if_pos i1]
    by_cases j1:j=l
    .rw [if_pos j1];exact Int.le_refl _
    .rw [if_neg j1,if_pos ⟨by omega,by omega⟩]
     have:=a3 (j-1) (by omega) (by omega);omega
   .rw [if_neg i1]
    by_cases i2:l<i/\i<=k
    .rw [if_pos i2,if_neg (by omega),if_pos ⟨by omega,by omega⟩]
     exact h _ _ (by omega) (by omega)
    .rw [if_neg i2]
     have il:i<l:=by omega
     by_cases j1:j=l
     .rw [if_pos j1];exact a2 i il
     .rw [if_neg j1]
      split
      .exact h _ _ (by omega) (by omega)
      .exact h _ _ (by omega) (by omega)
  obtain ⟨b1,b2⟩:=yue f (bubble p k (k-l)) (k+1) (by rw [bubble_size];omega) hu
  rw [e]
  exact ⟨b1.trans (bubble_perm _ _ _),by rw [show k+(f+1)=k+1+f by omega];exact b2⟩
theorem yfL {n:Nat}(h1:1<=n):(run (ltK key) (kas_sort n)).Perm (toArray (List.range n))/\Up key (run (ltK key) (kas_sort n)) n:=by
 have hs:(toArray (List.range n)).size=n:=by simp
 obtain ⟨a1,a2,a3,a4,a5⟩:=ymH (key:=key) (p:=toArray (List.range n)) (nrem:=n) h1 (by omega)
 generalize hr:run (ltK key) (kas_count n (toArray (List.range n)))=r at *
 have e:run (ltK key) (kas_sort n)=run (ltK key) (if r.1<n then kas_bin (n-max r.1 1) r.2 (max r.1 1) else .ret r.2):=by show run _ (KasT.bind _ _)=_;rw [yeu,hr]
 by_cases h:r.1<n
 .rw [if_pos h] at e
  obtain ⟨b1,b2⟩:=yue (key:=key) (n-max r.1 1) r.2 (max r.1 1) (by omega) (by rw [Nat.max_eq_left a3];exact a5)
  rw [e]
  exact ⟨b1.trans a1,by rw [show max r.1 1+(n-max r.1 1)=n by omega] at b2;exact b2⟩
 .rw [if_neg h] at e
  rw [e]
  exact ⟨a1,by rw [show n=r.1 by omega];exact a5⟩
noncomputable def AskIn {α:Type}(P:Nat->Prop) (lt:Nat->Nat->Bool):KasT α->Prop
 | .ret _=>True
 | .ask i j k=>P i/\P j/\AskIn P lt (k (lt i j))
theorem AskIn.bind {α β:Type}{P:Nat->Prop}{lt:Nat->Nat->Bool}{f:α->KasT β}:∀ {t:KasT α},AskIn P lt t->AskIn P lt (f (run lt t))->AskIn P lt (t.bind f)
 | .ret _,_,h=>h
 | .ask _ _ _,⟨a,b,c⟩,h=>⟨a,b,AskIn.bind c h⟩
theorem yzt {α:Type}{P:Nat->Prop}{lt:Nat->Nat->Bool}{cmp:Nat->Nat->(Bool->Shared->Prop)->Shared->Prop}{s:Shared}(hc:∀ i j C,P i->P j->C (lt i j) s->cmp i j C s) {Q:α->Shared->Prop} :
  ∀ (t:KasT α),AskIn P lt t->Q (run lt t) s->t.kasWp cmp Q s
 | .ret _,_,h=>h
 | .ask i j k,⟨a,b,c⟩,h=>hc i j _ a b (yzt hc (k (lt i j)) c h)
section
variable {P:Nat->Prop}{lt:Nat->Nat->Bool}
def All (P:Nat->Prop) (p:Array Nat):Prop:=∀ i,P (p.getD i 0)
theorem All.of_perm {p q:Array Nat}(h0:P 0) (h:All P p) (e:q.Perm p):All P q:=fun i=>by
 rw [ygS]
 by_cases hi:i<q.size
 .rw [Array.getElem?_eq_getElem hi]
  show P q[i]
  have hm:q[i]∈p:=(e.mem_iff).mp (Array.getElem_mem hi)
  obtain ⟨j,hj,e2⟩:=Array.getElem_of_mem hm
  have:=h j
  rw [ygS,Array.getElem?_eq_getElem hj] at this
  rw [<- e2];exact this
 .rw [Array.getElem?_eq_none (by omega)];exact h0
theorem ypW {p:Array Nat}(h:All P p):∀ (f n:Nat),AskIn P lt (kas_asc p f n)
 | 0,_=>trivial
 | f+1,n=>⟨h _,h _,by show AskIn P lt (if _ then _ else _);split;trivial;exact ypW h f (n+1)⟩
theorem yiA (h0:P 0):∀ (f:Nat) (p:Array Nat) (n q:Nat),All P p->AskIn P lt (kas_desc f p n q)
 | 0,_,_,_,_=>trivial
 | f+1,p,n,q,h=>by
  refine ⟨h _,h _,?_⟩
  show AskIn P lt (if _ then _ else _)
  split
  .split
   .exact yiA h0 f _ _ _ (h.of_perm h0 (ycU _ _ _))
   .exact yiA h0 f _ _ _ h
  .refine ⟨h _,h _,?_⟩
   show AskIn P lt (if _ then _ else _)
   split
   .trivial
   .exact yiA h0 f _ _ _ h
theorem yfh:∀ (f:Nat) (p:Array Nat) (n q:Nat),(run lt (kas_desc f p n q)).1.Perm p
 | 0,_,_,_=>Array.Perm.refl _
 | f+1,p,n,q=>by
  show (run lt (if lt (p.getD n 0) (p.getD (n-1) 0)=true then (if q>0 then kas_desc f (kas_rev p (n-(q+1)) n) (n+1) 0 else kas_desc f p (n+1) 0)
   else .ask (p.getD (n-1) 0) (p.getD n 0) fun d=>if d=true then .ret (p,n,q) else kas_desc f p (n+1) (q+1))).1.Perm p
  split
  .split
   .exact (yfh f _ _ _).trans (ycU _ _ _)
   .exact yfh f _ _ _
  .show (run lt (if lt (p.getD (n-1) 0) (p.getD n 0)=true then .ret (p,n,q) else kas_desc f p (n+1) (q+1))).1.Perm p
   split
   .exact Array.Perm.refl _
   .exact yfh f _ _ _
theorem ymI (h0:P 0) {p:Array Nat}(h:All P p) (n nrem:Nat):AskIn P lt (kas_tail3 n nrem p):=AskIn.bind (ypW (h.of_perm h0 (ycU _ _ _)) _ _) trivial
theorem ygV (h0:P 0) {p:Array Nat}(h:All P p) (n nrem:Nat):AskIn P lt (kas_descPart n nrem p):=by
 refine AskIn.bind (yiA h0 _ _ _ _ h) ?_
 have:=h.of_perm h0 (yfh (lt:=lt) (nrem-(n+1)) p (n+1) 0)
 split
 .exact ymI h0 (this.of_perm h0 (ycU _ _ _)) _ _
 .exact ymI h0 this _ _
theorem ysz (h0:P 0) {p:Array Nat}(h:All P p) (nrem:Nat):AskIn P lt (kas_count nrem p):=by
 refine AskIn.bind (ypW h _ _) ?_
 split
 .trivial
 .split
  .refine ⟨h _,h _,?_⟩
   show AskIn P lt (if _ then _ else _)
   split
   .trivial
   .exact ygV h0 (h.of_perm h0 (ycU _ _ _)) _ _
  .exact ygV h0 h _ _
theorem yiB {p:Array Nat}(h:All P p) (k:Nat):∀ (f l r:Nat),AskIn P lt (kas_place p k f l r)
 | 0,_,_=>trivial
 | f+1,l,r=>by
  show AskIn P lt (if _ then _ else _)
  split
  .trivial
  .refine ⟨h _,h _,?_⟩
   show AskIn P lt (if _ then _ else _)
   split
   .exact yiB h k f _ _
   .exact yiB h k f _ _
theorem yuf (h0:P 0):∀ (f:Nat) (p:Array Nat) (k:Nat),All P p->AskIn P lt (kas_bin f p k)
 | 0,_,_,_=>trivial
 | f+1,p,k,h=>AskIn.bind (yiB h k _ _ _) (yuf h0 f _ _ (h.of_perm h0 (bubble_perm _ _ _)))
end
theorem yvX {n:Nat}(h1:1<=n):AskIn (· < n) (ltK key) (kas_sort n):=by
 have h:All (· < n) (toArray (List.range n)):=fun i=>by
  rw [ygS]
  by_cases hi:i<n
  .simp [hi]
  .simp [hi];omega
 refine AskIn.bind (ysz (by omega) h n) ?_
 obtain ⟨a1,_⟩:=ymH (key:=key) (p:=toArray (List.range n)) (nrem:=n) h1 (by simp)
 split
 .exact yuf (by omega) _ _ _ (h.of_perm (by omega) a1)
 .trivial
end
end KasS
namespace KasS
open PySem PySem.W PyProof.Rows PySem.Calls
noncomputable def Tps (h:Heap):List Value->List (Int×Tok×Value)->Prop
 | [],[]=>True
 | v::vs,p::ps=>(∃ b o m,v=.ref b/\h.get? b=some o/\o.cls=.type "tuple"/\o.data=.seq #[.int p.1 p.2.1,p.2.2] m)/\Tps h vs ps
 | _,_=>False
theorem Tps.len {h:Heap}:∀ {vs:List Value}{ps:List (Int×Tok×Value)},Tps h vs ps->ps.length=vs.length
 | [],[],_=>rfl
 | _::_,_::_,⟨_,t⟩=>by rw [length_cons,length_cons,Tps.len t]
 | [],_::_,t=>t.elim
 | _::_,[],t=>t.elim
theorem Tps.get {h:Heap}:∀ {vs:List Value}{ps:List (Int×Tok×Value)},Tps h vs ps->∀ i,i<vs.length->∃ p b o m,ps[i]?=some p/\vs.getD i .none=.ref b/\h.get? b=some o/\o.cls=.type "tuple"/\o.data=.seq #[.int p.1 p.2.1,p.2.2] m
 | _::_,p::_,⟨⟨b,o,m,e1,e2,e3,e4⟩,_⟩,0,_=>⟨p,b,o,m,rfl,by rw [e1];rfl,e2,e3,e4⟩
 | _::vs,_::ps,⟨_,t⟩,i+1,hi=>by
  obtain ⟨p,b,o,m,e1,e2,e3⟩:=Tps.get t i (by simpa using hi)
  exact ⟨p,b,o,m,by simpa using e1,by simpa using e2,e3⟩
 | [],[],_,_,hi=>by simp at hi
 | [],_::_,t,_,_=>t.elim
 | _::_,[],t,_,_=>t.elim
theorem Tps.mono {h h':Heap}:∀ {vs:List Value}{ps:List (Int×Tok×Value)},Tps h vs ps->(∀ b o,Value.ref b∈vs->h.get? b=some o->h'.get? b=some o)->Tps h' vs ps
 | [],[],_,_=>trivial
 | _::_,_::_,⟨⟨b,o,m,e1,e2,e3⟩,t⟩,k=>⟨⟨b,o,m,e1,k b o (by rw [e1];exact mem_cons_self) e2,e3⟩,Tps.mono t fun b o hb=>k b o (mem_cons_of_mem _ hb)⟩
 | [],_::_,t,_=>t.elim
 | _::_,[],t,_=>t.elim
theorem Tps.kat {h:Heap}:∀ {vs:List Value}{ps:List (Int×Tok×Value)},Tps h vs ps->KatTups h vs (ps.map fun p=>Value.int p.1 p.2.1)
 | [],[],_=>trivial
 | _::_,p::_,⟨⟨b,o,m,e1,e2,e3,e4⟩,t⟩=>⟨⟨b,o,_,m,e1,e2,e3,e4,rfl⟩,Tps.kat t⟩
 | [],_::_,t=>t.elim
 | _::_,[],t=>t.elim
def yeP (ps:List (Int×Tok×Value)) (i:Nat):Int:=((ps[i]?).map (·.1)).getD 0
theorem ypX {ps:List (Int×Tok×Value)}(hn:(ps.map (·.1)).Nodup) {i j:Nat}(hi:i<ps.length) (hj:j<ps.length) (e:yeP ps i=yeP ps j):i=j:=by
 unfold yeP at e
 rw [List.getElem?_eq_getElem hi,List.getElem?_eq_getElem hj] at e
 have e:ps[i].1=ps[j].1:=e
 have h1:i<(ps.map (·.1)).length:=by simpa using hi
 have h2:j<(ps.map (·.1)).length:=by simpa using hj
 exact (List.getElem_inj (h₀:=h1) (h₁:=h2) hn).mp (by simpa using e)
section
variable {prog:Program}{w:World}{A:Around}{E:Value->Shared->Prop}{s:Shared}
theorem yvY {vs:List Value}{ps:List (Int×Tok×Value)}(tp:Tps s.heap vs ps) (hn:(ps.map (·.1)).Nodup) (i j:Nat) (C:Bool->Shared->Prop) (hi:i<vs.length) (hj:j<vs.length) (hC:C (ltK (yeP ps) i j) s) :
  kas_ask prog w A (tuples' true) vs i j C s:=by
 obtain ⟨p,b,o,m,e1,e2,e3,e4,e5⟩:=tp.get i hi
 obtain ⟨p',b',o',m',f1,f2,f3,f4,f5⟩:=tp.get j hj
 have k1:yeP ps i=p.1:=by unfold yeP;rw [e1];rfl
 have k2:yeP ps j=p'.1:=by unfold yeP;rw [f1];rfl
 unfold ltK at hC
 rw [k1,k2] at hC
 unfold kas_ask
 rw [e2,f2]
 refine kat_lt e3 e5 f3 f5 ?_
 show KatLex prog w A true (decide (2<2)) C [(Value.int p.1 p.2.1,Value.int p'.1 p'.2.1),(p.2.2,p'.2.2)] 0 s
 refine kat_cons (L2.eqAt_V (y:=.int p.1) (x:=.int p'.1) ⟨_,rfl⟩ ⟨_,rfl⟩ rfl rfl prog w _ _ ?_)
 show KatGo prog w A true _ C _ _ _ 0 (p.1 == p'.1) s
 by_cases e:p.1=p'.1
 .rw [beq_iff_eq.mpr e]
  have hij:i=j:=ypX hn (by rw [tp.len];exact hi) (by rw [tp.len];exact hj) (by rw [k1,k2,e])
  subst hij
  rw [e1] at f1
  cases f1
  refine kat_yes (kat_cons (SeqAt.EqAt.same _ prog w _ _ (kat_yes (kat_nil ?_))))
  rw [decide_eq_false (by omega)] at hC
  exact hC
 .rw [beq_eq_false_iff_ne.mpr e]
  exact kat_no (oneLt_int hC)
theorem ysA {a:Addr}{vs:List Value}{ps:List (Int×Tok×Value)}{n:Nat}{P:PySem.Fin->Shared->Prop}(ho:s.heap.get? a=some (seqObj "list" vs.toArray n)) (tp:Tps s.heap vs ps) (na:Value.ref a∉vs) (hn:(ps.map (·.1)).Nodup) (h64:vs.length<64)
  (h:∀ q:Array Nat,q.Perm (toArray (List.range vs.length))->Up (yeP ps) q vs.length->P (.done (.ret .none)) { s with heap:=sortedHeap s.heap a vs (toArray (q.toList.map fun i=>vs.getD i Value.none)) }) :
  wpAny (model prog w) A (Builtin.«list.sort» ⟨[.ref a],[]⟩) P E s:=by
 have ha:a<s.heap.objs.size:=Heap.lt_size ho
 have z64:vs.length<=sizeLine:=by rw [sizeLine_eq];omega
 rw [list_sort_plain]
 obtain ⟨e1,ho1⟩:∃ e1,(s.heap.update a (Obj.mapSeq fun _=>(#[]:Array Value))).get? a=some (seqObj "list" #[] e1):=⟨_,get?_update_seq ho _⟩
 refine wpAny_bind (listItems_at ho rfl (wpAny_bind (listUpdate_at ho rfl (wpAny_bind (seqEpoch_at ho1 rfl (wpAny_bind (wpAny_newTuple (wpAny_bind (wpAny_newList (wpAny_holding ?_) (zero_le _))) (by simpa using z64))))) (by simpa using z64) (zero_le _))))
 generalize hH:((s.heap.update a (Obj.mapSeq fun _=>(#[]:Array Value))).push (seqObj "tuple" vs.toArray 0)).push (seqObj "list" #[] 0)=H6
 have keep:∀ b o,b≠a->s.heap.get? b=some o->H6.get? b=some o:=fun b o hb e=>by
  rw [<- hH]
  exact Heap.get?_push_of_some _ (Heap.get?_push_of_some _ ((Heap.get?_update_other _ _ (Ne.symm hb)).trans e))
 have ho6:H6.get? a=some (seqObj "list" #[] e1):=by rw [<- hH];exact Heap.get?_push_of_some _ (Heap.get?_push_of_some _ ho1)
 have tp6:Tps H6 vs ps:=tp.mono fun b o hb e=>keep b o (fun z=>na (z ▸ hb)) e
 show wpAny (model prog w) A _ P E { s with heap:=H6 }
 dsimp only
 have fin:∀ q:Array Nat,q.Perm (toArray (List.range vs.length))->Up (yeP ps) q vs.length->P (.done (.ret .none)) { s with heap:=H6.update a (Obj.mapSeq fun _=>toArray (q.toList.map fun i=>vs.getD i Value.none)) }:=fun q h1 h2=>by
  have:=h q h1 h2
  unfold sortedHeap at this
  rw [show ((s.heap.update a (Obj.mapSeq fun _=>(#[]:Array Value))).push (seqObj "tuple" vs.toArray 0)).push (seqObj "list" #[] 0)=H6 from hH] at this
  exact this
 by_cases h2:vs.toArray.size<2
 .rw [if_pos h2,if_pos h2]
  refine wpAny_bind (wpAny_pure ?_)
  rw [StateT.run_pure]
  have hz:((arrOf (SortSt.mk' general' (vs.toArray.zip vs.toArray) #[] 7 none)).map (·.2))=toArray ((toArray (List.range vs.length)).toList.map fun i=>vs.getD i Value.none):=by
   show (vs.toArray.zip vs.toArray).map (·.2)=_
   apply Array.toList_inj.mp
   simp only [Array.toList_map,Array.toList_zip,List.map_snd_zip (Nat.le_refl _)]
   apply List.ext_getElem
   .simp
   .intro i h3 h4
    simp
    rw [List.getElem?_eq_getElem (by simpa using h3)];rfl
  refine wpAny_bind (wpAny_pure (wpAny_bind (seqEpoch_at ho6 rfl (wpAny_bind (listUpdate_at ho6 rfl ?_ (zero_le _) ?_)))))
  .dsimp only
   rw [hz]
   simp only [bne_self_eq_false,Bool.false_eq_true,if_false]
   exact wpAny_pure (fin _ (Array.Perm.refl _) fun i j hij hj=>by rw [show i=j by (simp at h2);omega];exact Int.le_refl _)
  .rw [hz];simp;omega
 .rw [if_neg h2,if_neg h2]
  have hv2:2<=vs.length:=by simp at h2;omega
  refine wpAny_bind (kat_kind (s:={ s with heap:=H6 }) (T:=.type "int") tp6.kat (by rw [length_map,tp.len];omega) (fun v hv=>?_) rfl ?_)
  .obtain ⟨p,_,rfl⟩:=List.mem_map.mp hv
   exact .now
  have run1:=kat_run (prog:=prog) (w:=w) (A:=A) (E:=E) (s:={ s with heap:=H6 }) (κ:=tuples' true) (ks:=vs) (vs:=vs)
   (Q:=fun st' s'=>s'={ s with heap:=H6 }/\∃ q:Array Nat,q.Perm (toArray (List.range vs.length))/\Up (yeP ps) q vs.length/\(arrOf st').map (·.2)=toArray (q.toList.map fun i=>vs.getD i Value.none)/\failedOf st'=none)
   (G:=fun q s'=>s'={ s with heap:=H6 }/\q.Perm (toArray (List.range vs.length))/\Up (yeP ps) q vs.length) rfl hv2 h64
   (fun q st' s' z1 z2 z3 z4=>⟨z4.1,q,z4.2.1,z4.2.2,kat_snds rfl z2,z3⟩)
   (yzt (P:=(· < vs.length)) (lt:=ltK (yeP ps)) (fun i j C hi hj hC=>yvY tp6 hn i j C hi hj hC) _ (yvX (by omega)) ⟨rfl,(yfL (by omega)).1,(yfL (by omega)).2⟩)
  refine wpAny_bind (wpAny_mono run1 ?_ fun _ _ x=>x)
  rintro ⟨⟨⟩,st'⟩ s' ⟨rfl,q,z1,z2,z3,z4⟩
  refine wpAny_bind (seqEpoch_at ho6 rfl (wpAny_bind (listUpdate_at ho6 rfl ?_ (zero_le _) ?_)))
  .dsimp only
   rw [z3,z4]
   simp only [bne_self_eq_false,Bool.false_eq_true,if_false]
   exact wpAny_pure (fin q z1 z2)
  .dsimp only
   rw [z3]
   have:=z1.size_eq
   simp at this ⊢
   omega
end
end KasS
namespace PXS
open PySem L2 PySem.Spec PyProof.Rows KasS PX
theorem ysB {P:Program}{w:World}{H:Hp}{h:Heap}{a:Addr}{o:HO}(x:ObjOk P w H h a o):∃ u,h.get? a=some u:=by
 cases o with
 | lst xs=>obtain ⟨_,_,_,_,e⟩:=x;exact ⟨_,e⟩
 | tup xs=>obtain ⟨_,_,_,ob,e,_⟩:=x;exact ⟨_,e⟩
 | dK kvs=>obtain ⟨_,_,_,_,o,_,_,e,_⟩:=x;exact ⟨_,e⟩
 | dT kvs=>obtain ⟨_,_,_,_,o,_,_,e,_⟩:=x;exact ⟨_,e⟩
 | set S n=>obtain ⟨o,_,_,_,e,_⟩:=x;exact ⟨_,e⟩
 | ins C dx fs=>obtain ⟨_,_,_,e,_⟩:=x;exact ⟨_,e⟩
 | own y=>obtain ⟨_,e⟩:=x;exact ⟨_,e⟩
 | xd fs=>obtain ⟨_,⟨_,_,_,e,_⟩,_⟩:=x;exact ⟨_,e⟩
 | rng lo hi=>obtain ⟨_,_,_,e⟩:=x;exact ⟨_,e⟩
 | frz ob u=>obtain ⟨e,_⟩:=x;exact ⟨_,e⟩
 | tbl ps=>exact ⟨_,show h.get? a=some _ from x⟩
 | met f y=>exact ⟨_,show h.get? a=some _ from x⟩
 | ext φ=>obtain ⟨_,⟨_,e⟩,_⟩:=x;exact ⟨_,e⟩
section
variable {X:Cx}
theorem ymJ:MtM X "dict.items" ypu:=by
 intro pins s σ H x vs v us Q I rx rv h
 obtain ⟨d,kvs,rfl,rfl,hH,q⟩:=h
 cases rx
 have hus:=rv.zero
 subst hus
 obtain ⟨z,sy,ws,kv,hD⟩:=I.hok d _ hH
 refine call_meetsIn PySem.F.slot_dict_items hD.typeIs PySem.F.entry_dict_items (PySem.F.args_dict_items_1 _) (meets_dict_items _ d sy) ⟨⟨ws,hD⟩,?_⟩
 refine ⟨.ref _,_,I.laid (t':=s.toks) (o:=yeD s.heap.objs.size d) (fun _ _ q=>Heap.get?_push_of_some _ q) (Nat.le_refl _) ⟨Heap.get?_push_size _ rfl,⟨_,Heap.get?_push_size _ rfl⟩,fun h1 h2 e k=>k _ e⟩,rfl,q _ I.fresh⟩
theorem yvZ {pins:List (Addr×Obj)}{σ:L2.St}{H H':Hp}{s:Shared}{h':Heap}{t':Nat}(I:Inv X pins σ H s) (k:∀ b u,s.heap.get? b=some u->h'.get? b=some u) (sub:∀ b o,H b=some o->H' b=some o)
  (nw:∀ b o,H b=none->H' b=some o->s.heap.get? b=none/\ObjOk X.prog X.w H' h' b o):Inv X pins σ H' { s with heap:=h',toks:=t' }:=by
 refine I.un ⟨fun b u q _ _ _=>k b u q,fun b u q _ _ _=>⟨u.slots,k b u q⟩,fun b u q n _=>?_,fun b u q _=>⟨u,k b u q⟩,fun b xs q=>sub _ _ q,fun b u xs q=>sub _ _ q,fun b ps q=>⟨#[],by rw [sub _ _ q];simp⟩⟩ fun b o e=>?_
 .cases e:H' b with
  | none=>rfl
  | some o=>rw [(nw b o n e).1] at q;cases q
 .cases e2:H b with
  | none=>exact (nw b o e2 e).2
  | some u =>
   have:=sub _ _ e2
   rw [e] at this
   cases this
   exact (I.hok b o e2).stay (fun c v _ q=>k c v q) (fun c q=>sub _ _ q) fun c xs q=>sub _ _ q
theorem yug {h:Heap}:∀ (as:List Addr) (ws:List (Key×Value)) (ns:List Int),as.length=ws.length->ws.map (·.1)=ns.map Sum.inl ->
  (∀ (j:Nat) (a:Addr),as[j]?=some a->∃ key k x,ws[j]?=some (k,x)/\ykC k key=true/\h.get? a=some { cls:=.type "tuple",data:=.seq #[key,x] }) ->
  ∃ ps,Tps h (as.map Value.ref) ps/\ps.map (·.1)=ns/\ps.map (·.2.2)=ws.map (·.2)
 | [],[],ns,_,e,_=>⟨[],trivial,by cases ns with|nil=>rfl|cons=>simp at e,rfl⟩
 | [],_::_,_,hl,_,_=>by simp at hl
 | _::_,[],_,hl,_,_=>by simp at hl
 | a::as,(k,x)::ws,ns,hl,e,hp=>by
  cases ns with
  | nil=>simp at e
  | cons n ns =>
   simp only [map_cons,List.cons.injEq] at e
   obtain ⟨ps,t,e1,e2⟩:=yug as ws ns (by simpa using hl) e.2 fun j b hb=>by
    obtain ⟨key,k',x',f1,f2,f3⟩:=hp (j+1) b (by simpa using hb)
    exact ⟨key,k',x',by simpa using f1,f2,f3⟩
   obtain ⟨key,k',x',f1,f2,f3⟩:=hp 0 a rfl
   simp at f1
   obtain ⟨rfl,rfl⟩:=f1
   obtain ⟨j,tk,g1,rfl⟩:∃ j tk,k=Sum.inl j/\key=Value.int j tk:=by
    rcases yV f2 with ⟨j,tk,g1,g2⟩|⟨y,tk,g1,g2⟩
    .exact ⟨j,tk,g1,g2⟩
    .rw [g1] at e;cases e.1
   rw [g1] at e
   obtain rfl:j=n:=by injection e.1
   exact ⟨(j,tk,x)::ps,⟨⟨a,_,_,rfl,f3,rfl,rfl⟩,t⟩,by rw [map_cons,e1],by rw [map_cons,e2];rfl⟩
theorem ydN {α:Type}:∀ {as:List Addr}{ts:List α}{b:Addr}{t:α},(as.zip ts).lookup b=some t->∃ j:Nat,as[j]?=some b/\ts[j]?=some t
 | [],_,_,_,h=>by simp at h
 | _::_,[],_,_,h=>by simp at h
 | a::as,u::ts,b,t,h=>by
  rw [zip_cons_cons,lookup_cons] at h
  split at h
  .rename_i hb
   cases h
   exact ⟨0,by rw [eq_of_beq hb];rfl,rfl⟩
  .obtain ⟨j,h1,h2⟩:=ydN h
   exact ⟨j+1,by simpa using h1,by simpa using h2⟩
theorem ygW:∀ {kvs:List (Key×V)}{ws:List (Key×Value)},KV kvs ws->ws.map (·.1)=kvs.map (·.1)/\∀ i:Nat,i<kvs.length->RelV ((kvs.map (·.2)).getD i .non) ((ws.map (·.2)).getD i .none):=by
 intro kvs ws h
 induction h with
 | nil=>exact ⟨rfl,fun i hi=>by simp at hi⟩
 | @cons p q _ _ h1 _ ih =>
  refine ⟨by rw [map_cons,map_cons,ih.1,h1.1],fun i hi=>?_⟩
  cases i with
  | zero=>exact h1.2
  | succ i=>simpa using ih.2 i (by simpa using hi)
theorem ymK {α:Type}{f:α->V}{g:α->Value}:∀ {l:List α},(∀ i∈l,RelV (f i) (g i))->Vals (l.map f) (l.map g)
 | [],_=>.nil
 | i::l,h=>.cons (h i mem_cons_self) (ymK fun j hj=>h j (mem_cons_of_mem _ hj))
theorem ygi (hc:X.calm=true):CallR X (.builtin "sorted") rSI:=by
 intro pins s σ H xs us Q I rr hh
 obtain ⟨r,d,kvs,ns,rfl,hr,hd,hk,h64,q⟩:=hh
 obtain ⟨u,rfl,rx⟩:=vals1 rr
 cases rx
 obtain ⟨hview,_,_⟩:=I.hok r _ hr
 obtain ⟨z,sy,ws,kv,hD⟩:=I.hok d _ hd
 obtain ⟨ep,hat⟩:=hD.dictAt
 obtain ⟨kv1,kv2⟩:=ygW kv
 have lw:ws.length=kvs.length:=by have:=congrArg length kv1;simpa using this
 have ln:ns.length=kvs.length:=by have:=congrArg length hk;simpa using this.symm
 have nd:ns.Nodup:=by
  obtain ⟨_,_,_,_,_,_,_,_,n⟩:=hD
  rw [kv1,hk] at n
  exact (List.pairwise_map.mp n).imp fun h e=>h (by rw [e])
 refine Calls.call_function_entry kind_sorted plain_sorted entry_sorted (args_sorted1 _) ?_
 unfold Builtin.«sorted»
 refine wpAny_bind (m:=checkCount "sorted" 1 1 _) (wpAny_pure ?_)
 refine wpAny_bind (PySem.W.kdx_collect (A:=X.A.in1) (knd:=ybX X.prog X.w) (kvs:=ws) (ep:=ep) (I.ok.hd hc) ⟨_,hview,rfl,rfl⟩ hat (by rw [lw];exact z) fun h' tk as keep hl hG=>wpAny_bind (wpAny_newList ?_ (by rw [length_map,hl,lw];exact z)))
 obtain ⟨ps,tp,e1,e2⟩:=yug (h:=h') as ws ns hl (by rw [kv1,hk]) fun j a ha=>hG.pairs j a ha
 have la:as.length=ns.length:=by omega
 have above:∀ a∈as,s.heap.objs.size<a:=hG.above
 have there:∀ a∈as,a<h'.objs.size:=fun a ha=>hG.there ha
 generalize hB:h'.objs.size=B at *
 have noB:s.heap.get? B=none:=by
  cases e:s.heap.get? B with
  | none=>rfl
  | some o=>exact absurd (Heap.lt_size (keep B o e)) (by rw [hB];exact lt_irrefl _)
 have noA:∀ a∈as,s.heap.get? a=none:=fun a ha=>Heap.get?_none_of_le (le_of_lt (above a ha))
 have free:∀ b,s.heap.get? b=none->H b=none:=fun b e=>by
  cases e2:H b with
  | none=>rfl
  | some o=>obtain ⟨u,hu⟩:=ysB (I.hok b o e2);rw [e] at hu;cases hu
 have hoL:(h'.push { cls:=.type "list",data:=.seq (as.map Value.ref).toArray }).get? B=some (seqObj "list" (as.map Value.ref).toArray 0):=by rw [<- hB];exact Heap.get?_push_size _ rfl
 refine wpAny_bind (wpAny_holding (wpAny_call_entry PySem.F.slot_list_sort ⟨_,hoL,rfl⟩ PySem.F.entry_list_sort ?body (PySem.F.args_list_sort_1 _)))
 case body =>
  refine ysA (s:={ s with heap:=h'.push { cls:=.type "list",data:=.seq (as.map Value.ref).toArray },toks:=tk }) (ps:=ps) hoL (tp.mono fun b o _ e=>Heap.get?_push_of_some _ e) (fun z=>?_) (by rw [e1];exact nd) (by rw [length_map];omega) fun qa z1 z2=>?_
  .obtain ⟨a,ha,e⟩:=List.mem_map.mp z
   cases e
   exact absurd (there B ha) (lt_irrefl _)
  refine ⟨_,rfl,wpAny_pure ⟨_,rfl,?_⟩⟩
  have lq:qa.toList.length=ns.length:=by have:=z1.size_eq;simpa [la] using this
  have pq:qa.toList.Perm (List.range ns.length):=by have:=Array.perm_iff_toList_perm.mp z1;simpa [la] using this
  have inq:∀ i∈qa.toList,i<ns.length:=fun i hi=>by have:=pq.mem_iff.mp hi;simpa using this
  have nda:as.Nodup:=hG.rise.imp fun h=>ne_of_lt h
  have ndq:qa.toList.Nodup:=pq.nodup_iff.mpr List.nodup_range
  generalize hS:sortedHeap (h'.push { cls:=.type "list",data:=.seq (as.map Value.ref).toArray }) B (as.map Value.ref) (toArray (qa.toList.map fun i=>(as.map Value.ref).getD i Value.none))=S
  have hFa:∀ b o,b≠B->h'.get? b=some o->S.get? b=some o:=fun b o hb e=>by
   rw [<- hS]
   unfold sortedHeap
   exact (Heap.get?_update_other _ _ (Ne.symm hb)).trans (Heap.get?_push_of_some _ (Heap.get?_push_of_some _ ((Heap.get?_update_other _ _ (Ne.symm hb)).trans (Heap.get?_push_of_some _ e))))
  have hFB:∃ c,S.get? B=some (seqObj "list" (toArray (qa.toList.map fun i=>(as.map Value.ref).getD i Value.none)) c):=by
   rw [<- hS]
   unfold sortedHeap
   exact ⟨_,get?_update_seq (Heap.get?_push_of_some _ (Heap.get?_push_of_some _ (get?_update_seq hoL _))) _⟩
  have hF:∀ b o,s.heap.get? b=some o->S.get? b=some o:=fun b o e=>hFa b o (fun z=>by rw [z,noB] at e;cases e) (keep b o e)
  have aget:∀ i,i<ns.length->∃ a,as[i]?=some a/\as.getD i 0=a/\a∈as:=fun i hi=>by
   have h1:i<as.length:=by omega
   exact ⟨as[i],List.getElem?_eq_getElem h1,by simp [getD,List.getElem?_eq_getElem h1],getElem_mem h1⟩
  have mem:∀ a∈(qa.toList.map fun i=>as.getD i 0),a∈as:=fun a ha=>by
   obtain ⟨i,hi,rfl⟩:=List.mem_map.mp ha
   obtain ⟨a,_,e,m⟩:=aget i (inq i hi)
   rw [e];exact m
  have neB:∀ a∈as,a≠B:=fun a ha=>ne_of_lt (there a ha)
  have kat:∀ i,yeP ps i=ns.getD i 0:=fun i=>by
   unfold yeP
   rw [<- e1]
   simp [getD]
  refine ⟨.ref B,yAr H B (qa.toList.map fun i=>as.getD i 0) (qa.toList.map fun i=>[V.int (ns.getD i 0),(kvs.map (·.2)).getD i .non]),?_,rfl,q B _ qa.toList pq ?_ nd (by simp) ?_ ?_⟩
  .show L2.Inv X pins σ _ { s with heap:=S,toks:=tk }
   refine yvZ I hF (fun b o e=>?_) fun b o e e2=>?_
   .unfold yAr upd yms
    rw [if_neg fun z=>by rw [z,free _ noB] at e;cases e]
    cases e3:List.lookup b ((qa.toList.map fun i=>as.getD i 0).zip (qa.toList.map fun i=>[V.int (ns.getD i 0),(kvs.map (·.2)).getD i .non])) with
    | none=>exact e
    | some t =>
     obtain ⟨j,g1,_⟩:=ydN e3
     rw [free _ (noA b (mem b (mem_of_getElem? g1)))] at e
     cases e
   .unfold yAr upd yms at e2
    split at e2
    .rename_i hb
     subst hb
     cases e2
     obtain ⟨c,hc⟩:=hFB
     refine ⟨noB,by simp [lq];rw [ln];exact z,_,c,?_,hc⟩
     rw [map_map]
     refine ymK fun i hi=>?_
     obtain ⟨a,f1,f2,_⟩:=aget i (inq i hi)
     show RelV (V.ref (as.getD i 0)) _
     rw [f2]
     simp [getD,f1]
     rfl
    .split at e2
     .rename_i t e3
      cases e2
      obtain ⟨j,g1,g2⟩:=ydN e3
      rw [getElem?_map] at g1 g2
      cases e4:qa.toList[j]? with
      | none=>rw [e4] at g1;cases g1
      | some i =>
       rw [e4] at g1 g2
       have hi:=inq i (mem_of_getElem? e4)
       obtain ⟨a,f1,f2,f3⟩:=aget i hi
       simp only [map_some,Option.some.injEq] at g1 g2
       rw [f2] at g1
       subst g1
       subst g2
       obtain ⟨key,k,x,w1,w2,w3⟩:=hG.pairs i a f1
       have wk:k=Sum.inl (ns.getD i 0):=by
        have h1:(ws.map (·.1))[i]?=some k:=by rw [getElem?_map,w1];rfl
        rw [kv1,hk,getElem?_map] at h1
        rw [List.getElem?_eq_getElem hi] at h1
        simp [getD,List.getElem?_eq_getElem hi] at h1 ⊢
        exact h1.symm
       obtain ⟨tk2,rfl⟩:∃ tk,key=Value.int (ns.getD i 0) tk:=by
        rcases yV w2 with ⟨j,tk,g1,g2⟩|⟨y,tk,g1,g2⟩
        .rw [wk] at g1;cases g1;exact ⟨tk,g2⟩
        .rw [wk] at g1;cases g1
       have wx:(ws.map (·.2)).getD i .none=x:=by simp [getD,w1]
       refine ⟨noA a f3,by simp [sizeLine_eq],[_,x],.cons ⟨_,rfl⟩ (.cons ?_ .nil),_,hFa a _ (neB a f3) w3,rfl,_,rfl⟩
       rw [<- wx]
       exact kv2 i (by omega)
     .rw [e] at e2;cases e2
  .refine List.pairwise_iff_getElem.mpr fun i j hi hj hij=>?_
   have:=z2 i j (le_of_lt hij) (by simpa [la,lq] using hj)
   unfold Kp at this
   rw [kat,kat] at this
   have hi':i<qa.size:=by simpa using hi
   have hj':j<qa.size:=by simpa using hj
   rw [Array.getElem?_eq_getElem hi',Array.getElem?_eq_getElem hj'] at this
   simpa using this
  .intro a ha
   rcases mem_cons.mp ha with rfl|ha
   .exact free _ noB
   .exact free _ (noA a (mem a ha))
  .refine List.nodup_cons.mpr ⟨fun h=>neB _ (mem _ h) rfl,?_⟩
   refine List.pairwise_map.mpr (ndq.imp_of_mem fun {i j} hi hj hij e=>hij ?_)
   obtain ⟨a,f1,f2,_⟩:=aget i (inq i hi)
   obtain ⟨b,g1,g2,_⟩:=aget j (inq j hj)
   rw [f2,g2] at e
   subst e
   exact (List.getElem?_inj (by have:=inq i hi;omega) nda).mp (f1.trans g1.symm)
variable {A:Nat->Addr}{o:Expr}{xa:XE}{pos p apos cpos:Pos}{x:Str}
theorem z_sortI (ho:ZE X A o xa) (hm:X.mg x=none) (hc:X.calm=true:=by rfl) (m:Nm x:=by exact ⟨by rfl',by rfl',by rfl'⟩) (hg:Gl X x:=by rfl) (hv:bootBuiltins x=some (.builtin "sorted"):=by rfl') (hbase:attributeBase o "items" X.env (eval o X.env)=eval o X.env:=by rfl) (hline:(apos.endLine == cpos.line)=true:=by rfl) (he:starEach [.Call (.Attribute o "items" apos) [] [] cpos] X.env=(false,eval (.Call (.Attribute o "items" apos) [] [] cpos) X.env)::starEach [] X.env:=by rfl) (hpl:(backTo pos (starEach [] X.env)).any (·.1)=false:=by rfl) :
  ZO X A (.Call (.Name x p) [.Call (.Attribute o "items" apos) [] [] cpos] [] pos) (ydx xa) :=
 wO (yib (ygi hc) hg hm hv (yeL (ytC plainAttrs_dict PySem.F.slot_dict_items PySem.F.type_dict_items ymJ ho.of hbase hline) yhD he) m.n m.d he hpl) (ypx (K:=ckX X A) sE)
end
end PXS
namespace PX
open PySem L2 PySem.Spec PyProof.Rows
section
theorem ysC {P:Program}{w:World}{K:PySem.W.Frag}{tg:Expr}(a it:Addr) (m:Nat):Turn P w K tg (ItR K a m) [it] it (fun i h=>i<=m/\h.IsRevIter it a ((m:Int)-1-(i:Nat))) where
 mem:=by simp
 obj:=fun i h st b hb=>by
  have e:b=it:=by simpa using hb
  subst e
  obtain ⟨_,o,e,c,d⟩:=st
  exact ⟨o,e,fun v z=>by rw [d] at z;cases z⟩
 keep:=fun i h h' st k=>⟨st.1,st.2.at fun o e=>k it (by simp) o e⟩
 item:=by
  intro X hP hw hK hc i pins s σ H E I hf st hg
  subst hP hw hK
  obtain ⟨hi,xs,x,hq,hx⟩:=hg
  obtain ⟨its,rv,p,hz⟩:=I.list hq
  obtain ⟨u,hu,ru⟩:=rv.get hx
  obtain ⟨f0,f1,f2,f3,f4,f5⟩:=hf it (by simp)
  have e0:(m:Int)-1-(i:Nat)=((m-1-i:Nat):Int):=by omega
  have st2:=st.2
  rw [e0] at st2
  refine wpAny_pyNext_rev_item st2 p.isList (x:=u) (by simpa using hu) fun h' st' sb=>?_
  have I1:Inv X pins σ H { s with heap:=h' }:=I.turned (t':=s.toks) (fun b o hb e=>(sb.2 b hb).trans e) f0 f1 f3 f4 f5
  obtain ⟨o,e,c,d⟩:=id st'
  have e2:((m-1-i:Nat):Int)-1=(m:Int)-1-((i+1:Nat):Int):=by omega
  rw [e2] at st'
  exact ⟨u,rfl,ynb (s:={ s with heap:=h' }) e c d (by decide) ⟨x,H,I1,ru,⟨rfl,fun ys hy=>by rw [I.list_inj hy hq];exact hx⟩,⟨hi,st'⟩,fun b hb=>(hf b hb).1⟩⟩
 done:=by
  intro X hP hw hK hc i pins s σ H E I hf st hg
  subst hP hw hK
  obtain rfl:i=m:=hg
  obtain ⟨f0,f1,f2,f3,f4,f5⟩:=hf it (by simp)
  have st2:=st.2
  rw [show (i:Int)-1-(i:Nat)=-1 by omega] at st2
  exact wpAny_pyNext_rev_end (I.ok.hd hc) st2 fun h' eb=>⟨rfl,I.turned (t':=s.toks) (fun b o hb e=>eb b o hb e) f0 f1 f3 f4 f5⟩
 self:=fun _ _ _ _ _ st h=>wpAny_pyIter_revIter st.2 h
variable {X:Cx}{A:Nat->Addr}{tg a:Expr}{p pos:Pos}{xa:XE}
theorem yzu {ta:TE}(hg:Gl X "reversed") (hm:X.mg "reversed" = none) (ha:PE X a ta) (he:starEach [a] X.env=(false,eval a X.env)::starEach [] X.env) (hs:starEach [a] X.env=[(false,eval a X.env)]):PI X tg (.Call (.Name "reversed" p) [a] [] pos) (yDi X.K ta):=by
 intro pins s σ H R I h
 refine Call_ (yiU I hg hm ylw (PyProof.Rows.callWith_type1 (thn (yeL ha yhD he pos pins s σ H (fun vs H1=>match vs with|[x]=>∃ b xs,x=.ref b/\SqL X.K H1 b xs/\R (ItR X.K b xs.length) H1|_=>False) I h) fun us s1 ⟨vs,H1,I1,r1,q1⟩=>?_) hs rfl))
 cases r1 with
 | nil=>exact q1.elim
 | cons r rr =>
  cases rr with
  | cons=>exact q1.elim
  | nil =>
  obtain ⟨b,xs,e,hq,q⟩:=q1
  subst e
  cases r
  obtain ⟨its,rv,pp,hz⟩:=I1.list hq
  have hl:=rv.length
  refine call_reversed_list pp.isList (wpAny_pyIter_revIter (s:={ s1 with heap:=s1.heap.push (revObj b ((its.toArray.size:Int)-1)) }) (l:=b) (i:=(its.toArray.size:Int)-1) ⟨_,Heap.get?_push_size _ rfl,rfl,rfl⟩ ?_)
  refine ⟨s1.heap.objs.size,[s1.heap.objs.size],_,_,H1,rfl,I1.kept (t':=s1.toks) fun b o e=>Heap.get?_push_of_some _ e,ysC b _ xs.length,⟨zero_le _,_,Heap.get?_push_size _ rfl,rfl,?_⟩,fun b hb=>?_,q⟩
  .show Data.fields #[.ref b,rawInt ((its.toArray.size:Int)-1)]=Data.fields #[.ref b,rawInt ((xs.length:Int)-1-((0:Nat):Int))]
   rw [hl]
   simp
  .have e:b=s1.heap.objs.size:=by simpa using hb
   subst e
   exact I1.fpOk (Nat.le_refl _) (I1.hok.fresh (Nat.le_refl _))
theorem ywa {rest:List Stmt}{s:XS}{y:XG}(hi:ZE X A a xa) (hg:ZG X A tg y) (hb:ZSs X A rest s) (hp:PassesOwn (model X.prog X.w) X.A X.env X.xe:=by exact PassesOwn.never) (hc:X.calm=true:=by rfl) (hs:∀ x,foldedSetIterable a X.env x=pure x:=by exact fun _=>rfl):ZS X A (.For tg a rest [] pos) (yit false xa y s) :=
 wS (ylT hp hc (yod hi.of) hg.of hb.of hs) (yss (K:=ckX X A) sE sG sS)
theorem ywb {rest:List Stmt}{s:XS}{y:XG}{pos':Pos}(hm:X.mg "reversed" = none) (hi:ZE X A a xa) (hg:ZG X A tg y) (hb:ZSs X A rest s) (hp:PassesOwn (model X.prog X.w) X.A X.env X.xe:=by exact PassesOwn.never) (hc:X.calm=true:=by rfl) (hgl:Gl X "reversed":=by rfl) (he:starEach [a] X.env=(false,eval a X.env)::starEach [] X.env:=by rfl) (hs1:starEach [a] X.env=[(false,eval a X.env)]:=by rfl) (hs:∀ x,foldedSetIterable (.Call (.Name "reversed" p) [a] [] pos') X.env x=pure x:=by exact fun _=>rfl):ZS X A (.For tg (.Call (.Name "reversed" p) [a] [] pos') rest [] pos) (yit true xa y s) :=
 wS (ylT hp hc (yzu hgl hm hi.of he hs1) hg.of hb.of hs) (yst (K:=ckX X A) sE sG sS)
end
end PX
namespace PX
open PySem L2 PySem.Spec PyProof.Rows
section
variable {X:Cx}{A:Nat->Addr}{a o:Expr}{xa xb:XE}{pos apos cpos:Pos}
end
end PX
namespace PX
open PySem L2 PySem.Spec PyProof.Rows
variable {X:Cx}{A:Nat->Addr}{x:Str}
end PX
namespace PX
open PySem L2 PySem.Spec PyProof.Rows
variable {X:Cx}{A:Nat->Addr}{x y:Str}{py spos:Pos}{iy:Nat}
theorem yiC {elt iter:Expr}{px:Pos}{scope:Scope}{cpos:Pos}{it:XA}{xe:XE}{ix:List Nat}(fr:List Str) (hi:ZI X A (.Name x px) iter it) (he:∀ (cl:List (Str×Addr)) (C:Addr) (s₃:Shared) (H₃:Hp) (fp:List Addr) (pins:List (Addr×Obj)),ZE (cxC X scope cl C (x::fr) s₃ H₃ fp pins) A elt xe) (hc:X.calm=true:=by rfl) (hfr:FrOk X scope ix fr:=by repeat' first|exact True.intro|exact rfl|refine And.intro ?_ ?_) (hnd:(x::fr).Nodup:=by rfl') (hkind:scope.kind=.function:=by rfl) (hcell:∀ y∈scope.names,y.2≠.cell:=by rfl') (hnames:∀ y∈scope.names,y.2=.local->scope.names.lookup y.1=some .local:=by rfl') (hfree0:∀ y∈scope.names,y.2=.free->y.1∈fr:=by rfl') (hx:scope.names.lookup x=some .local:=by rfl) (hs:∀ v,foldedSetIterable iter X.env v=pure v:=by exact fun _=>rfl) (hN:X.N.Nodup:=by exact nd) (hyi:X.N[iy]?=some y:=by rfl) (hyx:Loc X.env.scope y:=by first|exact Or.inl rfl|exact Or.inr rfl) (hyf:X.fn y=true\/X.env.scope.names.lookup y=some .local:=by exact Or.inl rfl) (hsw:swapsWith (.ListComp elt [⟨.Name x px,iter,[],0⟩] scope cpos) (some (.Name y py)) spos.line X.env=pure true:=by rfl):ZS X A (.Assign [.Name y py] (.ListComp elt [⟨.Name x px,iter,[],0⟩] scope cpos) spos) (ycl (xFz (ydd it ix xe)) (yz iy)) :=
 wS (yzj (ymA ix fr hc hi.of hfr (te:=cE (ckX X A) xe) (fun cl C s₃ H₃ fp pins=>(he cl C s₃ H₃ fp pins).of) (fun _ _ _ _ _ _=>yiu) hnd hkind hcell hnames hfree0 hx hs hN hyi hyx hyf hsw)) (yil (ytG (yim (K:=ckX X A) ix sI sE)) (yeZ iy))
theorem ysD {elt iter:Expr}{px:Pos}{scope:Scope}{cpos:Pos}{it:XA}{xe:XE}{ix:List Nat}(fr:List Str) (hi:ZI X A (.Name x px) iter it) (he:∀ (cl:List (Str×Addr)) (C:Addr) (s₃:Shared) (H₃:Hp) (fp:List Addr) (pins:List (Addr×Obj)),ZE (cxC X scope cl C (x::fr) s₃ H₃ fp pins) A elt xe) (hc:X.calm=true:=by rfl) (hfr:FrOk X scope ix fr:=by repeat' first|exact True.intro|exact rfl|refine And.intro ?_ ?_) (hnd:(x::fr).Nodup:=by rfl') (hkind:scope.kind=.function:=by rfl) (hcell:∀ y∈scope.names,y.2≠.cell:=by rfl') (hnames:∀ y∈scope.names,y.2=.local->scope.names.lookup y.1=some .local:=by rfl') (hfree0:∀ y∈scope.names,y.2=.free->y.1∈fr:=by rfl') (hx:scope.names.lookup x=some .local:=by rfl) (hs:∀ v,foldedSetIterable iter X.env v=pure v:=by exact fun _=>rfl) (hN:X.N.Nodup:=by exact nd) (hyi:X.N[iy]?=some y:=by rfl) (hyx:Loc X.env.scope y:=by first|exact Or.inl rfl|exact Or.inr rfl) (hyf:X.fn y=true\/X.env.scope.names.lookup y=some .local:=by exact Or.inl rfl) (hsw:swapsWith (.ListComp elt [⟨.Name x px,iter,[],0⟩] scope cpos) (some (.Name y py)) spos.line X.env=pure true:=by rfl):ZS X A (.Assign [.Name y py] (.ListComp elt [⟨.Name x px,iter,[],0⟩] scope cpos) spos) (ycl (ygd (ydd it ix xe)) (yz iy)) :=
 wS (yzj (ymA ix fr hc hi.of hfr (te:=cE (ckX X A) xe) (fun cl C s₃ H₃ fp pins=>(he cl C s₃ H₃ fp pins).of) (fun _ _ _ _ _ _=>yiu) hnd hkind hcell hnames hfree0 hx hs hN hyi hyx hyf hsw)) (yil (yoJ (yim (K:=ckX X A) ix sI sE)) (yeZ iy))
theorem ywc {k lv:Nat}{f:Addr}{fd:FuncData}{ps:List Str}{p pos:Pos}{fi} (M:Mk X.K (A k) f) (F:FnOk X.prog X.w X.K X.mg X.base CX0 lv f fd ps (spI (ckX X A) 0 k fi)) (hm:X.mg x=some (.ref (A k))) (hb:Binds X.K fd ps []) (hr:Room (lv+1) X.A:=by exact hr.mono (by omega)) (m:Nm x:=by exact ⟨by rfl',by rfl',by rfl'⟩) (hg:Gl X x:=by rfl):ZO X A (.Call (.Name x p) [] [] pos) (ygK fi yk) :=
 wO (yrp M F hr hg hm hb .nil yjh m.d) (ymj (K:=ckX X A) (k:=k) ylc ylg)
end PX
namespace PX
open PySem L2 PySem.Spec PyProof.Rows KasS PXS
section
variable {X:Cx}{A:Nat->Addr}
theorem ygE {vs:List Value}{ns:List Int}(h:IntsAre vs ns):Vals (ns.map V.int) vs:=by
 induction h with
 | nil=>exact .nil
 | cons n t _ ih=>exact .cons ⟨t,rfl⟩ ih
variable {a:Expr}{xa:XE}{aa:XA}{pos p:Pos}{x:Str}{n:Nat}
end
end PX
namespace PX
open PySem L2 PySem.Spec PyProof.Rows KasS PXS
section
def NF (X:Cx) (a:Addr):Prop:=∀ o u,X.H₀ a≠some (.frz o u)
theorem yAt {X:Cx}{pins:List (Addr×Obj)}{σ:L2.St}{H:Hp}{s:Shared}{d:Addr}{u0 u1:HO}(I:L2.Inv X pins σ H s) (hd:H d=some u0) (nt:∀ xs,u0≠.tup xs) (no:∀ y,u0≠.own y) (nb:∀ ps,u0≠.tbl ps) (nf:NF X d)
  (ok:ObjOk X.prog X.w H s.heap d u0->ObjOk X.prog X.w H s.heap d u1):L2.Inv X pins σ (upd H d u1) s:=by
 have ne:∀ {b:Addr},H b=none->upd H d u1 b=none:=fun {b} e=>(yy fun z=>by subst z;rw [hd] at e;cases e).trans e
 refine ⟨I.ok,I.os,I.bare,⟨I.base.keep,I.base.slot,fun b o e n hx=>ne (I.base.free b o e n hx),I.base.there,fun b xs e=>?_,fun b o u e=>?_,fun b ps e=>?_⟩,I.loc,I.cell,ne I.free,fun x c e=>ne (I.freeC x c e),fun p hp=>?_,fun b u e=>?_,I.len⟩
 .have:=I.base.tups b xs e
  exact (yy fun z=>by subst z;rw [hd] at this;cases this;exact nt _ rfl).trans this
 .have:=I.base.frzs b o u e
  exact (yy fun z=>by subst z;exact nf o u e).trans this
 .obtain ⟨more,this⟩:=I.base.tbls b ps e
  exact ⟨more,(yy fun z=>by subst z;rw [hd] at this;cases this;exact nb _ rfl).trans this⟩
 .obtain ⟨h1,h2,h3⟩:=I.pin p hp
  exact ⟨h1,ne h2,h3⟩
 .have ho:∀ c y,H c=some (.own y)->upd H d u1 c=some (.own y):=fun c y q=>(yy fun z=>by subst z;rw [hd] at q;cases q;exact no _ rfl).trans q
  have ht:∀ c xs,H c=some (.tup xs)->upd H d u1 c=some (.tup xs):=fun c xs q=>(yy fun z=>by subst z;rw [hd] at q;cases q;exact nt _ rfl).trans q
  by_cases hb:b=d
  .subst hb
   rw [yu] at e
   cases e
   exact (ok (I.hok b u0 hd)).stay (fun _ _ _ q=>q) (fun c q=>ho c b q) ht
  .rw [yy hb] at e
   exact (I.hok b u e).stay (fun _ _ _ q=>q) (fun c q=>ho c b q) ht
theorem ypY {P:Program}{w:World}{K:PySem.W.Frag}{tg:Expr}(d it:Addr) (ob:Obj) (kvs:List (Key×V)) {es:Array DictEntry}{ep:Nat}(hdat:ob.data=.dict es ep):Turn P w K tg (ItD d ob kvs) [it] it (fun i h=>h.IsKeyIter it d i kvs.length ep) where
 mem:=by simp
 obj:=fun i h st b hb=>by
  have e:b=it:=by simpa using hb
  subst e
  obtain ⟨o,e,c,q⟩:=st
  exact ⟨o,e,fun v z=>by rw [q] at z;cases z⟩
 keep:=fun i h h' st k=>st.at fun o e=>k it (by simp) o e
 item:=by
  intro X hP hw hK hc i pins s σ H E I hf st hg
  subst hP hw hK
  obtain ⟨hi,hH⟩:=hg
  obtain ⟨hob,z,sy,ws,kv,hD⟩:=I.hok d _ hH
  obtain ⟨ep',hat⟩:=hD.dictAt
  obtain ⟨o',es',ho',hx1,hx2,hx3⟩:=id hat
  rw [hob] at ho';cases ho'
  rw [hdat] at hx2;cases hx2
  obtain ⟨kv1,kv2⟩:=ygW kv
  have lw:ws.length=kvs.length:=by have:=congrArg length kv1;simpa using this
  have hiw:i<ws.length:=by omega
  obtain ⟨f0,f1,f2,f3,f4,f5⟩:=hf it (by simp)
  rw [<- lw] at st
  refine wpAny_pyNext_dict_item st hat (k:=ws[i].1) (v:=ws[i].2) (List.getElem?_eq_getElem hiw) fun key h' hkey st' sb=>?_
  have I1:L2.Inv X pins σ H { s with heap:=h' }:=I.turned (t':=s.toks) (fun b o hb e=>(sb.2 b hb).trans e) f0 f1 f3 f4 f5
  obtain ⟨o,e,c,q⟩:=id st'
  rw [lw] at st'
  have hk:(kvs[i]'hi).1=ws[i].1:=by
   have h1:(ws.map (·.1))[i]?=(kvs.map (·.1))[i]?:=by rw [kv1]
   rw [getElem?_map,getElem?_map,List.getElem?_eq_getElem hiw,List.getElem?_eq_getElem hi] at h1
   exact (Option.some.inj h1).symm
  have rel:RelV (kV (kvs[i]'hi).1) key:=by
   rw [hk]
   rcases yV hkey with ⟨i,tk,g1,g2⟩|⟨y,tk,g1,g2⟩
   .rw [g1,g2];exact ⟨tk,rfl⟩
   .rw [g1,g2];exact ⟨tk,rfl⟩
  exact ⟨key,rfl,ynb (s:={ s with heap:=h' }) e c q (by decide) ⟨kV (kvs[i]'hi).1,H,I1,rel,⟨rfl,_,List.getElem?_eq_getElem hi,rfl⟩,st',fun b hb=>(hf b hb).1⟩⟩
 done:=by
  intro X hP hw hK hc i pins s σ H E I hf st hg
  subst hP hw hK
  obtain ⟨hi,hH⟩:=hg
  subst hi
  obtain ⟨hob,z,sy,ws,kv,hD⟩:=I.hok d _ hH
  obtain ⟨ep',hat⟩:=hD.dictAt
  obtain ⟨o',es',ho',hx1,hx2,hx3⟩:=id hat
  rw [hob] at ho';cases ho'
  rw [hdat] at hx2;cases hx2
  obtain ⟨kv1,kv2⟩:=ygW kv
  have lw:ws.length=kvs.length:=by have:=congrArg length kv1;simpa using this
  obtain ⟨f0,f1,f2,f3,f4,f5⟩:=hf it (by simp)
  rw [<- lw] at st
  exact wpAny_pyNext_dict_end (I.ok.hd hc) st hat (by simp) fun h' eb=>⟨rfl,I.turned (t':=s.toks) (fun b o hb e=>eb b o hb e) f0 f1 f3 f4 f5⟩
 self:=fun _ _ _ _ _ st h=>wpAny_pyIter_keyiter st h
variable {X:Cx}{A:Nat->Addr}{tg a:Expr}{p pos:Pos}{xa:XE}
theorem ywd {ta:TE}(ha:PE X a ta):PI X tg a (yzb (NF X) ta):=by
 intro pins s σ H R I h
 refine thn (ha pins s σ H _ I h) fun v s1 ⟨x,H1,I1,r1,q1⟩=>?_
 obtain ⟨d,kvs,e,hd,q⟩:=q1
 subst e
 cases r1
 have nf:NF X d:=fun o u z=>by have:=I1.base.frzs d o u z;rw [hd] at this;cases this
 obtain ⟨z,sy,ws,kv,hD⟩:=id (I1.hok d _ hd)
 obtain ⟨ep,hat⟩:=hD.dictAt
 obtain ⟨ob,es,ho,hx1,hx2,hx3⟩:=id hat
 obtain ⟨kv1,kv2⟩:=ygW kv
 have lw:ws.length=kvs.length:=by have:=congrArg length kv1;simpa using this
 have I2:=yAt (u1:=.frz ob (.dK kvs)) I1 hd (fun _ z=>by cases z) (fun _ z=>by cases z) (fun _ z=>by cases z) nf fun x=>⟨ho,x⟩
 refine wpAny_pyIter_dict sy hat ?_
 refine ⟨s1.heap.objs.size,[s1.heap.objs.size],_,_,_,rfl,I2.kept (t':=s1.toks) fun b o e=>Heap.get?_push_of_some _ e,ypY d _ ob kvs hx2,⟨_,Heap.get?_push_size _ rfl,rfl,by rw [lw];rfl⟩,fun b hb=>?_,q ob nf⟩
 have e:b=s1.heap.objs.size:=by simpa using hb
 subst e
 exact I2.fpOk (Nat.le_refl _) (I2.hok.fresh (Nat.le_refl _))
end
end PX
namespace PX
open PySem L2 PySem.Spec PyProof.Rows
section
variable {X:Cx}{A:Nat->Addr}
theorem ywe:MtR X "str.find" yoy:=by
 intro pins s σ H x xs v us Q I rx rv h
 obtain ⟨z,c,rfl,rfl,hz,hm,q⟩:=h
 obtain ⟨t,rfl⟩:=rx
 obtain ⟨u,rfl,tu,rfl⟩:=vals1 rv
 rcases yoA z c with ⟨_,h2⟩|⟨r,h1,_⟩
 .exact absurd hm h2
 .refine SC.find ?_
  have e:(Txt.find z ⟨#[c]⟩:Int)=((z.cps.toList.idxOf c:Nat):Int):=by
   unfold Txt.find
   rw [h1]
  rw [e]
  exact ⟨.int _,H,I.tok _,⟨_,rfl⟩,q⟩
variable {pos p apos:Pos}{x m:Str}{e:Expr}{es:List Expr}{aa:XA}{n:Nat}
theorem yzv {a:Addr}{ss:List Str}(hm:X.mg x=some (.ref a)) (hk:KTp X.K a (ss.map V.str)) (nm:Nm x:=by exact ⟨by rfl',by rfl',by rfl'⟩) (hg:Gl X x:=by rfl):ZE X A (.Name x pos) (xC (.tup (ss.map PV.str))):=wE (ykR hg hm nm.d) (ysu (K:=ckX X A) hk)
structure ysE (K:PySem.W.Frag) (C:Addr) (m:Str) (f:Addr):Prop where
 rd:PySem.W.readsIn K C (.type "type")=true
 fc:PySem.W.findCls K (.ref C) (.type "type") m=some (.val (.ref f))
 sp:PySem.W.specialIn K (.ref C) "__getattribute__" = some (some (.builtin "type.__getattribute__"))
 kp:keepIn K (.ref f)=true
theorem ywf {C f:Addr}{k:Nat}{fd:FuncData}{ps:List Str}{sp:Sp}{E:XK}{t:TA}{pl:Sem Bool}{CX:CXT}(c:ysE X.K C m f) (hg:Gl X x) (hm:X.mg x=some (.ref C)) (F:FnOk X.prog X.w X.K X.mg X.base CX k f fd ps sp) (hr:Room k X.A) (hb:Binds X.K fd ps []) (hx:yeV CX X E) (ha:PA X (e::es) t)
  (hd:(x == ("__debug__":Str))=false)
  (hst:starEach (e::es) X.env=(false,eval e X.env)::starEach es X.env) (hpl:(backTo pos (starEach es X.env)).any (·.1)=false)
  (ht:eval (.Call (.Attribute (.Name x p) m apos) (e::es) [] pos) X.env=(do
   let ov <- eval (.Name x p) X.env
   standAt apos.atName
   let (f,first) <- holding [ov] (getMethod ov m pl)
   callWith pos f first (backTo pos (starEach (e::es) X.env)) (backToKw pos (keywordEach [] X.env)))) :
  PE X (.Call (.Attribute (.Name x p) m apos) (e::es) [] pos) (yrm sp [] E t):=by
 intro pins s σ H Q I h
 refine PySem.W.methodCall_KW (pl:=pl) (thn (ykR (X:=X) hg hm hd pins s σ H (fun v H1=>v=.ref C/\H1=H) I ⟨rfl,rfl⟩) fun u s1 ⟨v,H1,I1,rx,ex,eh⟩=>?_) ht
 subst ex eh
 obtain rfl:u=Value.ref C:=rx
 refine PySem.W.method_cls I1.kIn c.sp (PySem.W.cls_value I1.kIn c.rd c.fc rfl ?_)
 have I1:=I1.tok (s1.toks+1)
 refine PySem.W.callWith_K (first:=[]) (h₀:=X.base) I.ok.mod.kin c.kp (thn (ha pos pins _ σ H1 _ I1 h) fun us s2 ⟨vs,H2,I2,r,q2⟩=>⟨I2.kIn,?_⟩) hst hpl
 exact yiZ (us:=us) (vs:=vs) F hr hb .nil hx I2 r q2
theorem ywg {C f:Addr}{lv k:Nat}{fd:FuncData}{ps:List Str}{fi} {pl:Sem Bool}{o:Expr}{sp:Pos}(c:ysE X.K C m f) (hm:X.mg x=some (.ref C)) (F:FnOk X.prog X.w X.K X.mg X.base CX0 lv f fd ps (spJ (ckX X A) n k fi)) (hb:Binds X.K fd ps []) (ha:ZA X A es n aa) (nm:Nm x:=by exact ⟨by rfl',by rfl',by rfl'⟩) (hg:Gl X x:=by rfl) (hr:Room lv X.A:=by exact hr.mono (by omega)) (ho:PE X o (ynP 0):=by exact yhA rfl (by first|exact Or.inl rfl|exact Or.inr (Or.inl rfl)) (by rfl') (by rfl')) (hst:starEach (o::es) X.env=(false,eval o X.env)::starEach es X.env:=by rfl) (hpl:(backTo pos (starEach es X.env)).any (·.1)=false:=by rfl) (ht:eval (.Call (.Attribute (.Name x p) m apos) (o::es) [] pos) X.env=(do
   let ov <- eval (.Name x p) X.env
   standAt apos.atName
   let (f,first) <- holding [ov] (getMethod ov m pl)
   callWith pos f first (backTo pos (starEach (o::es) X.env)) (backToKw pos (keywordEach [] X.env))):=by rfl) (hq:swapsWith (.Call (.Attribute (.Name x p) m apos) (o::es) [] pos) none sp.line X.env=pure false:=by rfl):ZF X A (.Expr (.Call (.Attribute (.Name x p) m apos) (o::es) [] pos) sp) (xBI k fi aa) :=
 wF (yhY (ywf (E:=fun _ _ _=>False) c hg hm F hr hb yjh (yeL ho ha.of hst) nm.d hst hpl ht) hq) (yvQ (K:=ckX X A) sA ha.len)
end
section
variable {P:Program}{w:World}{K:PySem.W.Frag}{mg:Str->Option Value}{base:Heap}{A:Nat->Addr}
theorem yDL {x qual:Str}{st:Stmt}{f:Addr}{fd:FuncData}{N ps:List Str}{k kc n:Nat}{s:XS}(F:Fun K x qual st f fd) (S:ydG N ps (ybl st)) (hn:ps.length=n+1) (hN:n+1<=N.length)
  (h:∀ (cdv:Value) (Ar:Around) (outer:List Env) (sh:Shared) (H:Hp) (E:XK),Room k (Ar.deeper (envOfC qual (ybl st) sh.heap.objs.size f cdv))->ZFs (yrq CX0 P w K mg base N qual (ybl st) f cdv Ar outer sh H E).nox A (yeM st) s) :
  FnOk P w K mg base CX0 (k+1) f fd ps (spJ ⟨K,A⟩ n kc (ynR N.length kc s)) :=
 F.ok S (fun _ _ _ _ h=>(yvP h).trans hn.symm) fun cdv Ar outer sh H vs Q E hr hq=>⟨_,(h cdv Ar outer sh H E hr).of,ypA (K:=⟨K,A⟩) hN sF hq⟩
end
end PX
namespace PX
open PySem L2 PySem.Spec PyProof.Rows
section
variable {X:Cx}{A:Nat->Addr}
end
end PX
namespace PX
open PySem L2 PySem.Spec PyProof.Rows
section
variable {prog:Program}{w:World}{A:Around}{E:Value->Shared->Prop}{s:Shared}
end
section
variable {X:Cx}{A:Nat->Addr}
end
end PX
namespace PX
open PySem L2 PySem.Spec PyProof.Rows
open Builtin Builtin.Str in
section
variable {prog:Program}{w:World}{A:Around}{E:Value->Shared->Prop}{s:Shared}
theorem ynz {x y:Str}{t u:Tok}{Q:Value->Shared->Prop}(hy:(y.length == 0)=false) (hz:x.length+2<=sizeLine)
  (h:∀ (l:List (Str×Tok)) (k:Nat),l.map (·.1)=Txt.split x y->Q (.ref s.heap.objs.size) { s with heap:=s.heap.push { cls:=.type "list",data:=.seq (strValues l).toArray },toks:=k }) :
  wpAny (model prog w) A (call (.builtin "str.split") [.str x t,.str y u]) Q E s:=by
 have h2:(partsBetween x (occurrences x y 0 x.length (x.length+1)) y.length).length<=sizeLine:=by
  have:=StrLaws.occ_length_le x y 0 x.length (x.length+1)
  rw [length_partsBetween]
  omega
 by_cases c1:(decide (x.length<y.length) || decide (strKind x<strKind y))=true
 .exact call_meets F.slot_str_split (typeIs_str _ _ _) F.entry_str_split (F.args_str_split_2 _ _) (meets_str_split_cannot_occur x y t u c1) (h [(x,t)] s.toks (if_pos c1).symm)
 .have c1':(decide (x.length<y.length) || decide (strKind x<strKind y))=false:=by simpa using c1
  by_cases c2:(occurrences x y 0 x.length (x.length+1)).isEmpty=true
  .exact call_meets F.slot_str_split (typeIs_str _ _ _) F.entry_str_split (F.args_str_split_2 _ _) (meets_str_split_not_found x y t u c1' hy c2) (h [(x,t)] s.toks ((if_neg c1).trans (if_pos c2)).symm)
  .refine call_meets F.slot_str_split (typeIs_str _ _ _) F.entry_str_split (F.args_str_split_2 _ _) (meets_str_split_sep x y t u c1' hy (by simpa using c2) (by omega) h2) ?_
   show wants Q E _ { s with toks:=_,heap:=s.heap.push { cls:=.type "list",data:=.seq (strsFrom s.toks (partsBetween x (occurrences x y 0 x.length (x.length+1)) y.length)).toArray } }
   rw [strsFrom_eq]
   exact h _ _ ((numbered_texts _ _).trans ((if_neg c1).trans (if_neg c2)).symm)
end
theorem ymL (z:Str):Txt.split z " " = ypC z:=by
 have e:(" ":Str)=⟨#[32]⟩:=by rfl'
 have h:=ygP (Txt.split z " ") (fun q=>by have:=split_pos z " ";rw [q] at this;simp at this) (by rw [e];exact StrLaws.split_free z 32)
 rw [StrLaws.join_split] at h
 exact h.symm
theorem yjX:∀ (l:List (Str×Tok)),Vals ((l.map (·.1)).map V.str) (strValues l)
 | []=>.nil
 | (_,t)::l=>.cons ⟨t,rfl⟩ (yjX l)
section
variable {X:Cx}{A:Nat->Addr}
theorem ypZ:CallR X (.type "str") yze:=call_str_int.or fun pins s σ H xs us Q I r h=>by
 obtain ⟨x,rfl,q⟩:=h
 obtain ⟨u,rfl,t,rfl⟩:=vals1 r
 exact PySem.P.str_of_str ⟨.str x,H,I,⟨t,rfl⟩,q⟩
theorem ysF:MtR X "str.split" yua:=by
 intro pins s σ H x xs v us Q I rx rv h
 obtain ⟨z,rfl,rfl,hz,q⟩:=h
 obtain ⟨t,rfl⟩:=rx
 obtain ⟨u,rfl,ru⟩:=vals1 rv
 obtain ⟨t',rfl⟩:=ru
 have hs:z.length+2<=sizeLine:=by simp only [PySem.sizeLine_eq];omega
 refine ynz (by decide) hs fun l k e=>?_
 have e2:l.map (·.1)=ypC z:=e.trans (ymL z)
 have e3:=split_le z " "
 rw [ymL] at e3
 refine ⟨.ref s.heap.objs.size,_,I.laid (t':=k) (o:=.lst ((ypC z).map V.str)) (fun b o e=>Heap.get?_push_of_some _ e) (Nat.le_refl _) ?_,rfl,q _ (I.hok.fresh (Nat.le_refl _))⟩
 exact ⟨by rw [length_map];exact Nat.le_trans e3 hs,strValues l,0,e2 ▸ yjX l,Heap.get?_push_size _ rfl⟩
end
section
variable {X:Cx}{pins:List (Addr×Obj)}{σ:L2.St}{H:Hp}{s:Shared}{h':Heap}
theorem ywh {t':Nat}{fp:List Addr}(I:Inv X pins σ H s) (k:∀ b o,b∉fp->s.heap.get? b=some o->h'.get? b=some o) (hf:∀ b∈fp,yna X pins H b):Inv X pins σ H { s with heap:=h',toks:=t' }:=by
 have nit:∀ b u,H b=some u->b∉fp:=fun b u e z=>by rw [(hf b z).1] at e;cases e
 refine I.step (g':=s.gens) (d':=s.drawn) (ch:=fp) (fun b hb=>?_) (fun b o _ _ hc e _=>k b o hc e) (fun b o _ _ hc e _=>⟨o.slots,k b o hc e⟩) (fun _ _ _ _ n=>n)
  (fun b o hc e=>⟨o,k b o hc e⟩) (fun _ _ e=>e) (fun _ _ _ e=>e) (fun b ps e=>⟨#[],by rw [e];simp⟩) (fun m hm=>?_) (fun b u e=>?_) I.bare
 .obtain ⟨f0,f1,f2,f3,f4,f5⟩:=hf b hb
  exact ⟨f3,f1,f4,f5⟩
 .obtain ⟨o,es,ep,ho,r⟩:=hm
  exact ⟨o,es,ep,k _ o (fun z=>(hf _ z).2.1 rfl) ho,r⟩
 .refine (I.hok b u e).stay (fun c v hc q=>k c v ?_ q) (fun _ q=>q) fun _ _ q=>q
  rcases hc with z|z
  .rw [z];exact nit b u e
  .exact nit c _ z
end
section
variable {X:Cx}{A:Nat->Addr}{elts:List Expr}{x1:Nat}{tp p pos:Pos}{a b:Expr}{aa:XA}{n:Nat}
end
section
variable {X:Cx}{A:Nat->Addr}{pos:Pos}
end
end PX
namespace PX
open PySem L2 PySem.Spec PyProof.Rows
section
variable {X:Cx}{A:Nat->Addr}{a:Expr}{es:List Expr}{p pos:Pos}{x:Str}{aa:XA}{n lv:Nat}{f:Addr}{fd:FuncData}{ps:List Str}{fn:Fn}
end
end PX
namespace PX
open PySem L2 PySem.Spec PyProof.Rows
section
variable {X:Cx}{A:Nat->Addr}{tg a b c:Expr}{p pos:Pos}{aa:XA}{n:Nat}
end
end PX
namespace PX
open PySem L2 PySem.Spec PyProof.Rows
section
variable {X:Cx}{A:Nat->Addr}{tg a:Expr}{p pos:Pos}{xa:XE}{x:Str}{es:List Expr}{aa:XA}{n:Nat}
theorem yqa {f:Addr}{fd:FuncData}{ps:List Str}{lv k:Nat}{fn:Fn}(M:Mk X.K (A k) f) (F:FnOk X.prog X.w X.K X.mg X.base CX0 lv f fd ps (spE (ckX X A) (n+1+1) fn)) (hm:X.mg x=some (.ref (A k))) (hb:Binds X.K fd ps []) (ha:ZA X A (a::es) (n+1) aa) (hr:Room (lv+1) X.A:=by exact hr.mono (by omega)) (m:Nm x:=by exact ⟨by rfl',by rfl',by rfl'⟩) (hg:Gl X x:=by rfl) (he:starEach (a::es) X.env=(false,eval a X.env)::starEach es X.env:=by rfl) (hpl:(backTo pos (starEach es X.env)).any (·.1)=false:=by rfl):ZE X A (.Call (.Name x p) (a::es) [] pos) (yfU k fn aa) :=
 wE (yoo M F hr hg hm hb .nil yjh ha.of m.d he hpl) (ypF (K:=ckX X A) (k:=k) sA ha.len)
theorem ymM (hc:X.calm=true):CallR X (.builtin "any") yDj:=by
 intro pins s σ H xs us Q I r h
 obtain ⟨p,bs,rfl,hp,q⟩:=h
 obtain ⟨u,rfl,rx⟩:=vals1 r
 cases rx
 obtain ⟨its,n,rv,e,hz⟩:=I.lst hp
 have eb:=yie rv
 subst eb
 have hl:s.heap.IsList p (bs.map Value.bool).toArray:=⟨_,e,rfl,n,rfl⟩
 have hlt:p<s.heap.objs.size:=Heap.lt_size e
 refine call_any_walk (wpAny_pyIter_list hl ?_)
 refine ⟨s.heap.objs.size,[s.heap.objs.size,p],[s.heap.objs.size],(bs.map Value.bool).toArray.size,_,_,fun i=>(bs[i]?).getD false,rfl,Walks.list (A:=X.A.in1) (I.ok.hd hc) _ p (ne_of_lt hlt) _,
  ⟨⟨_,Heap.get?_push_size _ rfl,rfl,rfl⟩,hl.push _⟩,fun i v s' Q' E' hP hQ=>?_,fun h' tk hk=>?_⟩
 .have hP:(bs.map Value.bool)[i]?=some v:=by simpa using hP
  rw [getElem?_map] at hP
  cases eb:bs[i]? with
  | none=>rw [eb] at hP;cases hP
  | some b =>
   rw [eb] at hP
   cases hP
   simp only [eb,Option.getD_some] at hQ
   exact wpAny_truthy_bool hQ
 .have ea:((List.range (bs.map Value.bool).toArray.size).any fun i=>(bs[i]?).getD false)=bs.any id:=by
   rw [size_toArray,length_map]
   exact LSm.range_any bs
  rw [ea]
  exact ⟨.bl _,H,I.kept (t':=tk) fun b o eo=>hk b o (fun hm=>by rw [List.mem_singleton.mp hm] at eo;exact absurd (Heap.lt_size eo) (lt_irrefl _)) (Heap.get?_push_of_some _ eo),rfl,q⟩
end
end PX
namespace PX
open PySem L2 PySem.Spec PyProof.Rows KasS PXS
section
variable {X:Cx}{A:Nat->Addr}{xa:XE}{x:Str}
theorem ywi {elt iter:Expr}{px:Pos}{scope:Scope}{cpos:Pos}{xe:XE}{ix:List Nat}(fr:List Str) (hi:ZE X A iter xa) (he:∀ (cl:List (Str×Addr)) (C:Addr) (s₃:Shared) (H₃:Hp) (fp:List Addr) (pins:List (Addr×Obj)),ZE (cxC X scope cl C (x::fr) s₃ H₃ fp pins) A elt xe) (hc:X.calm=true:=by rfl) (hfr:FrOk X scope ix fr:=by repeat' first|exact True.intro|exact rfl|refine And.intro ?_ ?_) (hnd:(x::fr).Nodup:=by rfl') (hkind:scope.kind=.function:=by rfl) (hcell:∀ y∈scope.names,y.2≠.cell:=by rfl') (hnames:∀ y∈scope.names,y.2=.local->scope.names.lookup y.1=some .local:=by rfl') (hfree0:∀ y∈scope.names,y.2=.free->y.1∈fr:=by rfl') (hx:scope.names.lookup x=some .local:=by rfl) (hs:∀ v,foldedSetIterable iter X.env v=pure v:=by exact fun _=>rfl):ZO X A (.ListComp elt [⟨.Name x px,iter,[],0⟩] scope cpos) (yhN xa ix xe):=by
 have pe:PE X (.ListComp elt [⟨.Name x px,iter,[],0⟩] scope cpos) (yub (NF X) (cE (ckX X A) xa) ix (cE (ckX X A) xe)):=by
  intro pins s σ H Q I h
  refine thn (yzi (ymz ix fr hc (ywd hi.of) hfr (te:=cE (ckX X A) xe) (fun cl C s₃ H₃ fp pins=>(he cl C s₃ H₃ fp pins).of) (fun _ _ _ _ _ _=>yiu) hnd hkind hcell hnames hfree0 hx hs) pins s σ H _ I h) fun v s1 ⟨y,H1,I1,r1,d,ob,kvs,nf,hd,q⟩=>?_
  exact ⟨y,_,yAt (u1:=.dK kvs) I1 hd (fun _ z=>by cases z) (fun _ z=>by cases z) (fun _ z=>by cases z) nf fun x=>x.2,r1,q⟩
 exact wO pe (ypG (K:=ckX X A) ix sE sE)
end
end PX
namespace PX
open PySem L2 PySem.Spec PyProof.Rows KasS PXS
section
theorem ynA {P:Program}{w:World}{K:PySem.W.Frag}{elts:List Expr}{x1} {tp:Pos}(d it:Addr) (ob:Obj) (kvs:List (Key×V)) {es:Array DictEntry}{ep:Nat}(hdat:ob.data=.dict es ep):Turn P w K (.Tuple elts x1 tp) (yDk d ob kvs) [it] it (fun i h=>∃ ok ov,IsItemIter h it d i kvs.length ep ok ov) where
 mem:=by simp
 obj:=fun i h st b hb=>by
  have e:b=it:=by simpa using hb
  subst e
  obtain ⟨ok,ov,st⟩:=st
  exact ⟨_,st,fun v z=>by have z':Data.fields _=Data.cell v:=z;cases z'⟩
 keep:=fun i h h' ⟨ok,ov,st⟩ k=>⟨ok,ov,k it (by simp) _ st⟩
 item:=by
  intro X hP hw hK hc i pins s σ H E I hf st hg
  subst hP hw hK
  obtain ⟨hi,hH⟩:=hg
  obtain ⟨ok,ov,st⟩:=st
  obtain ⟨hob,z,sy,ws,kv,hD⟩:=I.hok d _ hH
  obtain ⟨ep',hat⟩:=hD.dictAt
  obtain ⟨o',es',ho',hx1,hx2,hx3⟩:=id hat
  rw [hob] at ho';cases ho'
  rw [hdat] at hx2;cases hx2
  obtain ⟨kv1,kv2⟩:=ygW kv
  have lw:ws.length=kvs.length:=by have:=congrArg length kv1;simpa using this
  have hiw:i<ws.length:=by omega
  obtain ⟨f0,f1,f2,f3,f4,f5⟩:=hf it (by simp)
  rw [<- lw] at st
  refine wpAny_pyNext_items_item st hat (k:=ws[i].1) (v:=ws[i].2) (List.getElem?_eq_getElem hiw) fun key h' hkey st' ht hz kk=>⟨_,rfl,?_⟩
  refine wpAny_letOwnedTupleGo_items (s:={ s with heap:=h' }) st' fun h'' d1 sb=>?_
  have fr:H s.heap.objs.size=none:=I.hok.fresh (Nat.le_refl _)
  have itn:it≠s.heap.objs.size:=ne_of_lt (Heap.lt_size st)
  have hk:(kvs[i]'hi).1=ws[i].1:=by
   have h1:(ws.map (·.1))[i]?=(kvs.map (·.1))[i]?:=by rw [kv1]
   rw [getElem?_map,getElem?_map,List.getElem?_eq_getElem hiw,List.getElem?_eq_getElem hi] at h1
   exact (Option.some.inj h1).symm
  have rel:RelV (kV (kvs[i]'hi).1) key:=by
   rw [hk]
   rcases yV hkey with ⟨i,tk,g1,g2⟩|⟨y,tk,g1,g2⟩
   .rw [g1,g2];exact ⟨tk,rfl⟩
   .rw [g1,g2];exact ⟨tk,rfl⟩
  have rel2:RelV (kvs[i]'hi).2 ws[i].2:=by
   have:=kv2 i hi
   rw [getD_eq_getElem?_getD,getD_eq_getElem?_getD,getElem?_map,getElem?_map,List.getElem?_eq_getElem hiw,List.getElem?_eq_getElem hi] at this
   exact this
  have I1:Inv X pins σ (upd H s.heap.objs.size (.tup [kV (kvs[i]'hi).1,(kvs[i]'hi).2])) { s with heap:=s.heap.push { cls:=.type "tuple",data:=.seq #[key,ws[i].2] } } :=
   I.laid (t':=s.toks) (fun b o e=>Heap.get?_push_of_some _ e) (Nat.le_refl _) ⟨le_of_lt (ygF (show [kV (kvs[i]'hi).1,(kvs[i]'hi).2].length<=1000 by simp)),[key,ws[i].2],.cons rel (.cons rel2 .nil),⟨_,Heap.get?_push_size _ rfl,rfl,_,rfl⟩⟩
  have hf':∀ c∈[it],yna X pins (upd H s.heap.objs.size (.tup [kV (kvs[i]'hi).1,(kvs[i]'hi).2])) c:=fun c hc=>by
   have e:c=it:=by simpa using hc
   subst e
   exact ⟨by rw [yy itn];exact (hf c (by simp)).1,(hf c (by simp)).2⟩
  have I2:Inv X pins σ (upd H s.heap.objs.size (.tup [kV (kvs[i]'hi).1,(kvs[i]'hi).2])) { s with heap:=h'' }:=ywh (s:={ s with heap:=s.heap.push { cls:=.type "tuple",data:=.seq #[key,ws[i].2] } }) (t':=s.toks) I1 (fun c o hc e=>by
   have hc':c≠it:=by simpa using hc
   rw [sb.2 c hc']
   by_cases q:c=s.heap.objs.size
   .subst q
    rw [show (s.heap.push { cls:=.type "tuple",data:=.seq #[key,ws[i].2] }).get? s.heap.objs.size=_ from Heap.get?_push_size _ rfl] at e
    cases e
    exact ht
   .have hlt:=Heap.lt_size e
    have hlt:c<s.heap.objs.size:=by
     have:c<(s.heap.push { cls:=.type "tuple",data:=.seq #[key,ws[i].2] }).objs.size:=hlt
     rw [Heap.size_push] at this
     exact Nat.lt_of_le_of_ne (Nat.le_of_lt_succ this) q
    refine kk c o hc' ?_
    obtain ⟨e1,e2⟩:=Heap.get?_some_iff.mp e
    refine Heap.get?_some_iff.mpr ⟨?_,e2⟩
    have hne:=ne_of_lt hlt
    revert e1
    cases hs:s.heap
    rw [hs] at hne
    simp [Heap.push,Array.getElem?_push,hne]) hf'
  rw [lw] at d1
  exact ⟨.ref s.heap.objs.size,_,I2,rfl,⟨_,kvs[i]'hi,fr,rfl,rfl,List.getElem?_eq_getElem hi⟩,⟨_,_,d1⟩,fun c hc=>(hf' c hc).1⟩
 done:=by
  intro X hP hw hK hc i pins s σ H E I hf st hg
  subst hP hw hK
  obtain ⟨hi,hH⟩:=hg
  subst hi
  obtain ⟨ok,ov,st⟩:=st
  obtain ⟨hob,z,sy,ws,kv,hD⟩:=I.hok d _ hH
  obtain ⟨ep',hat⟩:=hD.dictAt
  obtain ⟨o',es',ho',hx1,hx2,hx3⟩:=id hat
  rw [hob] at ho';cases ho'
  rw [hdat] at hx2;cases hx2
  obtain ⟨kv1,kv2⟩:=ygW kv
  have lw:ws.length=kvs.length:=by have:=congrArg length kv1;simpa using this
  obtain ⟨f0,f1,f2,f3,f4,f5⟩:=hf it (by simp)
  rw [<- lw] at st
  exact wpAny_pyNext_items_end (I.ok.hd hc) st hat (by simp) fun h' eb=>⟨rfl,I.turned (t':=s.toks) (fun b o hb e=>eb b o hb e) f0 f1 f3 f4 f5⟩
 self:=fun _ _ _ _ _ ⟨_,_,st⟩ h=>PySem.W.kcp_self st h
variable {X:Cx}{A:Nat->Addr}{elts:List Expr}{x1:Nat}{tp pos apos cpos:Pos}{a:Expr}{xa:XE}
theorem ysG {ta:TE}(ha:PE X a ta) (hbase:attributeBase a "items" X.env (eval a X.env)=eval a X.env) (hline:(apos.endLine == cpos.line)=true):PI X (.Tuple elts x1 tp) (.Call (.Attribute a "items" apos) [] [] cpos) (ypH X.K (NF X) ta):=by
 intro pins s σ H R I h
 refine thn (ytC plainAttrs_dict PySem.F.slot_dict_items PySem.F.type_dict_items ymJ ha hbase hline pins s σ H _ I h) fun v s1 ⟨x,H1,I1,r1,q1⟩=>?_
 obtain ⟨r,d,kvs,e,hr,hd,q⟩:=q1
 subst e
 cases r1
 have nf:NF X d:=fun o u z=>by have:=I1.base.frzs d o u z;rw [hd] at this;cases this
 obtain ⟨hview,_,_⟩:=I1.hok r _ hr
 obtain ⟨z,sy,ws,kv,hD⟩:=id (I1.hok d _ hd)
 obtain ⟨ep,hat⟩:=hD.dictAt
 obtain ⟨ob,es,ho,hx1,hx2,hx3⟩:=id hat
 obtain ⟨kv1,kv2⟩:=ygW kv
 have lw:ws.length=kvs.length:=by have:=congrArg length kv1;simpa using this
 have I2:=yAt (u1:=.frz ob (.dK kvs)) I1 hd (fun _ z=>by cases z) (fun _ z=>by cases z) (fun _ z=>by cases z) nf fun x=>⟨ho,x⟩
 refine wpAny_pyIter_items (v:=r) ⟨_,hview,rfl,rfl⟩ hat ?_
 refine ⟨s1.heap.objs.size,[s1.heap.objs.size],_,_,_,rfl,I2.kept (t':=s1.toks) fun b o e=>Heap.get?_push_of_some _ e,ynA d _ ob kvs hx2,⟨_,_,by rw [<- lw];exact Heap.get?_push_size _ rfl⟩,fun b hb=>?_,q ob nf⟩
 have e:b=s1.heap.objs.size:=by simpa using hb
 subst e
 exact I2.fpOk (Nat.le_refl _) (I2.hok.fresh (Nat.le_refl _))
theorem ywj {rest:List Stmt}{ta:TE}{g:TG}{tb:TS}(hp:PassesOwn (model X.prog X.w) X.A X.env X.xe) (hc:X.calm=true) (hi:PI X (.Tuple elts x1 tp) (.Call (.Attribute a "items" apos) [] [] cpos) (ypH X.K (NF X) ta)) (hg:PG X (.Tuple elts x1 tp) g) (hb:PSs X rest tb) (hs:∀ x,foldedSetIterable (.Call (.Attribute a "items" apos) [] [] cpos) X.env x=pure x):PS X (.For (.Tuple elts x1 tp) (.Call (.Attribute a "items" apos) [] [] cpos) rest [] pos) (yzh X.K (NF X) ta g tb):=by
 intro pins s σ H D I h
 refine thn (ylT hp hc hi hg hb hs pins s σ H (yzc (NF X) D) I h) fun f s' q=>?_
 cases f with
 | next =>
  obtain ⟨σ',H',I',d,ob,kvs,nf,hd,q⟩:=q
  exact ⟨σ',_,yAt (u1:=.dK kvs) I' hd (fun _ z=>by cases z) (fun _ z=>by cases z) (fun _ z=>by cases z) nf fun x=>x.2,q⟩
 | brk=>exact q
 | cont=>exact q
 | ret u=>exact q
theorem ywk {rest:List Stmt}{s:XS}{y:XG}(hi:ZE X A a xa) (hg:ZG X A (.Tuple elts x1 tp) y) (hb:ZSs X A rest s) (hp:PassesOwn (model X.prog X.w) X.A X.env X.xe:=by exact PassesOwn.never) (hc:X.calm=true:=by rfl) (hbase:attributeBase a "items" X.env (eval a X.env)=eval a X.env:=by rfl) (hline:(apos.endLine == cpos.line)=true:=by rfl) (hs:∀ x,foldedSetIterable (.Call (.Attribute a "items" apos) [] [] cpos) X.env x=pure x:=by exact fun _=>rfl):ZS X A (.For (.Tuple elts x1 tp) (.Call (.Attribute a "items" apos) [] [] cpos) rest [] pos) (ypJ xa y s) :=
 wS (ywj hp hc (ysG hi.of hbase hline) hg.of hb.of hs) (ysw (K:=ckX X A) sE sG sS)
end
end PX
namespace My
open PySem L2 PX
theorem yDl:("":Str).length=0:=by rfl'
theorem yzw:("abcdefgh":Str).length=8:=by rfl'
theorem ywl {v0 v1:PV}{f:Nat->Fn}{h:AH}:yjG "long" f (.ins 1 ["slot","number"] [v0,v1]) h=f 1 [.ins 1 ["slot","number"] [v0,v1]] h:=yfb (by rfl')
theorem yqY {v0 v1 v2 v3:PV}{f:Nat->Fn}{h:AH}:yjG "long" f (.ins 2 ["word","slot","one","other"] [v0,v1,v2,v3]) h=f 2 [.ins 2 ["word","slot","one","other"] [v0,v1,v2,v3]] h:=yfb (by rfl')
theorem yuh {v0 v1:PV}{f:Nat->Fn}{h:AH}:yjG "long" f (.ins 3 ["slot","place"] [v0,v1]) h=f 3 [.ins 3 ["slot","place"] [v0,v1]] h:=yfb (by rfl')
theorem ywm {v0 v1:PV}{f:Nat->Fn}{h:AH}:yjG "long" f (.ins 4 ["place","slot"] [v0,v1]) h=f 4 [.ins 4 ["place","slot"] [v0,v1]] h:=yfb (by rfl')
theorem yqb {v0 v1:PV}{h:AH}:yeb [10] "words" (.ins 10 ["words","at"] [v0,v1]) h=some (v0,h):=ypd (by decide) (by rfl') (by rw [show idxOf ("words":Str) ["words","at"]=0 by rfl'];rfl)
theorem yui {v0 v1:PV}{h:AH}:yeb [10,12] "at" (.ins 10 ["words","at"] [v0,v1]) h=some (v1,h):=ypd (by decide) (by rfl') (by rw [show idxOf ("at":Str) ["words","at"]=1 by rfl'];rfl)
section
def sl_ (s:String):Array (Lean.TSyntax `Lean.Parser.Tactic.simpLemma):=(s.splitOn " ").toArray.map fun s=>⟨Lean.mkNode `Lean.Parser.Tactic.simpLemma #[Lean.mkNullNode,Lean.mkNullNode,Lean.mkIdent s.toName]⟩
local macro_rules | `(tactic| simp_all? only [$ls,*])=>`(tactic| simp only [$(sl_ "ybZ yBm yys ytP yyt x_c yDb yBo yDc yvB ytQ yyu yyv yBp yDB yBq yDC yBr yyw yBs yBt yBu yBv yBw yyx x_call yDD yBx yDE yvC yyy ytR yvD yyz yBy yyA ypb yyB yyC yyD yyE yyF yvE yyG yBz yBA yBB yBC yBD yBE yBF x_i yDF ypc ytS ymk yyI yBG yBH yBI yBJ yBK yBL yyJ yBM yBN yBO yBP yBQ yBR yBS yBT yyK yyL yyM yyN yvF yvG ytT yBn bind_some Option.bind_none List.set_cons_zero List.set_cons_succ length_cons List.length_nil decide_eq_true_eq Bool.not_eq_true' decide_eq_false_iff_not if_true if_false ite_true ite_false and_self Int.reducePow Int.reduceToNat Int.reduceLT Int.reduceLE Int.reduceNeg Int.reduceAdd Int.reduceSub Nat.reduceLT Nat.reduceLeDiff Nat.reduceAdd true_and and_true reduceIte Nat.reduceEqDiff eq_self yDe yDI yDJ yBZ yCa yCb yCc Int.reduceEq Bool.not_true Bool.not_false yzw ypr yps"),*,$ls,*])
local macro_rules | `(tactic| symm)=>`(tactic| simp_all? only [ybZ])
def tbO (cs:List Nat):List (Nat×Nat×Bool):=cs.flatMap fun i=>cs.map fun j=>(i,j,i == j)
def ycA:List (Nat×Nat×Bool):=tbO [1,2,3,4,5,6,7,8,9]
def yeI:List PV->AH->Option (Nd×AH):=ynR 1 11 (yn (ycZ [11] 0 "stack" (ygd (yeA (yc (ygd (yip)) (yk))))) (ycZ [11] 0 "last_seen" (ygd (yip))))
def ydO:Fn:=ybC 4 (yn (ycl (xOp (ycp) (ybm [11] "stack" (yf 0)) (xUn yBg (xC (.int 1)))) (yz 3)) (yeC (yf 3) (yf 1) (yf 2)))
def ydz:Fn:=ybC 3 (yn (yit true (ybm [11] "stack" (yf 0)) (yz 2) (ybn (yo (ypl false (yf 1) (yf 2))) (yK (ydw (yf 2) (yf 1))) (yD))) (yK (xC .non)))
def yfi:Fn:=ybC 3 (yeC (ybm [11] "last_seen" (yf 0)) (yf 1) (yf 2))
def yfj:Fn:=ybC 1 (yK (xFz (ydx (ybm [11] "last_seen" (yf 0)))))
def ydP:Fn:=ybC 1 (yK (ygd (ydx (ybm [11] "last_seen" (yf 0)))))
def ydQ:Fn:=ybC 2 (yn (ycl (xOp (ycp) (ybm [11] "stack" (yf 0)) (xC (.int 0))) (yz 1)) (yK (xFz (ydx (yf 1)))))
def ygw:Fn:=ybC 3 (yn (ybn (yo (xOp (oEq) (yf 0) (xC (.str "plus")))) (yK (xOp oMod (xOp ylk (yf 1) (yf 2)) (xC (.int 18446744073709551616)))) (yD)) (yn (ybn (yo (xOp (oEq) (yf 0) (xC (.str "minus")))) (yK (xOp oMod (xOp yyi (yf 1) (yf 2)) (xC (.int 18446744073709551616)))) (yD)) (yn (ybn (yo (xOp (oEq) (yf 0) (xC (.str "times")))) (yK (xOp oMod (xOp yxc (yf 1) (yf 2)) (xC (.int 18446744073709551616)))) (yD)) (yn (ybn (yo (xOp (oEq) (yf 0) (xC (.str "less")))) (yK (xIf (yo (xOp (oLt) (yf 1) (yf 2))) (xC (.int 1)) (xC (.int 0)))) (yD)) (yK (xIf (yo (xOp (oEq) (yf 1) (yf 2))) (xC (.int 1)) (xC (.int 0))))))))
def ydA:Fn:=ybC 1 (yK (ygc (xCB (yeB ycA) (yc (yf 0) (yc (xC (.ty "int")) (yk)))) (yoE (xCB (yeB ycA) (yc (yf 0) (yc (xC (.ty "bool")) (yk)))))))
def ycF:Fn:=ybC 1 (yK (ygc (yT ydA (yc (yf 0) (yk))) (yeW (oLe) (oLt) (xC (.int 0)) (yf 0) (xC (.int 18446744073709551616)))))
def ydh:Fn:=ybC 2 (yK (xCB (ytN) (yc (xFz (ydd (xIS (yf 0)) [1] (xOp (yyl) (yf 0) (yf 1)))) (yk))))
def ydR:Fn:=ybC 2 (yn (ybn (xOr (yfS (yo (yeW (oLe) (oLe) (xC (.int 1)) (xCB (yns) (yc (yf 0) (yk))) (xC (.int 20))))) (yfS (yo (yT ydh (yc (yf 0) (yc (xC (.str "0123456789")) (yk))))))) (yK (xC .non)) (yD)) (yn (ybn (yvc (yo (xOp (oEq) (xOp (ytL) (yf 0) (xC (.int 0))) (xC (.str "0")))) (yo (xOp (oNe) (yf 0) (xC (.str "0"))))) (yK (xC .non)) (yD)) (yn (ycl (xCB (yoZ) (yc (yf 0) (yk))) (yz 1)) (yK (xIf (yo (xOp (oLt) (yf 1) (xC (.int 18446744073709551616)))) (yf 1) (xC .non))))))
def ygX:Fn:=ybC 1 (yK (xOp (yBX false) (yf 0) (xC (.tup [.str "plus",.str "minus",.str "times",.str "less",.str "same"]))))
def yfk:Fn:=ybC 1 (yK (ygc (xOp (oEq) (xCB (yns) (yc (yf 0) (yk))) (xC (.int 1))) (xOp (yyl) (yf 0) (xC (.str "abcdefgh")))))
def ydi:Fn:=ybC 1 (yK (xBM isStr (yll) (xC (.str "abcdefgh")) (yc (yf 0) (yk))))
def yeh:List PV->AH->Option (Nd×AH):=ynR 3 12 (yn (ycZ [12] 0 "held" (ygd (yjA (ybe) (yc (yf 1) (yk))))) (yn (ycZ [12,14] 0 "width" (yf 2)) (ycZ [12] 0 "log" (ygd (ygK yeI (yk))))))
def ybu:Fn:=ybC 2 (yK (xOp (ycp) (ybm [12] "held" (yf 0)) (yT ydi (yc (yf 1) (yk)))))
def ybM:Fn:=ybC 3 (ygg (ybm [12] "held" (yf 0)) (yT ydi (yc (yf 1) (yk))) (yf 2))
def ybo:Fn:=ybC 2 (yK (xOp oMod (yl 12 "held_in" ybu (yf 0) (yc (yf 1) (yk))) (ybm [12,14] "width" (yf 0))))
def ybG:Fn:=ybC 5 (yco (yl 12 "hold" ybM (yf 0) (yc (yf 2) (yc (yT ygw (yc (yf 1) (yc (yl 12 "held_in" ybu (yf 0) (yc (yf 3) (yk))) (yc (yl 12 "held_in" ybu (yf 0) (yc (yf 4) (yk))) (yk))))) (yk)))))
def ycr:Fn:=ybC 3 (yco (yl 11 "write" ydO (ybm [12] "log" (yf 0)) (yc (yl 12 "box_at" ybo (yf 0) (yc (yf 1) (yk))) (yc (yl 12 "held_in" ybu (yf 0) (yc (yf 2) (yk))) (yk)))))
def ycK:Fn:=ybC 2 (yK (xOp (yvx) (yl 11 "own" ydz (ybm [12] "log" (yf 0)) (yc (yl 12 "box_at" ybo (yf 0) (yc (yf 1) (yk))) (yk))) (xC .non)))
def ybN:Fn:=ybC 3 (yco (yl 12 "hold" ybM (yf 0) (yc (yf 1) (yc (yl 11 "own" ydz (ybm [12] "log" (yf 0)) (yc (yl 12 "box_at" ybo (yf 0) (yc (yf 2) (yk))) (yk))) (yk)))))
def yck:Fn:=ybC 5 (yn (ycl (yl 12 "box_at" ybo (yf 0) (yc (yf 2) (yk))) (yz 4)) (yn (yco (yl 11 "see" yfi (ybm [12] "log" (yf 0)) (yc (yf 4) (yc (xOp (ycp) (yf 3) (yf 4)) (yk))))) (yco (yl 12 "hold" ybM (yf 0) (yc (yf 1) (yc (xOp (ycp) (yf 3) (yf 4)) (yk)))))))
def ydp:List PV->AH->Option (Nd×AH):=ynR 4 12 (yn (xBI 12 yeh (yc (yf 2) (yc (yf 3) (yk)))) (yn (ycZ [12] 0 "rows" (yf 1)) (yn (ycZ [10,12] 0 "at" (xC (.int 0))) (yn (ycZ [12] 0 "seen_stamps" (ygd (yip))) (ycZ [12] 0 "sides" (ygd (yeA (yk))))))))
def yda:Fn:=ybC 1 (yK (xOp (ycp) (ybm [12] "rows" (yf 0)) (ybm [10,12] "at" (yf 0))))
def ycg:Fn:=ybC 2 (yK (xCB (ysv) (yc (xFz (yhN (ybm [12] "seen_stamps" (yf 0)) [1,0] (xOp (oNe) (xOp (ycp) (yf 1) (yf 0)) (ydw (ybm [12] "seen_stamps" (yf 2)) (yf 0))))) (yk))))
def loB:XS:=(yn (ybn (yo (xOp (oEq) (xOp (ybD) (yf 1) (xC (.int 0))) (xC (.str "take")))) (yK (yl 12 "sees_at" ycK (yf 0) (yc (xOp (ybD) (yf 1) (xC (.int 2))) (yk)))) (yD)) (yn (ybn (xOr (yo (xOp (oEq) (xOp (ybD) (yf 1) (xC (.int 0))) (xC (.str "wait")))) (yo (xOp (oEq) (xOp (ybD) (yf 1) (xC (.int 0))) (xC (.str "throw"))))) (ybE) (yD)) (yK (xOp (oEq) (xOp (ybD) (yf 1) (xC (.int 0))) (xC (.str "lay"))))))
def ybd:Fn:=ybC 2 (yn (ycl (yl 12 "row" yda (yf 0) (yk)) (yz 1)) loB)
def ycL:Fn:=ybC 5 (yn (ycl (yl 12 "row" yda (yf 0) (yk)) (yz 3)) (yn (ycl (yl 12 "box_at" ybo (yf 0) (yc (xOp (ybD) (yf 3) (xC (.int 2))) (yk))) (yz 4)) (yn (yeC (ybm [12] "seen_stamps" (yf 0)) (yf 4) (xOp (ycp) (yf 2) (yf 4))) (yn (yco (yl 12 "take_seen" yck (yf 0) (yc (xOp (ybD) (yf 3) (xC (.int 1))) (yc (xOp (ybD) (yf 3) (xC (.int 2))) (yc (yf 1) (yk)))))) (yn (ydn [10,12] "at" (yf 0) (xOp ylk (ybm [10,12] "at" (yf 0)) (xC (.int 1)))) (yK (yf 4)))))))
def yr:Fn:=ybC 2 (ybn (yo (xOp (oEq) (xOp (ybD) (yf 1) (xC (.int 0))) (xC (.str "let")))) (yco (yl 12 "hold" ybM (yf 0) (yc (xOp (ybD) (yf 1) (xC (.int 1))) (yc (xOp (ybD) (yf 1) (xC (.int 2))) (yk))))) (ybn (yo (xOp (oEq) (xOp (ybD) (yf 1) (xC (.int 0))) (xC (.str "take")))) (yco (yl 12 "take_own" ybN (yf 0) (yc (xOp (ybD) (yf 1) (xC (.int 1))) (yc (xOp (ybD) (yf 1) (xC (.int 2))) (yk))))) (ybn (yo (xOp (oEq) (xOp (ybD) (yf 1) (xC (.int 0))) (xC (.str "put")))) (yco (yl 12 "do_put" ycr (yf 0) (yc (xOp (ybD) (yf 1) (xC (.int 1))) (yc (xOp (ybD) (yf 1) (xC (.int 2))) (yk))))) (yco (yl 12 "do_reckon" ybG (yf 0) (yc (xOp (ybD) (yf 1) (xC (.int 0))) (yc (xOp (ybD) (yf 1) (xC (.int 1))) (yc (xOp (ybD) (yf 1) (xC (.int 2))) (yc (xOp (ybD) (yf 1) (xC (.int 3))) (yk))))))))))
def goB:XS:=(ybn (yo (xOp (oEq) (xOp (ybD) (yf 1) (xC (.int 0))) (xC (.str "wait")))) (ybE) (ybn (yo (xOp (oEq) (xOp (ybD) (yf 1) (xC (.int 0))) (xC (.str "throw")))) (ybE) (ybn (xOr (yo (xOp (oEq) (xOp (ybD) (yf 1) (xC (.int 0))) (xC (.str "jump")))) (yo (xOp (oEq) (xOp (ybD) (yf 1) (xC (.int 0))) (xC (.str "unless"))))) (ybE) (ybn (xOr (yo (xOp (oEq) (xOp (ybD) (yf 1) (xC (.int 0))) (xC (.str "either")))) (yo (xOp (oEq) (xOp (ybD) (yf 1) (xC (.int 0))) (xC (.str "guard"))))) (yn (ybE) (ybE)) (ybn (yo (xOp (oEq) (xOp (ybD) (yf 1) (xC (.int 0))) (xC (.str "settle")))) (yn (ybE) (ybE)) (yco (yl 12 "go_plain" yr (yf 0) (yc (yf 1) (yk)))))))))
def ycV:Fn:=ybC 2 (yn (ycl (yl 12 "row" yda (yf 0) (yk)) (yz 1)) (yn (ydn [10,12] "at" (yf 0) (xOp ylk (ybm [10,12] "at" (yf 0)) (xC (.int 1)))) goB))
def ybO:Fn:=ybC 1 (yn (ybn (yo (xOp (oEq) (ybm [14] "nth" (yf 0)) (xCB (yce) (yc (ybm [14] "deeds" (yf 0)) (yk))))) (yK (xC (.str "ended"))) (yD)) (yK (xIf (yo (ybm [14] "sleeps" (yf 0))) (xC (.str "asleep")) (xC (.str "awake")))))
def ych:Fn:=ybC 2 (yn (ycl (xIf (yo (xOp (oLt) (ybm [14] "nth" (yf 0)) (xCB (yce) (yc (ybm [14] "deeds" (yf 0)) (yk))))) (xOp (ycp) (ybm [14] "deeds" (yf 0)) (ybm [14] "nth" (yf 0))) (xFz (yeA (yk)))) (yz 1)) (yK (ygd (ygK ydp (yc (yf 1) (yc (ybm [14] "before" (yf 0)) (yc (ybm [12,14] "width" (yf 0)) (yk))))))))
def ydj:Fn:=ybC 2 (yn (ydn [14] "nth" (yf 0) (xOp ylk (ybm [14] "nth" (yf 0)) (xC (.int 1)))) (yn (ydn [14] "before" (yf 0) (xFz (yjA (ybe) (yc (yf 1) (yk))))) (ydn [14] "run" (yf 0) (yl 14 "new_run" ych (yf 0) (yk)))))
def ybi:Fn:=ybC 3 (yn (ydn [14] "deeds" (yf 0) (xFz (yjA (ybe) (yc (yf 1) (yk))))) (yn (ydn [12,14] "width" (yf 0) (yf 2)) (yn (ydn [14] "nth" (yf 0) (xC (.int 0))) (yn (ydn [14] "sleeps" (yf 0) (xC (.bl false))) (yn (ydn [14] "before" (yf 0) (xFz (ytE yvy (xFz (yeA (yc (xC (.int 0)) (yk)))) (xCB (yns) (yc (xC (.str "abcdefgh")) (yk)))))) (ydn [14] "run" (yf 0) (yl 14 "new_run" ych (yf 0) (yk))))))))
def ydq:List PV->AH->Option (Nd×AH):=ynR 3 1 (yn (ycZ [1,2,3,4] 0 "slot" (yf 1)) (ycZ [1] 0 "number" (yf 2)))
def ycG:List PV->AH->Option (Nd×AH):=ynR 5 2 (yn (ycZ [2] 0 "word" (yf 1)) (yn (ycZ [1,2,3,4] 0 "slot" (yf 2)) (yn (ycZ [2] 0 "one" (yf 3)) (ycZ [2] 0 "other" (yf 4)))))
def ydb:List PV->AH->Option (Nd×AH):=ynR 3 3 (yn (ycZ [1,2,3,4] 0 "slot" (yf 1)) (ycZ [3,4] 0 "place" (yf 2)))
def ydr:List PV->AH->Option (Nd×AH):=ynR 3 4 (yn (ycZ [3,4] 0 "place" (yf 1)) (ycZ [1,2,3,4] 0 "slot" (yf 2)))
def yhR:Fn:=ybC 1 (yK (xC (.int 1)))
def yfl:Fn:=ybC 1 (yK (xC (.int 1)))
def ygY:Fn:=ybC 1 (yK (xC (.int 1)))
def yhS:Fn:=ybC 1 (yK (xC (.int 1)))
mutual
noncomputable def yqc:Nat->Nat->Fn
 | 0,_=>fun _ _=>none
 | n+1,k=>match k with|1=>yhR|2=>yfl|3=>ygY|4=>yhS|_=>fun _ _=>none
noncomputable def ydS:Nat->Fn
 | 0=>fun _ _=>none
 | n+1=>ybC 1 (yK (xCB (yyq) (yc (xFz (ydd (xIL (yf 0)) [] (ypa "long" (yqc n) (yf 0)))) (yk))))
end
def yfV:Fn:=ybC 1 (yn (ybn (yo (xCB (yeB ycA) (yc (yf 0) (yc (xC (.cls 1)) (yk))))) (yK (xFz (yeA (yc (ygG (yc (xC (.str "let")) (yc (ybm [1,2,3,4] "slot" (yf 0)) (yc (ybm [1] "number" (yf 0)) (yk))))) (yk))))) (yD)) (yn (ybn (yo (xCB (yeB ycA) (yc (yf 0) (yc (xC (.cls 2)) (yk))))) (yK (xFz (yeA (yc (ygG (yc (ybm [2] "word" (yf 0)) (yc (ybm [1,2,3,4] "slot" (yf 0)) (yc (ybm [2] "one" (yf 0)) (yc (ybm [2] "other" (yf 0)) (yk)))))) (yk))))) (yD)) (yn (ybn (yo (xCB (yeB ycA) (yc (yf 0) (yc (xC (.cls 3)) (yk))))) (yK (xFz (yeA (yc (ygG (yc (xC (.str "take")) (yc (ybm [1,2,3,4] "slot" (yf 0)) (yc (ybm [3,4] "place" (yf 0)) (yk))))) (yk))))) (yD)) (yn (ybn (yo (xCB (yeB ycA) (yc (yf 0) (yc (xC (.cls 4)) (yk))))) (yK (xFz (yeA (yc (ygG (yc (xC (.str "put")) (yc (ybm [3,4] "place" (yf 0)) (yc (ybm [1,2,3,4] "slot" (yf 0)) (yk))))) (yk))))) (yD)) (yn (ybn (yo (xCB (yeB ycA) (yc (yf 0) (yc (xC (.cls 8)) (yk))))) (ybE) (yD)) (yn (ybn (yo (xCB (yeB ycA) (yc (yf 0) (yc (xC (.cls 9)) (yk))))) (ybE) (yD)) (yK (xFz (yeA (yk))))))))))
def yeQ:Fn:=ybC 2 (yn (ybn (xOr (yo (xCB (yeB ycA) (yc (yf 0) (yc (xC (.cls 5)) (yk))))) (xOr (yo (xCB (yeB ycA) (yc (yf 0) (yc (xC (.cls 6)) (yk))))) (yo (xCB (yeB ycA) (yc (yf 0) (yc (xC (.cls 7)) (yk))))))) (ybE) (yD)) (yK (yT yfV (yc (yf 0) (yk)))))
def ydT:Fn:=ybC 4 (yn (yoL (yeA (yk)) 2) (yn (yoM (xIL (yf 0)) (yz 3) (ynw 2 (yT yeQ (yc (yf 3) (yc (xOp ylk (yf 1) (ypt 2)) (yk)))))) (yyg 2 (yK (yf 2)))))
def ydB:Fn:=ybC 1 (yK (xFz (ytE yAq (yT ydT (yc (yf 0) (yc (xC (.int 0)) (yk)))) (xFz (yeA (yc (ygG (yc (xC (.str "lay")) (yk))) (yk)))))))
def ycH:List PV->AH->Option (Nd×AH):=ynR 2 10 (yn (ycZ [10] 0 "words" (xFz (yjA (ybe) (yc (yf 1) (yk))))) (ycZ [10,12] 0 "at" (xC (.int 0))))
def yev:Fn:=ybC 1 (yn (ybn (yo (xOp (oEq) (yf 0) (xC (.str "")))) (yK (xFz (yeA (yk)))) (yD)) (yK (xBM isStr (yjW) (yf 0) (yc (xC (.str " ")) (yk)))))
def yP:Fn:=ybC 1 (yn (ybn (yo (xOp (oLt) (ybm [10,12] "at" (yf 0)) (xCB (yce) (yc (ybm [10] "words" (yf 0)) (yk))))) (yK (xOp (ycp) (ybm [10] "words" (yf 0)) (ybm [10,12] "at" (yf 0)))) (yD)) (yK (xC .non)))
def ybv:Fn:=ybC 2 (yn (ycl (yl 10 "ahead" yP (yf 0) (yk)) (yz 1)) (yn (ybn (yo (xOp (yvx) (yf 1) (xC .non))) (ybE) (yD)) (yn (ydn [10,12] "at" (yf 0) (xOp ylk (ybm [10,12] "at" (yf 0)) (xC (.int 1)))) (yK (yf 1)))))
def ybK:Fn:=ybC 3 (yn (ycl (yl 10 "taken" ybv (yf 0) (yk)) (yz 2)) (ybn (yo (xOp (oNe) (yf 2) (yf 1))) (ybE) (yD)))
def yv:Fn:=ybC 2 (yn (ycl (yl 10 "taken" ybv (yf 0) (yk)) (yz 1)) (yn (ybn (yfS (yo (yT yfk (yc (yf 1) (yk))))) (ybE) (yD)) (yK (yf 1))))
def ybp:Fn:=ybC 3 (yn (ycl (yl 10 "taken" ybv (yf 0) (yk)) (yz 1)) (yn (ycl (yT ydR (yc (yf 1) (yk))) (yz 2)) (yn (ybn (yo (xOp (yvx) (yf 2) (xC .non))) (ybE) (yD)) (yK (yf 2)))))
def ybq:Fn:=ybC 5 (yn (ycl (yl 10 "slot_taken" yv (yf 0) (yk)) (yz 2)) (yn (ycl (yl 10 "slot_taken" yv (yf 0) (yk)) (yz 3)) (yn (ycl (yl 10 "slot_taken" yv (yf 0) (yk)) (yz 4)) (yK (xFz (ygK ycG (yc (yf 1) (yc (yf 2) (yc (yf 3) (yc (yf 4) (yk)))))))))))
def ybx:Fn:=ybC 5 (yn (ybn (yo (xOp (oEq) (yf 1) (xC (.str "let")))) (yn (ycl (yl 10 "slot_taken" yv (yf 0) (yk)) (yz 2)) (yK (xFz (ygK ydq (yc (yf 2) (yc (yl 10 "number_taken" ybp (yf 0) (yk)) (yk))))))) (yD)) (yn (ybn (yo (xOp (oEq) (yf 1) (xC (.str "take")))) (yn (ycl (yl 10 "slot_taken" yv (yf 0) (yk)) (yz 2)) (yK (xFz (ygK ydb (yc (yf 2) (yc (yl 10 "slot_taken" yv (yf 0) (yk)) (yk))))))) (yD)) (yn (ybn (yo (xOp (oEq) (yf 1) (xC (.str "put")))) (yn (ycl (yl 10 "slot_taken" yv (yf 0) (yk)) (yz 3)) (yK (xFz (ygK ydr (yc (yf 3) (yc (yl 10 "slot_taken" yv (yf 0) (yk)) (yk))))))) (yD)) (yn (ybn (yo (xOp (oEq) (yf 1) (xC (.str "throw")))) (yn (ybE) (ybE)) (yD)) (yn (ybn (yo (xOp (oEq) (yf 1) (xC (.str "wait")))) (ybE) (yD)) (yn (ybn (yo (yT ygX (yc (yf 1) (yk)))) (yK (yl 10 "reckon_taken" ybq (yf 0) (yc (yf 1) (yk)))) (yD)) (ybE)))))))
def ybj:Fn:=ybC 3 (yn (ybn (yo (xOp (oGt) (yf 1) (xC (.int 8)))) (ybE) (yD)) (yn (ycl (yl 10 "taken" ybv (yf 0) (yk)) (yz 2)) (yn (ybn (yo (xOp (oEq) (yf 2) (xC (.str "if")))) (ybE) (yD)) (yn (ybn (yo (xOp (oEq) (yf 2) (xC (.str "either")))) (ybE) (yD)) (yn (ybn (yo (xOp (oEq) (yf 2) (xC (.str "try")))) (ybE) (yD)) (yK (yl 10 "plain_taken" ybx (yf 0) (yc (yf 2) (yk)))))))))
def yhr:XT:=yo (xOp (oEq) (yl 10 "ahead" yP (yf 0) (yk)) (xC (.str ";")))
def yjY:XS:=yn (yco (yl 10 "pass_over" ybK (yf 0) (yc (xC (.str ";")) (yk)))) (ynp 2 (yl 10 "part_taken" ybj (yf 0) (yc (yf 1) (yk))))
def ybF:Fn:=ybC 3 (yn (ybn (xOr (yo (xOp (yvx) (yl 10 "ahead" yP (yf 0) (yk)) (xC .non))) (yo (xOp (oEq) (yl 10 "ahead" yP (yf 0) (yk)) (xC (.str ")"))))) (yK (xFz (yeA (yk)))) (yD)) (yn (yoL (yeA (yc (yl 10 "part_taken" ybj (yf 0) (yc (yf 1) (yk))) (yk))) 2) (yn (yjC 100 (yhr) (yjY)) (yyg 2 (yK (yf 2))))))
def yhT:Fn:=ybC 3 (yn (ycl (ygd (ygK ycH (yc (yT yev (yc (yf 0) (yk))) (yk)))) (yz 1)) (yn (ycl (yl 10 "list_taken" ybF (yf 1) (yc (xC (.int 0)) (yk))) (yz 2)) (yn (ybn (yo (xOp (yrS) (yl 10 "ahead" yP (yf 1) (yk)) (xC .non))) (ybE) (yD)) (yn (ybn (yo (xOp (oGt) (xOp ylk (yT (ydS 45) (yc (yf 2) (yk))) (xC (.int 1))) (xC (.int 80)))) (ybE) (yD)) (yK (yf 2))))))
def ycW:Fn:=ybC 1 (yn (ybn (yfS (yo (yeW (oLe) (oLe) (xC (.int 1)) (xCB (yce) (yc (yf 0) (yk))) (xC (.int 16))))) (ybE) (yD)) (ybn (yfS (yo (xCB (ytN) (yc (xFz (ydd (xIL (yf 0)) [] (yT ycF (yc (yf 0) (yk))))) (yk))))) (ybE) (yD)))
def ybk:Fn:=ybC 1 (yK (xFz (ydd (xIL (yf 0)) [] (yT ydB (yc (yT yhT (yc (yf 0) (yk))) (yk))))))
def ybP:Fn:=ybC 1 (yn (ybn (yfS (yo (yeW (oLe) (oLe) (xC (.int 1)) (xCB (yce) (yc (yf 0) (yk))) (xC (.int 8))))) (ybE) (yD)) (yn (ybn (yo (xCB (ysv) (yc (xFz (ydd (xIL (yf 0)) [] (xOp (oGt) (xCB (yce) (yc (yf 0) (yk))) (xC (.int 6))))) (yk)))) (ybE) (yD)) (yK (xFz (ydd (xIL (yf 0)) [] (yT ybk (yc (yf 0) (yk))))))))
def ybA:Fn:=ybC 3 (yn (yco (yT ycW (yc (yf 1) (yk)))) (yn (ydn [15] "numbers" (yf 0) (ygd (yjA (ybe) (yc (yf 1) (yk))))) (yn (ydn [15] "marks" (yf 0) (ygd (ytE yvy (xFz (yeA (yc (xC (.int 0)) (yk)))) (xCB (yce) (yc (yf 1) (yk)))))) (yn (ydn [15] "crew" (yf 0) (ygd (ydd (xIL (yT ybP (yc (yf 2) (yk)))) [1] (yfU 14 ybi (yc (yf 0) (yc (xCB (yce) (yc (yf 1) (yk))) (yk))))))) (ydn [15] "entries" (yf 0) (ygd (yeA (yk))))))))
def ycM:Fn:=ybC 1 (yK (xFz (yjA (ybe) (yc (ybm [15] "numbers" (yf 0)) (yk)))))
def ycX:Fn:=ybC 1 (yK (xFz (yjA (ybe) (yc (ybm [15] "marks" (yf 0)) (yk)))))
def yQ:Fn:=ybC 2 (yn (ybn (xOr (yfS (yo (yT ydA (yc (yf 1) (yk))))) (yfS (yo (yeW (oLe) (oLt) (xC (.int 0)) (yf 1) (xCB (yce) (yc (ybm [15] "crew" (yf 0)) (yk))))))) (ybE) (yD)) (yK (xOp (ycp) (ybm [15] "crew" (yf 0)) (yf 1))))
def ybQ:Fn:=ybC 2 (yK (yl 14 "state" ybO (yl 15 "hand_at" yQ (yf 0) (yc (yf 1) (yk))) (yk)))
def ybR:Fn:=ybC 2 (yK (ybm [14] "nth" (yl 15 "hand_at" yQ (yf 0) (yc (yf 1) (yk)))))
def ycN:Fn:=ybC 2 (yK (xFz (yjA (ybe) (yc (ybm [12] "held" (ybm [14] "run" (yl 15 "hand_at" yQ (yf 0) (yc (yf 1) (yk))))) (yk)))))
def ybS:Fn:=ybC 2 (yK (yl 11 "saw" ydP (ybm [12] "log" (ybm [14] "run" (yl 15 "hand_at" yQ (yf 0) (yc (yf 1) (yk))))) (yk)))
def ybw:Fn:=ybC 2 (yK (ygd (yjA (ybe) (yc (ybm [12] "held" (ybm [14] "run" (yl 15 "hand_at" yQ (yf 0) (yc (yf 1) (yk))))) (yk)))))
def wkB:XS:=(ybn (yvc (yo (xOp (oEq) (yl 14 "state" ybO (yf 1) (yk)) (xC (.str "asleep")))) (yo (yl 12 "is_stale" ycg (ybm [14] "run" (yf 1)) (yc (ybm [15] "marks" (yf 0)) (yk))))) (ybE) (yD))
def ybh:Fn:=ybC 2 (yit false (ybm [15] "crew" (yf 0)) (yz 1) wkB)
def ycs:Fn:=ybC 6 (yn (ycl (xOp (ycp) (ybm [15] "crew" (yf 0)) (yf 1)) (yz 5)) (yn (yco (xBM ylp (yjL) (ybm [15] "entries" (yf 0)) (yc (ygG (yc (yf 1) (yc (ybm [14] "nth" (yf 5)) (yc (yf 2) (yc (yl 11 "saw" yfj (ybm [12] "log" (ybm [14] "run" (yf 5))) (yk)) (yc (yf 3) (yc (xFz (yjA (ybe) (yc (yf 4) (yk)))) (yk)))))))) (yk)))) (yco (yl 14 "go_on" ydj (yf 5) (yc (yf 4) (yk))))))
def ldB:XS:=(yn (ycl (xOp (ybD) (yf 4) (xC (.int 0))) (yz 5)) (yn (ygg (ybm [15] "numbers" (yf 0)) (yf 5) (xOp (ybD) (yf 4) (xC (.int 1)))) (ygg (ybm [15] "marks" (yf 0)) (yf 5) (xOp ylk (xOp (ycp) (ybm [15] "marks" (yf 0)) (yf 5)) (xC (.int 1))))))
def yct:Fn:=ybC 6 (yn (ycl (ybm [14] "run" (xOp (ycp) (ybm [15] "crew" (yf 0)) (yf 1))) (yz 2)) (yn (ycl (yl 11 "wrote" ydQ (ybm [12] "log" (yf 2)) (yk)) (yz 3)) (yn (yoM (xIL (yf 3)) (yz 4) ldB) (yn (yco (yl 15 "end_deed" ycs (yf 0) (yc (yf 1) (yc (ygG (yc (xC (.str "done")) (yk))) (yc (yf 3) (yc (ybm [12] "held" (yf 2)) (yk))))))) (yco (yl 15 "wake_stale" ybh (yf 0) (yk)))))))
def yR:Fn:=ybC 6 (yn (ycl (xOp (ycp) (ybm [15] "crew" (yf 0)) (yf 1)) (yz 3)) (yn (ycl (yl 12 "row" yda (ybm [14] "run" (yf 3)) (yk)) (yz 4)) (yn (ybn (yo (xOp (oEq) (xOp (ybD) (yf 4) (xC (.int 0))) (xC (.str "take")))) (yn (ycl (yl 12 "see_next" ycL (ybm [14] "run" (yf 3)) (yc (ybm [15] "numbers" (yf 0)) (yc (ybm [15] "marks" (yf 0)) (yk)))) (yz 5)) (yK (ygG (yc (xC (.str "seen")) (yc (yf 2) (yc (yf 5) (yc (xOp (ycp) (ybm [15] "numbers" (yf 0)) (yf 5)) (yk)))))))) (yD)) (yn (ybn (yo (xOp (oEq) (xOp (ybD) (yf 4) (xC (.int 0))) (xC (.str "wait")))) (yn (ybE) (ybE)) (yD)) (yn (ybn (yo (xOp (oEq) (xOp (ybD) (yf 4) (xC (.int 0))) (xC (.str "throw")))) (yn (ybE) (ybE)) (yD)) (yn (yco (yl 15 "lay_down" yct (yf 0) (yc (yf 1) (yk)))) (yK (ygG (yc (xC (.str "done")) (yc (yf 2) (yk)))))))))))
def yJ:Fn:=ybC 4 (yn (ycl (yl 15 "hand_at" yQ (yf 0) (yc (yf 1) (yk))) (yz 2)) (yn (ybn (yo (xOp (oNe) (yl 14 "state" ybO (yf 2) (yk)) (xC (.str "awake")))) (yK (ygG (yc (xC (.str "idle")) (yk)))) (yD)) (yn (ycl (ybm [10,12] "at" (ybm [14] "run" (yf 2))) (yz 3)) (yn (ybn (yfS (yo (yl 12 "is_looked_over" ybd (ybm [14] "run" (yf 2)) (yk)))) (yn (yco (yl 12 "go" ycV (ybm [14] "run" (yf 2)) (yk))) (yK (ygG (yc (xC (.str "gone")) (yc (yf 3) (yk)))))) (yD)) (yn (ybn (yo (yl 12 "is_stale" ycg (ybm [14] "run" (yf 2)) (yc (ybm [15] "marks" (yf 0)) (yk)))) (yn (ybE) (ybE)) (yD)) (yK (yl 15 "looked_over_told" yR (yf 0) (yc (yf 1) (yc (yf 3) (yk))))))))))
def yL:Fn:=ybC 2 (yn (ybn (yo (xOp (oLt) (yf 1) (xCB (yce) (yc (yf 0) (yk))))) (yK (xOp (ycp) (yf 0) (yf 1))) (yD)) (yK (xC (.int 0))))
def ybH:Fn:=ybC 2 (yn (ycl (xOp oDiv (yf 0) (xC (.int 3))) (yz 1)) (yn (ybn (yo (xOp (oEq) (xOp oMod (yf 0) (xC (.int 3))) (xC (.int 1)))) (yK (xOp oMod (yf 1) (xC (.int 5)))) (yD)) (yn (ybn (yo (xOp (oEq) (xOp oMod (yf 0) (xC (.int 3))) (xC (.int 2)))) (yK (xOp yyi (xOp yyi (xOp yvw (xC (.int 2)) (xC (.int 64))) (xC (.int 1))) (xOp oMod (yf 1) (xC (.int 5))))) (yD)) (yK (xOp oMod (yf 1) (xOp yvw (xC (.int 2)) (xC (.int 64))))))))
def ycI:Fn:=ybC 4 (yn (ycl (xOp oMod (xOp yxc (yf 0) (xC (.int 48271))) (xC (.int 2147483647))) (yz 1)) (yn (ycl (xFz (yeA (yc (xOp (ytL) (xC (.str "abcdefgh")) (xOp oMod (xOp oDiv (yf 1) (xC (.int 7))) (xC (.int 8)))) (yc (xOp (ytL) (xC (.str "abcdefgh")) (xOp oMod (xOp oDiv (yf 1) (xC (.int 56))) (xC (.int 8)))) (yc (xOp (ytL) (xC (.str "abcdefgh")) (xOp oMod (xOp oDiv (yf 1) (xC (.int 448))) (xC (.int 8)))) (yk)))))) (yz 2)) (yn (ycl (xOp oMod (yf 1) (xC (.int 7))) (yz 3)) (yn (ybn (yo (xOp (oLt) (yf 3) (xC (.int 2)))) (yK (ygG (yc (xC (.str "let")) (yc (xOp (ycp) (yf 2) (xC (.int 0))) (yc (yT ybH (yc (yf 0) (yk))) (yk)))))) (yD)) (yn (ybn (yo (xOp (oEq) (yf 3) (xC (.int 2)))) (yK (ygG (yc (xOp (ycp) (xFz (yeA (yc (xC (.str "plus")) (yc (xC (.str "minus")) (yc (xC (.str "times")) (yc (xC (.str "less")) (yc (xC (.str "same")) (yk)))))))) (xOp oMod (xOp oDiv (yf 1) (xC (.int 3584))) (xC (.int 5)))) (yc (xOp (ycp) (yf 2) (xC (.int 0))) (yc (xOp (ycp) (yf 2) (xC (.int 1))) (yc (xOp (ycp) (yf 2) (xC (.int 2))) (yk))))))) (yD)) (yn (ybn (yo (xOp (oLt) (yf 3) (xC (.int 5)))) (yK (ygG (yc (xC (.str "take")) (yc (xOp (ycp) (yf 2) (xC (.int 0))) (yc (xOp (ycp) (yf 2) (xC (.int 1))) (yk)))))) (yD)) (yK (ygG (yc (xC (.str "put")) (yc (xOp (ycp) (yf 2) (xC (.int 0))) (yc (xOp (ycp) (yf 2) (xC (.int 1))) (yk))))))))))))
def ycu:Fn:=ybC 3 (yn (ybn (yo (xOp (oEq) (yf 0) (xC (.str "plus")))) (yK (xOp oMod (xOp ylk (yf 1) (yf 2)) (xOp yvw (xC (.int 2)) (xC (.int 64))))) (yD)) (yn (ybn (yo (xOp (oEq) (yf 0) (xC (.str "minus")))) (yK (xOp oMod (xOp yyi (yf 1) (yf 2)) (xOp yvw (xC (.int 2)) (xC (.int 64))))) (yD)) (yn (ybn (yo (xOp (oEq) (yf 0) (xC (.str "times")))) (yK (xOp oMod (xOp yxc (yf 1) (yf 2)) (xOp yvw (xC (.int 2)) (xC (.int 64))))) (yD)) (yn (ybn (yo (xOp (oEq) (yf 0) (xC (.str "less")))) (yK (xCB (yoY) (yc (xOp (oLt) (yf 1) (yf 2)) (yk)))) (yD)) (yK (xCB (yoY) (yc (xOp (oEq) (yf 1) (yf 2)) (yk))))))))
def yW:Fn:=ybC 8 (yn (ycl (yf 3) (ytI 3 (ygf (yz 4) (ygf (yz 5) (ygf (yz 6) (yvo)))))) (yn (ybn (yo (xOp (oEq) (xOp (ybD) (yf 0) (xC (.int 0))) (xC (.str "let")))) (yeC (yf 4) (xOp (ybD) (yf 0) (xC (.int 1))) (xOp (ybD) (yf 0) (xC (.int 2)))) (ybn (yo (xOp (oEq) (xOp (ybD) (yf 0) (xC (.int 0))) (xC (.str "put")))) (yeC (yf 5) (xOp oMod (ydw (yf 4) (xOp (ybD) (yf 0) (xC (.int 1)))) (xCB (yce) (yc (yf 2) (yk)))) (ydw (yf 4) (xOp (ybD) (yf 0) (xC (.int 2))))) (ybn (yo (xOp (oEq) (xOp (ybD) (yf 0) (xC (.int 0))) (xC (.str "take")))) (yn (ycl (xOp oMod (ydw (yf 4) (xOp (ybD) (yf 0) (xC (.int 2)))) (xCB (yce) (yc (yf 2) (yk)))) (yz 7)) (yn (yeC (yf 4) (xOp (ybD) (yf 0) (xC (.int 1))) (ymn (yf 5) (yf 7) (xOp (ycp) (yf 2) (yf 7)))) (ybn (yo (ypl true (yf 7) (yf 5))) (yn (yeC (yf 6) (yf 7) (xOp (ycp) (yf 2) (yf 7))) (yK (ygG (yc (xC (.str "seen")) (yc (yf 1) (yc (yf 7) (yc (xOp (ycp) (yf 2) (yf 7)) (yk)))))))) (yD)))) (yeC (yf 4) (xOp (ybD) (yf 0) (xC (.int 1))) (yT ycu (yc (xOp (ybD) (yf 0) (xC (.int 0))) (yc (ydw (yf 4) (xOp (ybD) (yf 0) (xC (.int 2)))) (yc (ydw (yf 4) (xOp (ybD) (yf 0) (xC (.int 3)))) (yk))))))))) (yK (ygG (yc (xC (.str "gone")) (yc (yf 1) (yk)))))))
def ym:Nat->Fn
 | 0=>fun _ _=>none
 | n+1=>ybC 3 (yn (ybn (yo (xCB (yeB ycA) (yc (yf 1) (yc (xC (.ty "int")) (yk))))) (yK (ygc (xCB (yeB ycA) (yc (yf 0) (yc (xC (.ty "int")) (yk)))) (ygc (yoE (xCB (yeB ycA) (yc (yf 0) (yc (xC (.ty "bool")) (yk))))) (xOp (oEq) (yf 0) (yf 1))))) (yD)) (yn (ybn (yo (xCB (yeB ycA) (yc (yf 1) (yc (xC (.ty "str")) (yk))))) (yK (ygc (xCB (yeB ycA) (yc (yf 0) (yc (xC (.ty "str")) (yk)))) (xOp (oEq) (yf 0) (yf 1)))) (yD)) (yn (ybn (yo (xCB (yeB ycA) (yc (yf 1) (yc (xC (.ty "tuple")) (yk))))) (ybn (yfS (yo (xCB (yeB ycA) (yc (yf 0) (yc (xC (.ty "tuple")) (yk)))))) (yK (xC (.bl false))) (yD)) (ybn (yfS (yo (xCB (yeB ycA) (yc (yf 0) (yc (xC (.ty "list")) (yk)))))) (yK (xC (.bl false))) (yD))) (yn (ybn (yo (xOp (oNe) (xCB (yce) (yc (yf 0) (yk))) (xCB (yce) (yc (yf 1) (yk))))) (yK (xC (.bl false))) (yD)) (yn (yoM (ymf (yc (xCB (yce) (yc (yf 1) (yk))) (yk))) (yz 2) (ybn (yfS (yo (yT (ym n) (yc (xOp (ynS) (yf 0) (yf 2)) (yc (xOp (ynS) (yf 1) (yf 2)) (yk)))))) (yK (xC (.bl false))) (yD))) (yK (xC (.bl true))))))))
def spZ:XS:=(yK (ygc (yT (ym 10) (yc (yl 15 "slots" ybw (yf 0) (yc (xC (.int 0)) (yk))) (yc (yf 1) (yk)))) (yT (ym 10) (yc (yl 15 "saw" ybS (yf 0) (yc (xC (.int 0)) (yk))) (yc (yf 2) (yk))))))
def spB:XS:=(yn (ycl (xOp oMod (xOp ylk (yf 5) (yf 4)) (xC (.int 4))) (yz 6)) (yn (ybn (yo (xOp (oEq) (yf 6) (xC (.int 0)))) (yn (ycl (yl 15 "slots" ybw (yf 0) (yc (xC (.int 0)) (yk))) (yz 7)) (yn (ybn (yfS (yo (yT (ym 10) (yc (yf 7) (yc (yf 1) (yk)))))) (yK (xC (.bl false))) (yD)) (ygg (yf 7) (xC (.int 0)) (xC (.int 99))))) (yD)) (yn (ybn (yo (xOp (oEq) (yf 6) (xC (.int 1)))) (yn (ycl (yl 15 "saw" ybS (yf 0) (yc (xC (.int 0)) (yk))) (yz 7)) (yn (ybn (yfS (yo (yT (ym 10) (yc (yf 7) (yc (yf 2) (yk)))))) (yK (xC (.bl false))) (yD)) (yco (xBM ylp (yjL) (yf 7) (yc (ygG (yc (xC (.int 0)) (yc (xC (.int 0)) (yk)))) (yk)))))) (yD)) (yn (ybn (yvc (yo (xOp (oEq) (yf 6) (xC (.int 2)))) (yfS (yo (yT (ym 10) (yc (yl 15 "which" ybR (yf 0) (yc (xC (.int 0)) (yk))) (yc (yf 3) (yk))))))) (yK (xC (.bl false))) (yD)) (ybn (yvc (yo (xOp (oEq) (yf 6) (xC (.int 3)))) (yo (xOp (oNe) (yl 15 "state" ybQ (yf 0) (yc (xC (.int 0)) (yk))) (xOp (ycp) (xFz (yeA (yc (xC (.str "awake")) (yc (xC (.str "ended")) (yk))))) (yf 3))))) (yK (xC (.bl false))) (yD))))))
def ybf:Fn:=ybC 8 (yn (yoM (ymf (yc (xC (.int 4)) (yk))) (yz 5) spB) spZ)
def fiB:XS:=(ygg (yf 2) (yf 13) (yf 14))
def slB:XS:=(yeC (yf 7) (yf 8) (xC (.int 0)))
def ptE:XE:=(xBM isStr (yjF) (xC (.str " ")) (yc (xFz (ydd (xIT (yf 0)) [] (xCB (yho) (yc (yf 0) (yk))))) (yk)))
def bxE:XE:=(yT ybH (yc (xOp ylk (yT yL (yc (yf 1) (yc (xC (.int 1)) (yk)))) (xOp yxc (xOp yxc (xC (.int 31)) (yf 0)) (yf 0))) (yk)))
def lwB:XS:=(yn (ycl (yT yW (yc (xOp (ycp) (yf 3) (yf 10)) (yc (yf 10) (yc (yf 2) (yc (yf 9) (yk)))))) (yz 11)) (yn (ybn (xOr (yfS (yo (yT (ym 10) (yc (yl 15 "turn" yJ (yf 6) (yc (xC (.int 0)) (yk))) (yc (yf 11) (yk)))))) (yfS (yo (yT (ym 10) (yc (yl 15 "boxes" ycM (yf 6) (yk)) (yc (yf 2) (yk))))))) (yK (xC (.bl false))) (yD)) (yn (ycl (xFz (ydd (xIS (xC (.str "abcdefgh"))) [7] (ydw (yf 1) (yf 0)))) (yz 12)) (ybn (yfS (yo (yT ybf (yc (yf 6) (yc (yf 12) (yc (xFz (ydx (xOp (ybD) (yf 9) (xC (.int 2))))) (yc (xC (.int 0)) (yc (xOp ylk (yf 10) (xOp oMod (xOp oDiv (yT yL (yc (yf 0) (yc (xC (.int 2)) (yk)))) (xC (.int 2))) (xC (.int 4)))) (yk))))))))) (yK (xC (.bl false))) (yD)))))
def lwR:XS:=(yn (ycl (xFz (ydd (xIS (xC (.str "abcdefgh"))) [7] (ydw (yf 1) (yf 0)))) (yz 12)) (yn (ybn (yfS (yo (yT ybf (yc (yf 6) (yc (yf 12) (yc (xFz (ydx (xOp (ybD) (yf 9) (xC (.int 2))))) (yc (xC (.int 0)) (yc (xC (.int 0)) (yk))))))))) (yK (xC (.bl false))) (yD)) (yn (ybn (xOr (yo (xOp (yyZ) (yl 15 "stamps" ycX (yf 6) (yk)) (xFz (ytE yvy (xFz (yeA (yc (xC (.int 0)) (yk)))) (yf 1))))) (yfS (yo (yT (ym 10) (yc (yl 15 "turn" yJ (yf 6) (yc (xC (.int 0)) (yk))) (yc (ygG (yc (xC (.str "done")) (yc (xCB (yce) (yc (yf 3) (yk))) (yk)))) (yk))))))) (yK (xC (.bl false))) (yD)) (yn (ypJ (xOp (ybD) (yf 9) (xC (.int 1))) (ytI 2 (ygf (yz 13) (ygf (yz 14) (yvo)))) fiB) (yn (ybn (xOr (yfS (yo (yT (ym 10) (yc (yl 15 "boxes" ycM (yf 6) (yk)) (yc (yf 2) (yk)))))) (yfS (yo (yT ybf (yc (yf 6) (yc (yf 12) (yc (xFz (yeA (yk))) (yc (xC (.int 1)) (yc (xC (.int 2)) (yk)))))))))) (yK (xC (.bl false))) (yD)) (yK (ygc (xOp (yyY) (yl 15 "slots" ycN (yf 6) (yc (xC (.int 1)) (yk))) (xFz (ytE yvy (xFz (yeA (yc (xC (.int 0)) (yk)))) (xC (.int 8))))) (ygc (xOp (oEq) (yl 15 "which" ybR (yf 6) (yc (xC (.int 1)) (yk))) (xC (.int 0))) (xOp (oEq) (yl 15 "state" ybQ (yf 6) (yc (xC (.int 1)) (yk))) (xOp (ycp) (xFz (yeA (yc (xC (.str "ended")) (yc (xC (.str "awake")) (yk))))) (xCB (yce) (yc (yf 5) (yk)))))))))))))
def lwS:XS:=(yn (ycl (ygd (yip)) (yz 7)) (yn (yoM (xIS (xC (.str "abcdefgh"))) (yz 8) slB) (yn (ycl (ygG (yc (yf 7) (yc (ygd (yip)) (yc (ygd (yip)) (yk))))) (yz 9)) (yn (yoM (ymf (yc (xCB (yce) (yc (yf 3) (yk))) (yk))) (yz 10) lwB) lwR))))
def ysH:Fn:=ybC 15 (yn (ycl (xOp ylk (xC (.int 1)) (xOp oMod (yT yL (yc (yf 0) (yc (xC (.int 0)) (yk)))) (xC (.int 16)))) (yz 1)) (yn (ycl (ygd (ydd (ymf (yc (yf 1) (yk))) [0] bxE)) (yz 2)) (yn (ycl (xFz (ydd (xIL (xFz (yxX yyo (yf 0) (ylb (xC (.int 3))) (ylb (xC (.int 63)))))) [] (yT ycI (yc (yf 0) (yk))))) (yz 3)) (yn (ycl (xBM isStr (yjF) (xC (.str " ; ")) (yc (xFz (ydd (xIL (yf 3)) [] ptE)) (yk))) (yz 4)) (yn (ycl (xOp (ycp) (xFz (yeA (yc (xFz (yeA (yk))) (yc (xFz (yeA (yc (xC (.str "let a 4")) (yk)))) (yk))))) (xOp oMod (yT yL (yc (yf 0) (yc (xC (.int 2)) (yk)))) (xC (.int 2)))) (yz 5)) (yn (ycl (yfU 15 ybA (yc (xFz (yjA (ybe) (yc (yf 2) (yk)))) (yc (xFz (yeA (yc (xFz (yeA (yc (yf 4) (yk)))) (yc (xFz (yjA (ybe) (yc (yf 5) (yk)))) (yk))))) (yk)))) (yz 6)) lwS))))))
abbrev B64:Int:=18446744073709551616
inductive T where
 | let_ (r:Str) (n:Int)
 | reckon (w r s t:Str)
 | take (r s:Str)
 | put (s t:Str)
noncomputable def ycb:T->PV
 | .let_ r n=>.ins 1 ["slot","number"] [.str r,.int n]
 | .reckon w r s t=>.ins 2 ["word","slot","one","other"] [.str w,.str r,.str s,.str t]
 | .take r s=>.ins 3 ["slot","place"] [.str r,.str s]
 | .put s t=>.ins 4 ["place","slot"] [.str s,.str t]
noncomputable def wdT:T->List Str
 | .let_ r n=>["let",r,(toString n:String)]
 | .reckon w r s t=>[w,r,s,t]
 | .take r s=>["take",r,s]
 | .put s t=>["put",s,t]
def wdR:List T->List Str
 | []=>[]
 | t::r=>";"::(wdT t++wdR r)
def wdL:List T->List Str
 | []=>[]
 | t::r=>wdT t++wdR r
theorem yuj:("":Str).length=0:=by rfl'
theorem yiD (a b:Str):(a++b).length=a.length+b.length:=by
 show (a.cps++b.cps).size=_
 simp [Str.length]
theorem yjZ (a b c:Str):a++b++c=a++(b++c):=by
 show (⟨(a.cps++b.cps)++c.cps⟩:Str)=⟨a.cps++(b.cps++c.cps)⟩
 rw [Array.append_assoc]
theorem ymN (a:Int) {b:Int}(h:0<b):0<=a%b/\a%b<b:=⟨Int.emod_nonneg a (by omega),Int.emod_lt_of_pos a h⟩
theorem yuk:B64<10 ^ 20:=by decide
theorem ysI (sep x:Str) (r:List Str) (h:1<=x.length):1<=(Str.join sep (x::r)).length:=by
 cases r with
 | nil=>exact h
 | cons y r =>
  show 1<=(x++sep++Str.join sep (y::r)).length
  rw [yiD,yiD];omega
def ynT (m:Nat):List Nat:=(Nat.toDigits 10 m).map Char.toNat
theorem yzx:∀ d:Nat,d<10->(Nat.digitChar d).toNat=48+d:=by
 intro d h
 have:d=0\/d=1\/d=2\/d=3\/d=4\/d=5\/d=6\/d=7\/d=8\/d=9:=by omega
 rcases this with rfl|rfl|rfl|rfl|rfl|rfl|rfl|rfl|rfl|rfl
 all_goals decide
theorem ysJ (cs:List Nat) (c:Nat):yuY (cs++[c])=yuY cs*10+((c:Int)-48):=by
 unfold yuY
 rw [List.foldl_append];rfl
theorem yqd:∀ m:Nat,ynT m≠[]/\(∀ c∈ynT m,48<=c/\c<=57)/\yuY (ynT m)=m/\(m≠0->(ynT m)[0]?≠some 48)/\(m=0->ynT m=[48]):=by
 intro m
 induction m using Nat.strongRecOn with
 | ind m ih =>
  unfold ynT at *
  by_cases h:m<10
  .rw [Nat.toDigits_of_lt_base h,List.map_singleton,yzx m h]
   refine ⟨by simp,fun c hc=>?_,?_,fun hm e=>?_,fun e=>by subst e;rfl⟩
   .rw [List.mem_singleton.mp hc];omega
   .show (0:Int)*10+(((48+m:Nat):Int)-48)=m
    omega
   .have:48+m=48:=by simpa using e
    omega
  .rw [Nat.toDigits_of_base_le (by decide) (by omega),map_append,List.map_singleton,yzx (m%10) (by omega)]
   obtain ⟨h1,h2,h3,h4,h5⟩:=ih (m/10) (by omega)
   refine ⟨by simp,fun c hc=>?_,?_,fun _ e=>?_,fun e=>by omega⟩
   .rcases List.mem_append.mp hc with hc|hc
    .exact h2 c hc
    .rw [List.mem_singleton.mp hc];omega
   .rw [ysJ,h3];omega
   .refine h4 (by omega) ?_
    generalize (Nat.toDigits 10 (m/10)).map Char.toNat=l at *
    cases l with
    | nil=>exact absurd rfl h1
    | cons a l=>simpa using e
theorem yqe {n:Int}(h:0<=n):(Str.ofString (toString n)).cps.toList=ynT n.toNat:=by
 obtain ⟨m,rfl⟩:∃ m:Nat,n=m:=⟨n.toNat,by omega⟩
 rw [Str.ofString_eq_toList]
 show (toString m).toList.map Char.toNat=_
 rw [Int.toNat_natCast,show (toString m)=m.repr from rfl,Nat.toList_repr];rfl
def ycR (r:Str):Prop:=∃ c:Nat,97<=c/\c<=104/\r=⟨#[c]⟩
def ydk (w:Str):Prop:=w = "plus"\/w = "minus"\/w = "times"\/w = "less"\/w = "same"
noncomputable def gdT:T->Prop
 | .let_ r n=>ycR r/\0<=n/\n<B64
 | .reckon w r s t=>ydk w/\ycR r/\ycR s/\ycR t
 | .take r s=>ycR r/\ycR s
 | .put r s=>ycR r/\ycR s
def gdL (ts:List T):Prop:=∀ t∈ts,gdT t
theorem ywn (t:T):wdT t≠[]:=by cases t<;>exact fun z=>by cases z
theorem yiE {sep:Str}:∀ {a b:List Str},a≠[]->b≠[]->Str.join sep (a++b)=Str.join sep a++sep++Str.join sep b
 | [],_,h,_=>absurd rfl h
 | [x],[],_,h=>absurd rfl h
 | [x],y::b,_,_=>rfl
 | x::y::a,b,_,hb=>by
  have ih:=yiE (sep:=sep) (a:=y::a) (b:=b) (fun z=>by cases z) hb
  show x++sep++Str.join sep ((y::a)++b)=x++sep++Str.join sep (y::a)++sep++Str.join sep b
  rw [ih];simp only [yjZ]
theorem yqf {sep x:Str}{b:List Str}(h:b≠[]):Str.join sep (x::b)=x++sep++Str.join sep b:=yiE (a:=[x]) (fun z=>by cases z) h
theorem yzy:(" ; ":Str) = " "++";"++" ":=by rfl'
def fr (w:Str):Prop:=32∉w.cps.toList/\w.length≠0/\w.length<=20
theorem yei {r:Str}(h:ycR r):fr r:=by
 obtain ⟨c,h1,h2,rfl⟩:=h
 refine ⟨fun z=>?_,(fun z:1=0=>by cases z),(show 1<=20 by decide)⟩
 have:32=c:=by simpa using z
 omega
theorem yul {n:Int}(h:0<=n) (h2:n<B64):fr (toString n:String):=by
 have e:=yqe h
 obtain ⟨h3,h4,_⟩:=yqd n.toNat
 refine ⟨fun z=>?_,fun z=>h3 ?_,str_len h (by decide) (Int.lt_trans h2 yuk)⟩
 .rw [e] at z
  have:=h4 _ z
  omega
 .rw [<- e]
  have:(Str.ofString (toString n)).cps.size=0:=z
  exact List.eq_nil_of_length_eq_zero (by simpa using this)
theorem ywo {r:Str}(h:ydk r):fr r:=by
 rcases h with rfl|rfl|rfl|rfl|rfl
 all_goals exact ⟨by rfl',by rfl',by rfl'⟩
theorem yAu (s:Str) (h:decide (32∉s.cps.toList/\s.length≠0/\s.length<=20)=true):fr s:=(show 32∉s.cps.toList/\s.length≠0/\s.length<=20 from of_decide_eq_true h)
def frs (l:List Str):Prop:=∀ w∈l,fr w
theorem yfM:frs []:=fun _ h=>by cases h
theorem ybL {w:Str}{l:List Str}(h:fr w) (k:frs l):frs (w::l):=fun x hx=>(mem_cons.mp hx).elim (fun e=>e ▸ h) (k x)
theorem yqg {a b:List Str}(h:frs a) (k:frs b):frs (a++b):=fun x hx=>(List.mem_append.mp hx).elim (h x) (k x)
theorem yCk:fr "let":=yAu _ (by rfl')
theorem yzz:fr "take":=yAu _ (by rfl')
theorem yCl:fr "put":=yAu _ (by rfl')
theorem yDM:fr ";":=yAu _ (by rfl')
theorem ysK {t:T}(g:gdT t):frs (wdT t):=by
 cases t with
 | let_ r n=>exact ybL yCk (ybL (yei g.1) (ybL (yul g.2.1 g.2.2) yfM))
 | reckon w r s t=>exact ybL (ywo g.1) (ybL (yei g.2.1) (ybL (yei g.2.2.1) (ybL (yei g.2.2.2) yfM)))
 | take r s=>exact ybL yzz (ybL (yei g.1) (ybL (yei g.2) yfM))
 | put r s=>exact ybL yCl (ybL (yei g.1) (ybL (yei g.2) yfM))
theorem yzA:∀ {ts:List T},gdL ts->frs (wdR ts)
 | [],_=>yfM
 | _::_,g=>ybL yDM (yqg (ysK (g _ mem_cons_self)) (yzA fun t ht=>g t (mem_cons_of_mem _ ht)))
theorem ywp:∀ {ts:List T},gdL ts->frs (wdL ts)
 | [],_=>yfM
 | _::_,g=>yqg (ysK (g _ mem_cons_self)) (yzA fun t ht=>g t (mem_cons_of_mem _ ht))
def shT (t:T):Str:=Str.join " " (wdT t)
theorem ymO:∀ (t:T) (r:List T),Str.join " ; " ((t::r).map shT)=Str.join " " (wdT t++wdR r)
 | t,[]=>by
  show shT t=Str.join " " (wdT t++[])
  rw [append_nil];rfl
 | t,u::r=>by
  have ih:=ymO u r
  show shT t++" ; "++Str.join " ; " ((u::r).map shT)=Str.join " " (wdT t++(";":Str)::(wdT u++wdR r))
  have ne:wdT u++wdR r≠[]:=fun z=>ywn u (List.append_eq_nil_iff.mp z).1
  rw [ih,yiE (ywn t) (fun z=>by cases z),yqf ne,yzy,shT]
  simp only [yjZ]
theorem ysL:∀ ts:List T,Str.join " ; " (ts.map shT)=Str.join " " (wdL ts)
 | []=>rfl
 | t::r=>ymO t r
theorem ywq {sep:Str}{l:List Str}(h:frs l) (hl:l≠[]):Str.join sep l≠"":=by
 cases l with
 | nil=>exact absurd rfl hl
 | cons x r =>
  intro e
  have h1:=(h x mem_cons_self).2.1
  have:=ysI sep x r (by omega)
  rw [e,yuj] at this
  omega
theorem yAv:(("let":Str) = "if")=False:=eq_false (by rfl')
theorem yum:(("let":Str) = "either")=False:=eq_false (by rfl')
theorem yzB:(("let":Str) = "try")=False:=eq_false (by rfl')
theorem yfN:(("take":Str) = "let")=False:=eq_false (by rfl')
theorem yfO:(("take":Str) = "put")=False:=eq_false (by rfl')
theorem yzC:(("take":Str) = "if")=False:=eq_false (by rfl')
theorem ysM:(("take":Str) = "either")=False:=eq_false (by rfl')
theorem yxh:(("take":Str) = "try")=False:=eq_false (by rfl')
theorem yka:(("put":Str) = "let")=False:=eq_false (by rfl')
theorem ynB:(("put":Str) = "take")=False:=eq_false (by rfl')
theorem yAw:(("put":Str) = "if")=False:=eq_false (by rfl')
theorem yun:(("put":Str) = "either")=False:=eq_false (by rfl')
theorem yzD:(("put":Str) = "try")=False:=eq_false (by rfl')
theorem ylx {w:Str}(g:ydk w):(w = "let")=False/\(w = "take")=False/\(w = "put")=False/\(w = "throw")=False/\(w = "wait")=False/\(w = "if")=False/\(w = "either")=False/\(w = "try")=False:=by
 rcases g with rfl|rfl|rfl|rfl|rfl
 all_goals exact ⟨eq_false (by rfl'),eq_false (by rfl'),eq_false (by rfl'),eq_false (by rfl'),eq_false (by rfl'),eq_false (by rfl'),eq_false (by rfl'),eq_false (by rfl')⟩
section
variable {h:AH}
theorem yCm {z:Str}{i:Nat}{ρ:PSt}(e:yf i ρ h=some (.str z,h)) (hl:z.length<=100000):xIS (yf i) ρ h=some (z.cps.toList.map sgn,h):=by
 unfold xIS
 rw [e,ybZ]
 exact if_pos hl
theorem ynC {x y:Str}(hl:x.length<=1000):ydh [.str x,.str y] h=some (.bl (x.cps.toList.all fun c=>decide (c∈y.cps.toList)),h):=by
 unfold ydh
 rw [yp]
 show ob (yK _ [.val (.str x),.val (.str y)] h) fnK=_
 have hz:x.cps.toList.length=x.length:=by simp [Str.length]
 symm
 rw [yCm rfl (by omega),ybZ]
 rw [if_pos (by rw [length_map];omega)]
 rw [ydK (f:=sgn) (g:=fun c=>.bl (decide (c∈y.cps.toList))) fun c _=>rfl]
 symm
 show ob (ytN [.lst (x.cps.toList.map fun c=>PV.bl (decide (c∈y.cps.toList)))] h) _=_
 unfold ytN yba
 rw [show (x.cps.toList.map fun c=>PV.bl (decide (c∈y.cps.toList)))=(x.cps.toList.map fun c=>decide (c∈y.cps.toList)).map PV.bl by rw [map_map];rfl]
 simp only [yjE,List.all_map]
 rfl
theorem yqh {c:Nat}(h1:97<=c) (h2:c<=104):c∈("abcdefgh":Str).cps.toList:=by
 rw [show ("abcdefgh":Str).cps.toList=[97,98,99,100,101,102,103,104] by rfl']
 have:c=97\/c=98\/c=99\/c=100\/c=101\/c=102\/c=103\/c=104:=by omega
 rcases this with rfl|rfl|rfl|rfl|rfl|rfl|rfl|rfl
 all_goals decide
theorem ysN {c:Nat}(h1:48<=c) (h2:c<=57):c∈("0123456789":Str).cps.toList:=by
 rw [show ("0123456789":Str).cps.toList=(List.range 10).map (· + 48) by rfl']
 exact List.mem_map.mpr ⟨c-48,List.mem_range.mpr (by omega),by omega⟩
theorem ynD {r:Str}(g:ycR r):yfk [.str r] h=some (.bl true,h):=by
 obtain ⟨c,h1,h2,rfl⟩:=g
 unfold yfk
 rw [yp]
 show ob (yK _ [.val (.str ⟨#[c]⟩)] h) fnK=_
 symm
 rw [show (⟨#[c]⟩:Str).length=1 from rfl]
 symm
 simp only [yqh h1 h2]
 rfl
theorem ynE {r:Str}(g:ydk r):ygX [.str r] h=some (.bl true,h):=by
 rcases g with rfl|rfl|rfl|rfl|rfl
 all_goals rfl
theorem ykb {n:Int}(h0:0<=n) (h1:n<B64):ydR [.str (toString n:String)] h=some (.int n,h):=by
 obtain ⟨d1,d2,d3,d4,d5⟩:=yqd n.toNat
 have hl:=str_len h0 (k:=20) (by decide) (Int.lt_trans h1 yuk)
 have hn:(Str.ofString (toString n)).length≠0:=(yul h0 h1).2.1
 have e:=yqe h0
 have hz:n=0->Str.ofString (toString n) = "0":=fun z=>by subst z;rfl'
 have hat:atI (Str.ofString (toString n)).cps.toList 0=some ((ynT n.toNat).headD 0):=by
  rw [e]
  cases q:ynT n.toNat with
  | nil=>exact absurd q d1
  | cons a l=>exact yDe
 have hh:(ynT n.toNat).headD 0=48->n=0:=fun q=>Classical.byContradiction fun z=>d4 (by omega) (by
  cases q2:ynT n.toNat with
  | nil=>exact absurd q2 d1
  | cons a l=>rw [q2] at q;simpa using q)
 generalize hs:Str.ofString (toString n)=z at *
 unfold ydR
 rw [yp]
 show ob (yn _ _ [.val (.str z),.no] h) fnK=_
 have ml:z.cps.toList.all (fun c=>decide (c∈("0123456789":Str).cps.toList))=true:=List.all_eq_true.mpr fun c hc=>decide_eq_true (ysN (d2 c (e ▸ hc)).1 (d2 c (e ▸ hc)).2)
 symm
 rw [if_pos (by omega:z.length<=100000)]
 simp only [show (1:Int)<=z.length by omega,show (z.length:Int)<=20 by omega]
 symm
 rw [ynC (by omega),ml]
 symm
 rw [hat]
 symm
 have hb:∀ h:AH,yoZ [.str z] h=some (.int n,h):=fun h=>by
  unfold yoZ
  show (if _ then _ else _)=_
  rw [if_pos ⟨by rw [e];exact d1,by rw [e];exact d2,by omega⟩,e,d3,Int.toNat_of_nonneg h0]
 rw [if_neg (not_not_intro trivial),if_pos (by omega)]
 simp only [sgn,hb]
 symm
 rw [if_pos h1]
 split
 .rename_i q
  have q:(ynT n.toNat).headD 0=48:=by
   have q2:=congrArg (fun s:Str=>s.cps.toList) q
   rw [show ("0":Str).cps.toList=[48] by rfl'] at q2
   simpa using q2
  rw [if_neg (not_not_intro (hz (hh q)))]
 .rfl
end
local macro_rules | `(tactic| walk_at "qq")=>`(tactic| simp_all? only [$(sl_ "yfN yfO yka ynB"),*])
section
def rdr (ws:List Str) (k:Nat):Nd:=.ins 10 ["words","at"] [.lst (ws.map .str),.int k]
def hR (h:AH) (o:Nat) (ws:List Str) (k:Nat):AH:=h.set o (rdr ws k)
variable {h:AH}{o:Nat}{ws:List Str}{k:Nat}
theorem ysO (ho:o<h.length):(hR h o ws k)[o]?=some (.ins 10 ["words","at"] [.lst (ws.map .str),.int k]):=getElem?_set_self ho
theorem yzE {j:Nat}:(hR h o ws k).set o (.ins 10 ["words","at"] [.lst (ws.map .str),.int j])=hR h o ws j:=by unfold hR rdr;rw [List.set_set]
theorem ymP (ho:o<h.length):yeb [10] "words" (.loc o) (hR h o ws k)=some (.lst (ws.map .str),hR h o ws k):=by
 unfold yeb ydX
 simp only [ysO ho]
 rw [if_pos (by rfl'),show idxOf ("words":Str) ["words","at"]=0 by rfl']
 rfl
theorem ywr (ho:o<h.length):yeb [10,12] "at" (.loc o) (hR h o ws k)=some (.int k,hR h o ws k):=by
 unfold yeb ydX
 simp only [ysO ho]
 rw [if_pos (by rfl'),show idxOf ("at":Str) ["words","at"]=1 by rfl']
 rfl
theorem mR {m:Str}{f:Fn}{ys:List PV}{a:XE}{aa:XA}{ρ:PSt}{h0 h2:AH}(ho:o<h.length) (hm:m∉(["words","at"]:List Str)) (ea:a ρ h0=some (.loc o,hR h o ws k)) (eb:aa ρ (hR h o ws k)=some (ys,h2)):yl 10 m f a aa ρ h0=f (.loc o::ys) h2:=by
 unfold yl ydX
 rw [ea,ybZ]
 simp only [ysO ho]
 rw [if_pos ⟨trivial,hm⟩,eb];rfl
theorem pR (ho:o<h.length) {j:Nat}{eo ev:XE}{ρ:PSt}(e1:ev ρ (hR h o ws k)=some (.int (j:Int),hR h o ws k)) (e2:eo ρ (hR h o ws k)=some (.loc o,hR h o ws k)):ydn [10,12] "at" eo ev ρ (hR h o ws k)=some (.nx ρ,hR h o ws j):=by
 unfold ydn
 rw [e1,ybZ,e2,ybZ]
 simp only [ysO ho]
 rw [if_pos ⟨by decide,by decide⟩]
 show some (Out.nx ρ,(hR h o ws k).set o (.ins 10 (putN "at" (.int j) ["words","at"] [.lst (ws.map .str),.int k]).1 (putN "at" (.int j) ["words","at"] [.lst (ws.map .str),.int k]).2))=_
 rw [show putN "at" (.int j) ["words","at"] [.lst (ws.map .str),.int k]=(([("words":Str),"at"]:List Str),[PV.lst (ws.map .str),.int j]) from rfl,yzE]
theorem yuo {w:Str}{r:List Str}(e:ws.drop k=w::r):ws[k]?=some w/\k<ws.length/\ws.drop (k+1)=r:=by
 have hk:k<ws.length:=Classical.byContradiction fun z=>by rw [List.drop_of_length_le (by omega)] at e;cases e
 rw [List.drop_eq_getElem_cons hk] at e
 cases e
 exact ⟨List.getElem?_eq_getElem hk,hk,rfl⟩
theorem yCn (e:ws.drop k=[]):ws.length<=k:=List.drop_eq_nil_iff.mp e
theorem ygx {w:Str}{r:List Str}(ho:o<h.length) (hl:ws.length<=100000) (e:ws.drop k=w::r):yP [.loc o] (hR h o ws k)=some (.str w,hR h o ws k):=by
 obtain ⟨e1,e2,_⟩:=yuo e
 unfold yP
 rw [yp]
 show ob (yn _ _ [.val (.loc o)] (hR h o ws k)) fnK=_
 have e3:atI (ws.map PV.str) (k:Int)=some (.str w):=ycD (by rw [getElem?_map,e1];rfl)
 simp_all? only [ymP ho,ywr ho,length_map,Int.ofNat_lt,e2,e3,↓reduceIte]
theorem yiF (ho:o<h.length) (hl:ws.length<=100000) (e:ws.drop k=[]):yP [.loc o] (hR h o ws k)=some (.non,hR h o ws k):=by
 have e2:=yCn e
 unfold yP
 rw [yp]
 show ob (yn _ _ [.val (.loc o)] (hR h o ws k)) fnK=_
 simp_all? only [ymP ho,ywr ho,length_map,Int.ofNat_lt,show ¬ k<ws.length by omega,↓reduceIte]
theorem ygy {w:Str}{r:List Str}(ho:o<h.length) (hl:ws.length<=100000) (e:ws.drop k=w::r):ybv [.loc o] (hR h o ws k)=some (.str w,hR h o ws (k+1)):=by
 unfold ybv
 rw [yp]
 show ob (yn _ _ [.val (.loc o),.no] (hR h o ws k)) fnK=_
 symm
 rw [mR ho (by rfl') rfl rfl,ygx ho hl e]
 symm
 rw [if_neg (by intro z;cases z),pR (j:=k+1) ho (by symm;simp only [ywr ho];symm;rfl) rfl]
 symm
theorem yws {w:Str}{r:List Str}(ho:o<h.length) (hl:ws.length<=100000) (e:ws.drop k=w::r):ybK [.loc o,.str w] (hR h o ws k)=some (.non,hR h o ws (k+1)):=by
 unfold ybK
 rw [yp]
 show ob (yn _ _ [.val (.loc o),.val (.str w),.no] (hR h o ws k)) fnK=_
 symm
 rw [mR ho (by rfl') rfl rfl,ygy ho hl e]
 symm
theorem ybr {w:Str}{r:List Str}(g:ycR w) (ho:o<h.length) (hl:ws.length<=100000) (e:ws.drop k=w::r):yv [.loc o] (hR h o ws k)=some (.str w,hR h o ws (k+1)):=by
 unfold yv
 rw [yp]
 show ob (yn _ _ [.val (.loc o),.no] (hR h o ws k)) fnK=_
 symm
 rw [mR ho (by rfl') rfl rfl,ygy ho hl e]
 simp_all? only [ynD g]
theorem ygZ {n:Int}{r:List Str}(h0:0<=n) (h1:n<B64) (ho:o<h.length) (hl:ws.length<=100000) (e:ws.drop k=Str.ofString (toString n)::r):ybp [.loc o] (hR h o ws k)=some (.int n,hR h o ws (k+1)):=by
 unfold ybp
 rw [yp]
 show ob (yn _ _ [.val (.loc o),.no,.no] (hR h o ws k)) fnK=_
 symm
 rw [mR ho (by rfl') rfl rfl,ygy ho hl e]
 simp_all? only [ykb h0 h1]
 rw [if_neg (by intro z;cases z)]
theorem yCo {r:Str}{n:Int}{h:AH}:ydq [.str r,.int n] h=some (.ins 1 ["slot","number"] [.str r,.int n],h):=rfl
theorem ysP {w r s t:Str}{h:AH}:ycG [.str w,.str r,.str s,.str t] h=some (.ins 2 ["word","slot","one","other"] [.str w,.str r,.str s,.str t],h):=rfl
theorem yzF {r s:Str}{h:AH}:ydb [.str r,.str s] h=some (.ins 3 ["slot","place"] [.str r,.str s],h):=rfl
theorem yCp {r s:Str}{h:AH}:ydr [.str r,.str s] h=some (.ins 4 ["place","slot"] [.str r,.str s],h):=rfl
theorem yha {w a b c:Str}{r:List Str}(ga:ycR a) (gb:ycR b) (gc:ycR c) (ho:o<h.length) (hl:ws.length<=100000) (e:ws.drop k=a::b::c::r):ybq [.loc o,.str w] (hR h o ws k)=some (ycb (.reckon w a b c),hR h o ws (k+3)):=by
 have e1:=(yuo e).2.2
 have e2:=(yuo e1).2.2
 unfold ybq
 rw [yp]
 show ob (yn _ _ [.val (.loc o),.val (.str w),.no,.no,.no] (hR h o ws k)) fnK=_
 symm
 rw [mR ho (by rfl') rfl rfl,ybr ga ho hl e]
 symm
 rw [mR ho (by rfl') rfl rfl,ybr gb ho hl e1]
 symm
 rw [mR ho (by rfl') rfl rfl,ybr gc ho hl e2]
 simp_all? only [ysP]
 rfl
theorem yhs {t:T}{w:Str}{tl rest:List Str}(g:gdT t) (ew:wdT t=w::tl) (ho:o<h.length) (hl:ws.length<=100000) (e:ws.drop k=tl++rest):ybx [.loc o,.str w] (hR h o ws k)=some (ycb t,hR h o ws (k+tl.length)):=by
 unfold ybx
 rw [yp]
 show ob (yn _ _ [.val (.loc o),.val (.str w),.no,.no,.no] (hR h o ws k)) fnK=_
 cases t with
 | let_ r n =>
  cases ew
  have e1:=(yuo e).2.2
  walk_at "qq"
  rw [mR ho (by rfl') rfl rfl,ybr g.1 ho hl e]
  symm
  rw [mR ho (by rfl') rfl rfl,ygZ g.2.1 g.2.2 ho hl e1]
  simp_all? only [yCo]
  rfl
 | take r s =>
  cases ew
  have e1:=(yuo e).2.2
  walk_at "qq"
  rw [mR ho (by rfl') rfl rfl,ybr g.1 ho hl e]
  symm
  rw [mR ho (by rfl') rfl rfl,ybr g.2 ho hl e1]
  simp_all? only [yzF]
  rfl
 | put r s =>
  cases ew
  have e1:=(yuo e).2.2
  walk_at "qq"
  rw [mR ho (by rfl') rfl rfl,ybr g.1 ho hl e]
  symm
  rw [mR ho (by rfl') rfl rfl,ybr g.2 ho hl e1]
  simp_all? only [yCp]
  rfl
 | reckon w a b c =>
  cases ew
  obtain ⟨n1,n2,n3,n4,n5,_,_,_⟩:=ylx g.1
  simp_all? only [n1,n2,n3,n4,n5,ynE g.1,↓reduceIte]
  rw [mR ho (by rfl') rfl rfl,yha g.2.1 g.2.2.1 g.2.2.2 ho hl e]
  symm
end
section
variable {h:AH}{o:Nat}{ws:List Str}{k:Nat}
theorem fw {t:T}(g:gdT t):∃ w tl,wdT t=w::tl/\w≠")"/\(w = "if")=False/\(w = "either")=False/\(w = "try")=False:=by
 cases t with
 | reckon w a b c =>
  obtain ⟨_,_,_,_,_,n6,n7,n8⟩:=ylx g.1
  exact ⟨_,_,rfl,by rcases g.1 with rfl|rfl|rfl|rfl|rfl;all_goals rfl',n6,n7,n8⟩
 | _=>exact ⟨_,_,rfl,by rfl',eq_false (by rfl'),eq_false (by rfl'),eq_false (by rfl')⟩
theorem ymQ {ws a b:List Str}{k:Nat}(e:ws.drop k=a++b):ws.drop (k+a.length)=b:=by
 rw [<- List.drop_drop,e,List.drop_left]
theorem yqi {t:T}{rest:List Str}(g:gdT t) (ho:o<h.length) (hl:ws.length<=100000) (e:ws.drop k=wdT t++rest):ybj [.loc o,.int 0] (hR h o ws k)=some (ycb t,hR h o ws (k+(wdT t).length)):=by
 obtain ⟨w,tl,ew,_,n1,n2,n3⟩:=fw g
 rw [ew] at e
 have e1:=(yuo e).2.2
 unfold ybj
 rw [yp]
 show ob (yn _ _ [.val (.loc o),.val (.int 0),.no] (hR h o ws k)) fnK=_
 symm
 rw [mR ho (by rfl') rfl rfl,ygy ho hl e]
 simp_all? only [n1,n2,n3,↓reduceIte]
 rw [mR ho (by rfl') rfl rfl,yhs g ew ho hl e1,ew]
 symm
 rw [show k+1+tl.length=k+(tl.length+1) by omega]
theorem yqj (ho:o<h.length) (hl:ws.length<=100000):∀ (r:List T) (acc:List PV) (k fu:Nat),gdL r->r.length<fu->acc.length+r.length<=1000->ws.drop k=wdR r ->
  whl yhr yjY fu [.val (.loc o),.val (.int 0),.own (.lst acc)] (hR h o ws k)=some (.nx [.val (.loc o),.val (.int 0),.own (.lst (acc++r.map ycb))],hR h o ws (k+(wdR r).length))
 | [],acc,k,fu+1,_,_,_,e=>by
  rw [ymo]
  have c:yhr [.val (.loc o),.val (.int 0),.own (.lst acc)] (hR h o ws k)=some (false,hR h o ws k):=by
   unfold yhr
   symm
   rw [mR ho (by rfl') rfl rfl,yiF ho hl e]
   symm
   rfl
  rw [c,ybZ,if_neg (by intro z;cases z)]
  show _=some (Out.nx [.val (.loc o),.val (.int 0),.own (.lst (acc++[]))],hR h o ws (k+0))
  rw [append_nil];rfl
 | t::r,acc,k,fu+1,g,hu,ha,e=>by
  rw [ymo]
  have e:ws.drop k=(";":Str)::(wdT t++wdR r):=e
  have e1:=(yuo e).2.2
  have hu:r.length+1<fu+1:=hu
  have ha:acc.length+(r.length+1)<=1000:=ha
  have c:yhr [.val (.loc o),.val (.int 0),.own (.lst acc)] (hR h o ws k)=some (true,hR h o ws k):=by
   unfold yhr
   symm
   rw [mR ho (by rfl') rfl rfl,ygx ho hl e]
   symm
  have b:yjY [.val (.loc o),.val (.int 0),.own (.lst acc)] (hR h o ws k)=some (.nx [.val (.loc o),.val (.int 0),.own (.lst (acc++[ycb t]))],hR h o ws (k+1+(wdT t).length)):=by
   unfold yjY
   symm
   rw [mR ho (by rfl') rfl rfl,yws ho hl e]
   symm
   rw [yyV rfl,mR ho (by rfl') rfl rfl,yqi (g t mem_cons_self) ho hl e1]
   symm
   rw [if_pos (by omega)]
  rw [c,ybZ,if_pos rfl,b,ybZ]
  show whl yhr yjY fu _ _=_
  rw [yqj ho hl r (acc++[ycb t]) (k+1+(wdT t).length) fu (fun t ht=>g t (mem_cons_of_mem _ ht)) (by omega) (by rw [length_append,List.length_singleton];omega) (ymQ e1)]
  show _=some (Out.nx [.val (.loc o),.val (.int 0),.own (.lst (acc++(ycb t::r.map ycb)))],hR h o ws (k+((wdT t++wdR r).length+1)))
  rw [append_assoc,length_append,List.singleton_append,show k+1+(wdT t).length+(wdR r).length=k+((wdT t).length+(wdR r).length+1) by omega]
theorem list_eq (ho:o<h.length) (hl:ws.length<=100000) {ts:List T}(g:gdL ts) (hc:ts.length<=90) (e:ws.drop 0=wdL ts) :
  ybF [.loc o,.int 0] (hR h o ws 0)=some (.lst (ts.map ycb),hR h o ws (0+(wdL ts).length)):=by
 unfold ybF
 rw [yp]
 show ob (yn _ (yn _ (yn (yjC 100 yhr yjY) _)) [.val (.loc o),.val (.int 0),.no] (hR h o ws 0)) fnK=_
 cases ts with
 | nil =>
  symm
  rw [mR ho (by rfl') rfl rfl,yiF ho hl e]
  symm
  rw [if_pos (show isN PV.non=true from rfl)];rfl
 | cons t r =>
  have e:ws.drop 0=wdT t++wdR r:=e
  have hc:r.length+1<=90:=hc
  have gt:=g t mem_cons_self
  obtain ⟨w,tl,ew,nw,_⟩:=fw gt
  have e0:ws.drop 0=w::(tl++wdR r):=by rw [e,ew];rfl
  symm
  rw [mR ho (by rfl') rfl rfl,ygx ho hl e0]
  symm
  rw [if_neg (by intro z;cases z),mR ho (by rfl') rfl rfl,ygx ho hl e0]
  simp_all? only [nw,↓reduceIte]
  rw [mR ho (by rfl') rfl rfl,yqi gt ho hl e]
  symm
  rw [show yjC 100 yhr yjY [PVar.val (PV.loc o),PVar.val (PV.int 0),PVar.own (Nd.lst [ycb t])] (hR h o ws (0+(wdT t).length))=whl yhr yjY 100 [PVar.val (PV.loc o),PVar.val (PV.int 0),PVar.own (Nd.lst [ycb t])] (hR h o ws (0+(wdT t).length)) from rfl,
   yqj ho hl r [ycb t] (0+(wdT t).length) 100 (fun t ht=>g t (mem_cons_of_mem _ ht)) (by omega) (by rw [List.length_singleton];omega) (ymQ e)]
  symm
  show some (PV.lst ([ycb t]++r.map ycb),_)=some (PV.lst (ycb t::r.map ycb),hR h o ws (0+(wdT t++wdR r).length))
  rw [length_append,<- Nat.add_assoc];rfl
end
theorem ymR (t:T):(wdT t).length<=4:=by cases t<;>simp [wdT]
theorem yqk:∀ ts:List T,(wdR ts).length<=5*ts.length
 | []=>Nat.le_refl _
 | t::r=>by
  have h1:=ymR t
  have h2:=yqk r
  show (wdT t++wdR r).length+1<=5*(r.length+1)
  rw [length_append]
  omega
theorem yql:∀ ts:List T,(wdL ts).length<=5*ts.length
 | []=>Nat.le_refl _
 | t::r=>by
  have h1:=ymR t
  have h2:=yqk r
  show (wdT t++wdR r).length<=5*(r.length+1)
  rw [length_append]
  omega
def yly (ts:List T):Str:=Str.join " ; " (ts.map shT)
theorem yiG (sep:Str) (hs:sep.length<=3):∀ l:List Str,frs l->(Str.join sep l).length<=23*l.length
 | [],_=>by show ("":Str).length<=_;rw [yuj];omega
 | [x],f=>by have:=(f x mem_cons_self).2.2;show x.length<=23*1;omega
 | x::y::r,f=>by
  have h1:=(f x mem_cons_self).2.2
  have h2:=yiG sep hs (y::r) fun w hw=>f w (mem_cons_of_mem _ hw)
  show (x++sep++Str.join sep (y::r)).length<=23*((y::r).length+1)
  rw [yiD,yiD]
  omega
section
variable {h:AH}
theorem ylz {ts:List T}(g:gdL ts) (hn:ts.length<=79):yev [.str (yly ts)] h=some (.lst ((wdL ts).map .str),h):=by
 have et:yly ts=Str.join " " (wdL ts):=ysL ts
 have hl:=yiG " " (by rfl') (wdL ts) (ywp g)
 have hw:=yql ts
 rw [et]
 unfold yev
 rw [yp]
 show ob (yn _ _ [.val (.str (Str.join " " (wdL ts)))] h) fnK=_
 symm
 cases ts with
 | nil =>
  rw [if_pos (show Str.join " " (wdL []) = "" by rfl')]
  rfl
 | cons t r =>
  have ne:wdL (t::r)≠[]:=fun z=>ywn t (List.append_eq_nil_iff.mp z).1
  rw [if_neg (ywq (ywp g) ne),yvR (by omega)]
  symm
  rw [ygP _ ne fun w hw=>(ywp g w hw).1]
end
inductive Rw where
 | let_ (r:Str) (n:Int)|reckon (w r s t:Str)|take (r p:Str)|put (p s:Str)|lay
noncomputable def yO:Rw->PV
 | .let_ r n=>.tup [.str "let",.str r,.int n]
 | .reckon w r s t=>.tup [.str w,.str r,.str s,.str t]
 | .take r p=>.tup [.str "take",.str r,.str p]
 | .put p s=>.tup [.str "put",.str p,.str s]
 | .lay=>.tup [.str "lay"]
def rwT:T->Rw
 | .let_ r n=>.let_ r n
 | .reckon w r s t=>.reckon w r s t
 | .take r s=>.take r s
 | .put s t=>.put s t
section
variable {h:AH}
theorem ynF {i:Nat}{ρ:PSt}{xs:List PV}(e:yf i ρ h=some (.lst xs,h)):xIL (yf i) ρ h=some (xs,h):=yDG e
def kd:T->Nat
 | .let_ ..=>1|.reckon ..=>2|.take ..=>3|.put ..=>4
theorem yqm {f:Nat->Fn}(t:T):yjG "long" f (ycb t) h=f (kd t) [ycb t] h:=by
 cases t
 all_goals exact yfb (by rfl')
theorem ykc {n:Nat}{ts:List T}(hl:ts.length<=79):ydS (n+2) [.lst (ts.map ycb)] h=some (.int ts.length,h):=by
 unfold ydS
 dsimp only
 rw [yp]
 show ob (yK _ [.val (.lst (ts.map ycb))] h) fnK=_
 symm
 rw [ynF rfl,ybZ]
 rw [if_pos (by rw [length_map];omega)]
 rw [ydK (f:=ycb) (g:=fun _=>.int 1) fun t _=>by
  show ypa "long" (yqc (n+1)) (yf 0) [.val (ycb t)] h=_
  rw [ytS,ytP,ybZ,yqm t]
  cases t<;>rfl]
 symm
 show ob (yyq [.lst (ts.map fun _=>PV.int 1)] h) _=_
 have:(ts.map fun _=>PV.int 1)=(replicate ts.length (1:Int)).map PV.int:=by rw [List.map_replicate,List.map_const']
 rw [this]
 unfold yyq yba
 simp only [yhG]
 show some (PV.int (replicate ts.length (1:Int)).sum,h)=_
 rw [List.sum_replicate_int,Int.mul_one]
theorem ywt {ts:List T}(g:gdL ts) (hn:ts.length<=79):yhT [.str (yly ts)] h=some (.lst (ts.map ycb),hR (h++[rdr (wdL ts) 0]) h.length (wdL ts) (0+(wdL ts).length)):=by
 have hwl:=yql ts
 unfold yhT
 rw [yp]
 show ob (yn _ _ [.val (.str (yly ts)),.no,.no] h) fnK=_
 symm
 rw [ylz g hn]
 symm
 rw [show ycH [PV.lst (List.map PV.str (wdL ts))] h=some (rdr (wdL ts) 0,h) from rfl]
 symm
 have ho:h.length<(h++[rdr (wdL ts) 0]).length:=by simp
 have e0:h++[rdr (wdL ts) 0]=hR (h++[rdr (wdL ts) 0]) h.length (wdL ts) 0:=by unfold hR;simp
 generalize hG:h++[rdr (wdL ts) 0]=G at *
 have hdr:(wdL ts).drop (0+(wdL ts).length)=[]:=by simp
 rw [mR (ws:=wdL ts) (k:=0) ho (by rfl') (by rw [<- e0];rfl) rfl,list_eq (ws:=wdL ts) (ts:=ts) ho (by omega) g (by omega) List.drop_zero]
 symm
 rw [mR ho (by rfl') rfl rfl,yiF ho (by omega) hdr]
 symm
 rw [if_neg (by intro z;cases z),ykc (n:=43) hn]
 symm
 rw [if_neg (by omega)]
theorem yzG {i:Nat}{e:XE}{ρ:PSt}{xs:List PV}(hx:ρ[i]?=some (.own (.lst xs))) {ys:List PV}{h1:AH}(he:e ρ h=some (.lst ys,h1)) (hl:xs.length+ys.length<=100000):ynw i e ρ h=some (.nx (ρ.set i (.own (.lst (xs++ys)))),h1):=by
 unfold ynw
 rw [hx]
 show ob (e ρ h) _=_
 rw [he,ybZ]
 show (if _ then _ else _)=_
 rw [if_pos hl]
theorem ykd (t:T) (f:Int):yeQ [ycb t,.int f] h=some (.lst [yO (rwT t)],h):=by
 cases t<;>kernel_rfl!
theorem yke {ts:List T}{f:Int}(hn:ts.length<=79):ydT [.lst (ts.map ycb),.int f] h=some (.lst (ts.map fun t=>yO (rwT t)),h):=by
 unfold ydT
 rw [yp]
 show ob (yn _ _ [.val (.lst (ts.map ycb)),.val (.int f),.no,.no] h) fnK=_
 symm
 rw [ynF rfl,ybZ]
 refine yjO (fun i ρ h1=>h1=h/\∃ v,ρ=[.val (.lst (ts.map ycb)),.val (.int f),.own (.lst ((ts.take i).map fun t=>yO (rwT t))),v]) ⟨rfl,.no,rfl⟩ ?_ ?_
 .intro i x ρ h1 hx ⟨e1,v,e2⟩
  subst e1;subst e2
  rw [getElem?_map] at hx
  cases ht:ts[i]? with
  | none=>rw [ht] at hx;cases hx
  | some t =>
   rw [ht] at hx;cases hx
   have e3:ts.take (i+1)=ts.take i++[t]:=by rw [List.take_add_one,ht];rfl
   refine ⟨_,[.val (.lst (ts.map ycb)),.val (.int f),.own (.lst ((ts.take (i+1)).map fun t=>yO (rwT t))),.val (ycb t)],h1,rfl,.inl ?_,rfl,_,rfl⟩
   rw [e3,map_append]
   have lt:(ts.take i).length<=ts.length:=by rw [length_take];omega
   refine (yzG (xs:=(ts.take i).map fun t=>yO (rwT t)) rfl (ys:=[yO (rwT t)]) (h1:=h1) ?_ (by rw [length_map,List.length_singleton];omega)).trans rfl
   have:ypt 2 ([.val (.lst (ts.map ycb)),.val (.int f),.own (.lst ((ts.take i).map fun t=>yO (rwT t))),.val (ycb t)]:PSt) h1=some (.int ((ts.take i).map fun t=>yO (rwT t)).length,h1):=rfl
   simp_all? only [this,ykd]
 .intro ρ h1 ⟨e1,v,e2⟩
  subst e1;subst e2
  rw [length_map,List.take_length]
  symm
theorem ynG {ts:List T}(hn:ts.length<=79):ydB [.lst (ts.map ycb)] h=some (.lst ((ts.map rwT++[Rw.lay]).map yO),h):=by
 unfold ydB
 rw [yp]
 show ob (yK _ [.val (.lst (ts.map ycb))] h) fnK=_
 symm
 rw [yke hn]
 symm
 rw [if_pos (by rw [length_map];omega),map_append,map_map]
 rfl
end
section
variable {h:AH}
noncomputable def Stk (h:AH):List Nat->List (List Key×List PV)->Prop
 | [],[]=>True
 | l::ls,d::ds=>h[l]?=some (.dct d.1 d.2)/\Stk h ls ds
 | _,_=>False
theorem Stk.get {h:AH}:∀ {ls:List Nat}{ds:List (List Key×List PV)}(k:Nat),Stk h ls ds->k<ls.length->∃ l d,ls[k]?=some l/\ds[k]?=some d/\h[l]?=some (.dct d.1 d.2)
 | l::ls,d::ds,0,s,_=>⟨l,d,rfl,rfl,s.1⟩
 | l::ls,d::ds,k+1,s,hk=>by
  obtain ⟨l',d',e1,e2,e3⟩:=Stk.get k s.2 (by simpa using hk)
  exact ⟨l',d',by simpa using e1,by simpa using e2,e3⟩
 | [],[],_,_,hk=>by simp at hk
 | [],_::_,_,s,_=>s.elim
 | _::_,[],_,s,_=>s.elim
noncomputable def ywu (ds:List (List Key×List PV)) (j:Key):Nat->PV
 | 0=>.non
 | k+1=>match ds[k]? with|some d=>(match yer d.1 d.2 j with|some x=>x|none=>ywu ds j k)|none=>.non
structure LG (h:AH) (o s b:Nat) (ls:List Nat) (ds:List (List Key×List PV)) (ks:List Key) (xs:List PV):Prop where
 ob:h[o]?=some (.ins 11 ["stack","last_seen"] [.loc s,.loc b])
 st:h[s]?=some (.lst (ls.map .loc))
 sn:h[b]?=some (.dct ks xs)
 dl:Stk h ls ds
theorem ylA {o s b:Nat}(e:h[o]?=some (.ins 11 ["stack","last_seen"] [.loc s,.loc b])):yeb [11] "stack" (.loc o) h=some (.loc s,h):=by
 unfold yeb ydX
 simp only [e]
 rw [if_pos (by rfl'),show idxOf ("stack":Str) ["stack","last_seen"]=0 by rfl']
 rfl
theorem ylB {o s b:Nat}(e:h[o]?=some (.ins 11 ["stack","last_seen"] [.loc s,.loc b])):yeb [11] "last_seen" (.loc o) h=some (.loc b,h):=by
 unfold yeb ydX
 simp only [e]
 rw [if_pos (by rfl'),show idxOf ("last_seen":Str) ["stack","last_seen"]=1 by rfl']
 rfl
theorem ywv {n:Nat}{l:List Nat}{t:Nat}(e:h[n]?=some (.lst ((l++[t]).map PV.loc))):ycp (.loc n) (.int (-1)) h=some (.loc t,h):=by
 unfold ycp
 simp only [e]
 have:atI ((l++[t]).map PV.loc) (-1)=some (.loc t):=by
  unfold atI ixN
  simp
  rw [if_pos (by omega),bind_some,show (-1+((l.length:Int)+1)).toNat=l.length by omega]
  simp
 rw [this]
theorem yww {n:Nat}{ks:List Key}{xs:List PV}{i:Int}{ek ed:XE}{ρ:PSt}(ek':ek ρ h=some (.int i,h)) (ed':ed ρ h=some (.loc n,h)) (e:h[n]?=some (.dct ks xs)):ypl false ek ed ρ h=some (.bl (yer ks xs (.inl i)).isSome,h):=by
 unfold ypl
 rw [ek',ybZ,ed',ybZ]
 unfold ykz
 simp only [e,keyOf]
 rfl
theorem ysQ {n:Nat}{ks:List Key}{xs:List PV}{i:Int}{x:PV}{ek ed:XE}{ρ:PSt}(ed':ed ρ h=some (.loc n,h)) (ek':ek ρ h=some (.int i,h)) (e:h[n]?=some (.dct ks xs)) (hx:yer ks xs (.inl i)=some x):ydw ed ek ρ h=some (x,h):=by
 unfold ydw
 rw [ed',ybZ,ek',ybZ]
 unfold ykz
 simp only [e,keyOf,hx]
theorem yiH {n:Nat}{ks:List Key}{xs:List PV}{i:Int}{x:PV}{ed ek ev:XE}{ρ:PSt}(ev':ev ρ h=some (x,h)) (ed':ed ρ h=some (.loc n,h)) (ek':ek ρ h=some (.int i,h)) (e:h[n]?=some (.dct ks xs)) (hl:ks.length<1000) :
  yeC ed ek ev ρ h=some (.nx ρ,h.set n (.dct (ycq ks xs (.inl i) x).1 (ycq ks xs (.inl i) x).2)):=by
 unfold yeC
 rw [ev',ybZ,ed',ybZ,ek',ybZ]
 simp only [e,keyOf]
 rw [if_pos hl]
end
section
variable {h:AH}{o s b:Nat}{ls:List Nat}{ds:List (List Key×List PV)}{ks:List Key}{xs:List PV}
theorem ysR {i:Int}(g:LG h o s b ls ds ks xs):∀ (k:Nat),k<=ls.length->∀ c:PVar,
  ob (ykA s true (yz 2) (ybn (yo (ypl false (yf 1) (yf 2))) (yK (ydw (yf 2) (yf 1))) (yD)) k (ls.length-k) [.val (.loc o),.val (.int i),c] h) (fun o h1=>ob (sqK (yK (xC .non)) o h1) fnK)=some (ywu ds (.inl i) k,h):=by
 intro k
 induction k with
 | zero =>
  intro _ c
  unfold ykA
  simp only [g.st]
  rw [if_pos (by simp),ybZ,yyz]
  rfl
 | succ k ih =>
  intro hk c
  unfold ykA
  simp only [g.st]
  obtain ⟨l,d,e1,e2,e3⟩:=g.dl.get k (by omega)
  have e4:(ls.map PV.loc)[k]?=some (.loc l):=by rw [getElem?_map,e1];rfl
  simp only [if_true,e4]
  have er:yz 2 (.loc l) [.val (.loc o),.val (.int i),c]=some [.val (.loc o),.val (.int i),.val (.loc l)]:=rfl
  rw [er,bind_some,yyB,ytQ,yww (n:=l) rfl rfl e3,ybZ,yDc,ybZ]
  have ek:ls.length-(k+1)+1=ls.length-k:=by omega
  unfold ywu
  simp only [e2]
  cases hg:yer d.1 d.2 (.inl i) with
  | none =>
   rw [if_neg (by simp),ytR,ybZ]
   dsimp only
   rw [ek]
   exact ih (by omega) _
  | some x =>
   rw [if_pos (show (some x).isSome=true from rfl),ypb,ysQ (n:=l) rfl rfl e3 hg,ybZ,ybZ]
   rfl
theorem yzH {i:Int}(g:LG h o s b ls ds ks xs):ydz [.loc o,.int i] h=some (ywu ds (.inl i) ls.length,h):=by
 unfold ydz
 rw [yp]
 show ob (yn _ _ [.val (.loc o),.val (.int i),.no] h) fnK=_
 rw [yvD]
 have:=ysR (i:=i) g ls.length (Nat.le_refl _) .no
 rw [sub_self] at this
 rw [yys,<- this]
 unfold yit
 rw [ypc,show yf 0 [PVar.val (.loc o),.val (.int i),.no] h=some (.loc o,h) from rfl,ybZ,ylA g.ob,ybZ]
 simp only [g.st,length_map]
theorem ysS {i:Int}{v:PV}{t:Nat}{d:List Key×List PV}(g:LG h o s b (ls++[t]) ds ks xs) (ht:h[t]?=some (.dct d.1 d.2)) (hl:d.1.length<1000):ydO [.loc o,.int i,v] h=some (.non,h.set t (.dct (ycq d.1 d.2 (.inl i) v).1 (ycq d.1 d.2 (.inl i) v).2)):=by
 unfold ydO
 rw [yp,yvD,yyC,yDb,ypc,show yf 0 ([PV.loc o,.int i,v].map .val++replicate (4-[PV.loc o,.int i,v].length) .no) h=some (.loc o,h) from rfl,ybZ,ylA g.ob,ybZ]
 show ob (ob (ob (ycp (.loc s) (.int (-1)) h) _) _) _=_
 rw [ywv g.st,ybZ]
 show ob (yeC (yf 3) (yf 1) (yf 2) [.val (.loc o),.val (.int i),.val v,.val (.loc t)] h) fnK=_
 rw [yiH (n:=t) (i:=i) (x:=v) rfl rfl rfl ht hl,ybZ]
 rfl
end
section
variable {h:AH}{o s b:Nat}{ls:List Nat}{ds:List (List Key×List PV)}{ks:List Key}{xs:List PV}
end
def At (h:AH) (m:List (Nat×Nd)):Prop:=(m.map (·.1)).Nodup/\∀ p∈m,h[p.1]?=some p.2
section
variable {h:AH}{m a b:List (Nat×Nd)}
theorem At.get (A:At h m) (i:Nat) {n:Nat}{d:Nd}(e:m[i]?=some (n,d)):h[n]?=some d:=A.2 _ (mem_of_getElem? e)
theorem At.lt (A:At h m) {p:Nat×Nd}(hp:p∈m):p.1<h.length:=(List.getElem?_eq_some_iff.mp (A.2 p hp)).1
theorem At.upd {n:Nat}{d:Nd}(d':Nd) (A:At h (a++(n,d)::b)):At (h.set n d') (a++(n,d')::b):=by
 have hn:n<h.length:=A.lt (p:=(n,d)) (by simp)
 refine ⟨by have:=A.1;simpa using this,fun p hp=>?_⟩
 by_cases q:p.1=n
 .have:p=(n,d'):=by
   have nd:=A.1
   rw [map_append,map_cons,List.nodup_append] at nd
   rcases List.mem_append.mp hp with z|z
   .exact absurd q (nd.2.2 _ (List.mem_map_of_mem z) _ mem_cons_self)
   .rcases mem_cons.mp z with z|z
    .exact z
    .exact absurd (show n∈b.map (·.1) by rw [<- q];exact List.mem_map_of_mem z) (List.nodup_cons.mp nd.2.1).1
  rw [this,getElem?_set_self hn]
 .rw [getElem?_set_ne (fun z=>q z.symm)]
  refine A.2 p ?_
  rcases List.mem_append.mp hp with z|z
  .exact mem_append_left _ z
  .rcases mem_cons.mp z with z|z
   .exact absurd (by rw [z]) q
   .exact mem_append_right _ (mem_cons_of_mem _ z)
theorem At.new (d:Nd) (A:At h (a++b)):At (h++[d]) (a++(h.length,d)::b):=by
 have lt:∀ p∈a++b,p.1<h.length:=fun p hp=>A.lt hp
 refine ⟨?_,fun p hp=>?_⟩
 .have nd:=A.1
  rw [map_append,List.nodup_append] at nd
  rw [map_append,map_cons,List.nodup_append]
  refine ⟨nd.1,List.nodup_cons.mpr ⟨fun z=>?_,nd.2.1⟩,fun x hx y hy=>?_⟩
  .obtain ⟨p,hp,e⟩:=List.mem_map.mp z
   have:=lt p (mem_append_right _ hp)
   omega
  .rcases mem_cons.mp hy with rfl|hy
   .obtain ⟨p,hp,e⟩:=List.mem_map.mp hx
    have:=lt p (mem_append_left _ hp)
    omega
   .exact nd.2.2 x hx y hy
 .rcases List.mem_append.mp hp with z|z
  .rw [getElem?_append_left (lt p (mem_append_left _ z))];exact A.2 p (mem_append_left _ z)
  .rcases mem_cons.mp z with z|z
   .rw [z];simp
   .rw [getElem?_append_left (lt p (mem_append_right _ z))];exact A.2 p (mem_append_right _ z)
theorem At.sub {m':List (Nat×Nd)}(A:At h m) (s:m'.Sublist m):At h m':=⟨(s.map _).nodup A.1,fun p hp=>A.2 p (s.subset hp)⟩
theorem At.junk (d:Nd) (A:At h m):At (h++[d]) m:=⟨A.1,fun p hp=>by rw [getElem?_append_left (A.lt hp)];exact A.2 p hp⟩
theorem At.perm {m':List (Nat×Nd)}(A:At h m) (s:m'.Perm m):At h m':=⟨(s.map _).nodup_iff.mpr A.1,fun p hp=>A.2 p (s.subset hp)⟩
theorem fl {n k:Nat}{ns:List Str}{xs:List PV}(i:Nat) {cs:List Nat}{f:Str}{y:PV}(e:h[n]?=some (.ins k ns xs)) (hk:k∈cs) (hi:(decide (f∈ns) && ns.idxOf f == i)=true) (hy:xs[i]?=some y):yeb cs f (.loc n) h=some (y,h):=by
 obtain ⟨h1,h2⟩:=Bool.and_eq_true_iff.mp hi
 have h2:=eq_of_beq h2
 unfold yeb ydX
 simp only [e]
 rw [if_pos ⟨hk,of_decide_eq_true h1⟩,h2,hy]
def yqn (nu ma cr en:Nat):Nd:=.ins 15 ["numbers","marks","crew","entries"] [.loc nu,.loc ma,.loc cr,.loc en]
noncomputable def ydC (ds:List PV) (w nth:Int) (sl:Bool) (bf:List Int) (rn:Nat):Nd:=.ins 14 ["deeds","width","nth","sleeps","before","run"] [.lst ds,.int w,.int nth,.bl sl,.lst (bf.map .int),.loc rn]
noncomputable def ynU (hl:Nat) (w:Int) (lg:Nat) (rows:List PV) (t:Int) (sn sd:Nat):Nd:=.ins 12 ["held","width","log","rows","at","seen_stamps","sides"] [.loc hl,.int w,.loc lg,.lst rows,.int t,.loc sn,.loc sd]
theorem ydW {n nu ma cr en:Nat}(e:h[n]?=some (yqn nu ma cr en)):yeb [15] "numbers" (.loc n) h=some (.loc nu,h)/\yeb [15] "marks" (.loc n) h=some (.loc ma,h)/\yeb [15] "crew" (.loc n) h=some (.loc cr,h)/\yeb [15] "entries" (.loc n) h=some (.loc en,h) :=
 ⟨fl 0 e (by decide) (by rfl') rfl,fl 1 e (by decide) (by rfl') rfl,fl 2 e (by decide) (by rfl') rfl,fl 3 e (by decide) (by rfl') rfl⟩
theorem ydD {n:Nat}{ds:List PV}{w nth:Int}{sl:Bool}{bf:List Int}{rn:Nat}(e:h[n]?=some (ydC ds w nth sl bf rn)):yeb [14] "deeds" (.loc n) h=some (.lst ds,h)/\yeb [12,14] "width" (.loc n) h=some (.int w,h)/\yeb [14] "nth" (.loc n) h=some (.int nth,h)/\yeb [14] "sleeps" (.loc n) h=some (.bl sl,h)/\yeb [14] "before" (.loc n) h=some (.lst (bf.map .int),h)/\yeb [14] "run" (.loc n) h=some (.loc rn,h) :=
 ⟨fl 0 e (by decide) (by rfl') rfl,fl 1 e (by decide) (by rfl') rfl,fl 2 e (by decide) (by rfl') rfl,fl 3 e (by decide) (by rfl') rfl,fl 4 e (by decide) (by rfl') rfl,fl 5 e (by decide) (by rfl') rfl⟩
theorem yds {n hl:Nat}{w:Int}{lg:Nat}{rows:List PV}{t:Int}{sn sd:Nat}(e:h[n]?=some (ynU hl w lg rows t sn sd)):yeb [12] "held" (.loc n) h=some (.loc hl,h)/\yeb [12,14] "width" (.loc n) h=some (.int w,h)/\yeb [12] "log" (.loc n) h=some (.loc lg,h)/\yeb [12] "rows" (.loc n) h=some (.lst rows,h)/\yeb [10,12] "at" (.loc n) h=some (.int t,h)/\yeb [12] "seen_stamps" (.loc n) h=some (.loc sn,h)/\yeb [12] "sides" (.loc n) h=some (.loc sd,h) :=
 ⟨fl 0 e (by decide) (by rfl') rfl,fl 1 e (by decide) (by rfl') rfl,fl 2 e (by decide) (by rfl') rfl,fl 3 e (by decide) (by rfl') rfl,fl 4 e (by decide) (by rfl') rfl,fl 5 e (by decide) (by rfl') rfl,fl 6 e (by decide) (by rfl') rfl⟩
end
def mK (k:Nat) (m:Str) (f:Fn) (as:XA) (ρ:PSt) (x:PV) (h1:AH):Option (PV×AH):=match ydX x h1 with
 | some (k',ns,_)=>if k'=k/\m∉ns then ob (as ρ h1) fun ys h2=>f (x::ys) h2 else none
 | none=>none
def fL (cs:List Nat) (f:Str) (ρ:PSt) (y x:PV) (h2:AH):Option (Out×AH):=match x with
 | .loc n=>(match h2[n]? with|some (.ins k ns xs)=>if k∈cs/\ns.length<1000 then some (.nx ρ,h2.set n (.ins k (putN f y ns xs).1 (putN f y ns xs).2)) else none|_=>none)
 | _=>none
section
variable {h:AH}{ρ:PSt}
theorem yeJ {k:Nat}{m:Str}{f:Fn}{e:XE}{as:XA}:yl k m f e as ρ h=ob (e ρ h) fun x h1=>mK k m f as ρ x h1:=id rfl
theorem ywx {cs:List Nat}{f:Str}{eo ev:XE}:ydn cs f eo ev ρ h=ob (ev ρ h) fun y h1=>ob (eo ρ h1) fun x h2=>fL cs f ρ y x h2:=id rfl
theorem yI {n k:Nat}{ns:List Str}{xs:List PV}{m:Str}{f:Fn}{as:XA}(e:h[n]?=some (.ins k ns xs)) (hm:decide (m∈ns)=false):mK k m f as ρ (.loc n) h=ob (as ρ h) fun ys h2=>f (.loc n::ys) h2:=by
 unfold mK ydX
 simp only [e]
 rw [if_pos ⟨trivial,of_decide_eq_false hm⟩]
theorem yfm {n k:Nat}{ns ns':List Str}{xs xs':List PV}{cs:List Nat}{f:Str}{y:PV}(e:h[n]?=some (.ins k ns xs)) (hk:(decide (k∈cs) && decide (ns.length<1000))=true) (hp:putN f y ns xs=(ns',xs')):fL cs f ρ y (.loc n) h=some (.nx ρ,h.set n (.ins k ns' xs')):=by
 obtain ⟨h1,h2⟩:=Bool.and_eq_true_iff.mp hk
 unfold fL
 simp only [e]
 rw [if_pos ⟨of_decide_eq_true h1,of_decide_eq_true h2⟩,hp]
end
def SL:List Str:=["a","b","c","d","e","f","g","h"]
def sx (r:Str):Nat:=SL.idxOf r
section
variable {h:AH}{n hl lg sn sd:Nat}{w t:Int}{rows:List PV}{hs:List Int}{r:Str}
theorem yfn (hr:r∈SL):ydi [.str r] h=some (.int (sx r),h):=by
 unfold SL at hr
 simp only [mem_cons,not_mem_nil,or_false] at hr
 rcases hr with rfl|rfl|rfl|rfl|rfl|rfl|rfl|rfl<;>kernel_rfl!
theorem yzI (hr:r∈SL):sx r<8:=List.idxOf_lt_length_of_mem hr
theorem ydc {n:Nat}{xs:List Int}{i:Nat}(e:h[n]?=some (.lst (xs.map .int))) (hi:i<xs.length):ycp (.loc n) (.int i) h=some (.int (xs.getD i 0),h):=by
 unfold ycp
 simp only [e]
 have:(xs.map PV.int)[i]?=some (.int (xs.getD i 0)):=by
  rw [getElem?_map,List.getElem?_eq_getElem hi,getD_eq_getElem?_getD,List.getElem?_eq_getElem hi];rfl
 rw [ycD this]
theorem ykf {rw:PV}(e:h[n]?=some (ynU hl w lg rows t sn sd)) {i:Nat}(ht:t=i) (er:rows[i]?=some rw):yda [.loc n] h=some (rw,h):=by
 obtain ⟨f1,f2,f3,f4,f5,f6,f7⟩:=yds e
 subst ht
 unfold yda
 rw [yp]
 show ob (yK _ [.val (.loc n)] h) fnK=_
 simp_all? only [f4,f5]
 rw [ycD er]
 rfl
variable (e:h[n]?=some (ynU hl w lg rows t sn sd)) (eh:h[hl]?=some (.lst (hs.map .int))) (h8:hs.length=8) (hr:r∈SL)
include e eh h8 hr
theorem yew:ybu [.loc n,.str r] h=some (.int (hs.getD (sx r) 0),h):=by
 obtain ⟨f1,f2,f3,f4,f5,f6,f7⟩:=yds e
 unfold ybu
 rw [yp]
 show ob (yK _ [.val (.loc n),.val (.str r)] h) fnK=_
 simp_all? only [f1,yfn hr]
 rw [ydc eh (by rw [h8];exact yzI hr),ybZ]
theorem yiI {v:Int}:ybM [.loc n,.str r,.int v] h=some (.non,h.set hl (.lst ((hs.set (sx r) v).map .int))):=by
 obtain ⟨f1,f2,f3,f4,f5,f6,f7⟩:=yds e
 unfold ybM
 rw [yp]
 show ob (ygg _ _ _ [.val (.loc n),.val (.str r),.val (.int v)] h) fnK=_
 unfold ygg
 show ob (ob (some (PV.int v,h)) _) _=_
 rw [ybZ]
 simp_all? only [f1,yfn hr]
 have hi:sx r<hs.length:=by rw [h8];exact yzI hr
 have e':ixN (hs.map PV.int).length (sx r:Nat)=some (sx r):=by
  unfold ixN
  simp [hi]
 simp only [eh,e']
 rw [ybZ,map_set]
 rfl
theorem yej (hw:1<=w):ybo [.loc n,.str r] h=some (.int (hs.getD (sx r) 0%w),h):=by
 obtain ⟨f1,f2,f3,f4,f5,f6,f7⟩:=yds e
 unfold ybo
 rw [yp]
 show ob (yK _ [.val (.loc n),.val (.str r)] h) fnK=_
 simp_all? only [yeJ,yI (m:="held_in") e (by rfl'),yew e eh h8 hr,f2]
 rw [if_pos (by omega)]
end
section
variable {h:AH}{n hl lg sn sdl:Nat}{w:Int}{rows:List PV}{t:Nat}{r:Rw}
theorem yup {j:Int}{t:Int}{ρ:PSt}(e:h[n]?=some (ynU hl w lg rows t sn sdl)):fL [10,12] "at" ρ (.int j) (.loc n) h=some (.nx ρ,h.set n (ynU hl w lg rows j sn sdl)):=yfm e (by decide) (by kernel_rfl!)
theorem ysT (e:h[n]?=some (ynU hl w lg rows t sn sdl)) (er:rows[t]?=some (yO r)):ycV [.loc n] h=ob (goB [.val (.loc n),.val (yO r)] (h.set n (ynU hl w lg rows (t+1:Nat) sn sdl))) fnK:=by
 obtain ⟨f1,f2,f3,f4,f5,f6,f7⟩:=yds e
 unfold ycV
 rw [yp]
 show ob (yn _ (yn _ goB) [.val (.loc n),.no] h) fnK=_
 simp_all? only [yeJ,yI (m:="row") e (by rfl'),ykf e rfl er,f5,ywx,yup e]
 rfl
theorem ywy (e:h[n]?=some (ynU hl w lg rows t sn sdl)) (er:rows[t]?=some (yO r)):ybd [.loc n] h=ob (loB [.val (.loc n),.val (yO r)] h) fnK:=by
 unfold ybd
 rw [yp]
 show ob (yn _ loB [.val (.loc n),.no] h) fnK=_
 simp_all? only [yeJ,yI (m:="row") e (by rfl'),ykf e rfl er]
abbrev M2 (m:Str) (f:Fn):XE:=yl 12 m f (yf 0) (yc (yf 1) (yk))
theorem yzJ {x:PV}{s:Str}{k:Int}:goB [.val x,.val (yO (.let_ s k))] h=yco (M2 "go_plain" yr) [.val x,.val (yO (.let_ s k))] h:=by kernel_rfl!
theorem ywz {x:PV}{s k:Str}:goB [.val x,.val (yO (.take s k))] h=yco (M2 "go_plain" yr) [.val x,.val (yO (.take s k))] h:=by kernel_rfl!
theorem yzK {x:PV}{s k:Str}:goB [.val x,.val (yO (.put s k))] h=yco (M2 "go_plain" yr) [.val x,.val (yO (.put s k))] h:=by kernel_rfl!
theorem yqo {x:PV}{w a b c:Str}(g:ydk w):goB [.val x,.val (yO (.reckon w a b c))] h=yco (M2 "go_plain" yr) [.val x,.val (yO (.reckon w a b c))] h:=by
 rcases g with rfl|rfl|rfl|rfl|rfl
 all_goals kernel_rfl!
end
structure Lc where
 rn:Nat
 hl:Nat
 lg:Nat
 st:Nat
 ls:Nat
 sn:Nat
 sd:Nat
 ly:List Nat
structure RS where
 t:Nat
 hs:List Int
 sd:List PV
 dd:List (List Key×List PV)
 sn:List (Nat×Int×Int)
def sK (m:List (Nat×Int×Int)):List Key:=m.map fun p=>.inl (p.1:Int)
def sA (m:List (Nat×Int×Int)):List PV:=m.map fun p=>.int p.2.1
def sB (m:List (Nat×Int×Int)):List PV:=m.map fun p=>.int p.2.2
noncomputable def ycQ (m:List (Nat×Int×Int)) (k:Nat) (a b:Int):List (Nat×Int×Int):=if k∈m.map (·.1) then m.map (fun p=>if p.1=k then (k,a,b) else p) else m++[(k,a,b)]
def lay:List Nat->List (List Key×List PV)->List (Nat×Nd)
 | l::ls,d::ds=>(l,.dct d.1 d.2)::lay ls ds
 | _,_=>[]
def RM (w:Int) (rows:List PV) (c:Lc) (s:RS) (rest:List (Nat×Nd)):List (Nat×Nd) :=
 (c.rn,ynU c.hl w c.lg rows s.t c.sn c.sd)::(c.hl,.lst (s.hs.map .int))::(c.lg,.ins 11 ["stack","last_seen"] [.loc c.st,.loc c.ls])::(c.st,.lst (c.ly.map .loc))::(c.ls,.dct (sK s.sn) (sA s.sn))::(c.sn,.dct (sK s.sn) (sB s.sn))::(c.sd,.lst s.sd)::(lay c.ly s.dd++rest)
structure RR (w:Int) (rows:List PV) (rest:List (Nat×Nd)) (h:AH) (c:Lc) (s:RS):Prop where
 at_:At h (RM w rows c s rest)
 len:c.ly.length=s.dd.length
theorem yiJ:∀ (l m:List Nat) (d e:List (List Key×List PV)),l.length=d.length->lay (l++m) (d++e)=lay l d++lay m e
 | [],_,[],_,_=>rfl
 | a::l,m,b::d,e,h=>by
  show (a,_)::lay (l++m) (d++e)=(a,_)::(lay l d++lay m e)
  rw [yiJ l m d e (by simpa using h)]
noncomputable def okR:Rw->Prop
 | .let_ r n=>r∈SL/\0<=n/\n<B64
 | .reckon w r s t=>ydk w/\r∈SL/\s∈SL/\t∈SL
 | .put p r=>p∈SL/\r∈SL
 | .take p r=>p∈SL/\r∈SL
 | .lay=>True
structure OkS (s:RS):Prop where
 h8:s.hs.length=8
 d1:s.dd.length=1
 hv:∀ v∈s.hs,0<=v/\v<B64
 dl:∀ d∈s.dd,d.1.length<400
noncomputable def rk (w:Str) (a b:Int):Int :=
 if w = "plus" then (a+b)%18446744073709551616 else if w = "minus" then (a-b)%18446744073709551616 else if w = "times" then a*b%18446744073709551616
 else if w = "less" then (if a<b then 1 else 0) else (if a=b then 1 else 0)
def ymS (dd:List (List Key×List PV)) (k v:Int):List (List Key×List PV):=match dd.getLast? with|some d=>dd.dropLast++[ycq d.1 d.2 (.inl k) (.int v)]|none=>dd
def yqp (s:RS) (w:Int) (p:Str):PV:=ywu s.dd (.inl (s.hs.getD (sx p) 0%w)) s.dd.length
def yqq (w:Int) (r:Rw) (s:RS):Option RS:=match r with
 | .let_ r n=>some ⟨s.t+1,s.hs.set (sx r) n,s.sd,s.dd,s.sn⟩
 | .reckon v r a b=>some ⟨s.t+1,s.hs.set (sx r) (rk v (s.hs.getD (sx a) 0) (s.hs.getD (sx b) 0)),s.sd,s.dd,s.sn⟩
 | .take r p=>(match yqp s w p with|.int v=>some ⟨s.t+1,s.hs.set (sx r) v,s.sd,s.dd,s.sn⟩|_=>none)
 | .put p r=>some ⟨s.t+1,s.hs,s.sd,ymS s.dd (s.hs.getD (sx p) 0%w) (s.hs.getD (sx r) 0),s.sn⟩
 | .lay=>none
def S0 (hs:List Int):RS:=⟨0,hs,[],[([],[])],[]⟩
section
variable {h:AH}{m:List (Nat×Nd)}
theorem yuq:∀ (ly:List Nat) (dd:List (List Key×List PV)),ly.length=dd.length->(∀ p∈lay ly dd,h[p.1]?=some p.2)->Stk h ly dd
 | [],[],_,_=>trivial
 | l::ls,d::ds,e,g=>⟨g (l,.dct d.1 d.2) mem_cons_self,yuq ls ds (by simpa using e) fun p hp=>g p (mem_cons_of_mem _ hp)⟩
variable {w:Int}{rows:List PV}{rest:List (Nat×Nd)}{c:Lc}{s:RS}
theorem RR.lg (R:RR w rows rest h c s):LG h c.lg c.st c.ls c.ly s.dd (sK s.sn) (sA s.sn):=⟨R.at_.get 2 rfl,R.at_.get 3 rfl,R.at_.get 4 rfl,yuq _ _ R.len fun p hp=>R.at_.2 p (by unfold RM;simp [hp])⟩
theorem RR.run (R:RR w rows rest h c s):h[c.rn]?=some (ynU c.hl w c.lg rows s.t c.sn c.sd):=R.at_.get 0 rfl
theorem RR.held (R:RR w rows rest h c s):h[c.hl]?=some (.lst (s.hs.map .int)):=R.at_.get 1 rfl
theorem RR.to (R:RR w rows rest h c s) (k:Nat):RR w rows rest (h.set c.rn (ynU c.hl w c.lg rows k c.sn c.sd)) c { s with t:=k }:=⟨R.at_.upd (a:=[]) _,R.len⟩
theorem RR.hold (R:RR w rows rest h c s) (q:List Int):RR w rows rest (h.set c.hl (.lst (q.map .int))) c { s with hs:=q }:=⟨R.at_.upd (a:=[_]) _,R.len⟩
theorem yur (e:OkS s):s.hs.length=8/\s.dd.length=1/\True/\(∀ v∈s.hs,0<=v/\v<B64)/\∀ d∈s.dd,d.1.length<400:=⟨e.h8,e.d1,trivial,e.hv,e.dl⟩
def dk (m:Option (PV×AH)) (ρ:PSt):Option (PV×AH):=ob (ob m fun _ h1=>some (Out.nx ρ,h1)) fnK
theorem yzL {x:PV}{r:Str}{k:Int}:yr [x,yO (.let_ r k)] h=dk (mK 12 "hold" ybM (fun _ h1=>some ([.str r,.int k],h1)) [] x h) [.val x,.val (yO (.let_ r k))]:=by kernel_rfl!
theorem yzM {x:PV}{p r:Str}:yr [x,yO (.put p r)] h=dk (mK 12 "do_put" ycr (fun _ h1=>some ([.str p,.str r],h1)) [] x h) [.val x,.val (yO (.put p r))]:=by kernel_rfl!
theorem yzN {r:Str}{k:Int}(R:RR w rows rest h c s) (er:rows[s.t]?=some (yO (.let_ r k))) (hr:r∈SL) (h8:s.hs.length=8):∃ h',ycV [.loc c.rn] h=some (.non,h')/\RR w rows rest h' c ⟨s.t+1,s.hs.set (sx r) k,s.sd,s.dd,s.sn⟩:=by
 have R1:=R.to (s.t+1)
 refine ⟨_,?_,R1.hold _⟩
 rw [ysT R.run er,yzJ]
 show dk (mK 12 "go_plain" yr _ _ (.loc c.rn) _) _=_
 rw [yI R1.run (by rfl')]
 show dk (yr [.loc c.rn,yO (.let_ r k)] _) _=_
 rw [yzL,yI R1.run (by rfl'),ybZ,yiI R1.run R1.held h8 hr]
 rfl
end
section
variable {h:AH}{w:Int}{rows:List PV}{rest:List (Nat×Nd)}{c:Lc}{s:RS}
theorem ywA (R:RR w rows rest h c s) {l:List Nat}{t:Nat}{ds:List (List Key×List PV)}{d d':List Key×List PV}(el:c.ly=l++[t]) (ed:s.dd=ds++[d]):RR w rows rest (h.set t (.dct d'.1 d'.2)) c { s with dd:=ds++[d'] }:=by
 have hl:l.length=ds.length:=by have:=R.len;rw [el,ed] at this;simpa using this
 have A:=R.at_
 refine ⟨?_,by show c.ly.length=(ds++[d']).length;rw [R.len,ed];simp⟩
 unfold RM at A ⊢
 rw [el,ed,yiJ _ _ _ _ hl] at A
 show At _ (_::_::_::_::_::_::_::(lay c.ly (ds++[d'])++rest))
 rw [el,yiJ _ _ _ _ hl,append_assoc]
 rw [append_assoc] at A
 exact A.upd (a:=_::_::_::_::_::_::_::lay l ds) (n:=t) (d:=.dct d.1 d.2) (b:=rest) (.dct d'.1 d'.2)
theorem yhU {α:Type}{xs:List α}(h:xs.length≠0):∃ a y,xs=a++[y]:=⟨xs.dropLast,xs.getLast (by intro z;rw [z] at h;exact h rfl),(List.dropLast_concat_getLast _).symm⟩
theorem yqr {p r:Str}(R:RR w rows rest h c s) (hp:p∈SL) (hr:r∈SL) (h8:s.hs.length=8) (hw:1<=w) {l:List Nat}{t:Nat}{ds:List (List Key×List PV)}{d:List Key×List PV}(el:c.ly=l++[t]) (ed:s.dd=ds++[d]) (hd:d.1.length<400) :
  ycr [.loc c.rn,.str p,.str r] h=some (.non,h.set t (.dct (ycq d.1 d.2 (.inl (s.hs.getD (sx p) 0%w)) (.int (s.hs.getD (sx r) 0))).1 (ycq d.1 d.2 (.inl (s.hs.getD (sx p) 0%w)) (.int (s.hs.getD (sx r) 0))).2)):=by
 obtain ⟨f1,f2,f3,f4,f5,f6,f7⟩:=yds R.run
 have G:=R.lg
 have hl:l.length=ds.length:=by have:=R.len;rw [el,ed] at this;simpa using this
 have ht:h[t]?=some (.dct d.1 d.2):=by
  have A:=R.at_
  unfold RM at A
  rw [el,ed,yiJ _ _ _ _ hl,append_assoc] at A
  exact A.2 (t,.dct d.1 d.2) (by simp [lay])
 have G':=G
 rw [el] at G'
 unfold ycr
 rw [yp]
 show ob (yco _ [.val (.loc c.rn),.val (.str p),.val (.str r)] h) fnK=_
 simp_all? only [f3,yeJ,yI (m:="box_at") R.run (by rfl'),yI (m:="held_in") R.run (by rfl'),yI (m:="write") G.ob (by rfl'),yej R.run R.held h8 hp hw,yew R.run R.held h8 hr,ysS G' ht (Nat.lt_trans hd (by decide))]
theorem yzO {p r:Str}(R:RR w rows rest h c s) (er:rows[s.t]?=some (yO (.put p r))) (hp:p∈SL) (hr:r∈SL) (hw:1<=w) (ok:OkS s):∃ h',ycV [.loc c.rn] h=some (.non,h')/\RR w rows rest h' c ⟨s.t+1,s.hs,s.sd,ymS s.dd (s.hs.getD (sx p) 0%w) (s.hs.getD (sx r) 0),s.sn⟩:=by
 obtain ⟨h8,o2,o3,o4,o5⟩:=yur ok
 have R1:=R.to (s.t+1)
 obtain ⟨ds,d,ed⟩:=yhU (xs:=s.dd) (by omega)
 obtain ⟨l,t,el⟩:=yhU (xs:=c.ly) (by have:=R.len;omega)
 have e2:=yqr R1 hp hr h8 hw el ed (o5 d (by rw [ed];simp))
 have R2:=ywA (d':=ycq d.1 d.2 (.inl (s.hs.getD (sx p) 0%w)) (.int (s.hs.getD (sx r) 0))) R1 el ed
 refine ⟨_,?_,by
  have:ymS s.dd (s.hs.getD (sx p) 0%w) (s.hs.getD (sx r) 0)=ds++[ycq d.1 d.2 (.inl (s.hs.getD (sx p) 0%w)) (.int (s.hs.getD (sx r) 0))]:=by
   unfold ymS
   rw [ed,List.getLast?_concat,List.dropLast_concat]
  rw [this]
  exact R2⟩
 rw [ysT R.run er,yzK]
 show dk (mK 12 "go_plain" yr _ _ (.loc c.rn) _) _=_
 rw [yI R1.run (by rfl')]
 show dk (yr [.loc c.rn,yO (.put p r)] _) _=_
 rw [yzM,yI R1.run (by rfl'),ybZ,e2]
 rfl
end
theorem yfo:(("minus":Str) = "plus")=False:=eq_false (by rfl')
theorem yfp:(("plus":Str) = "minus")=False:=eq_false (by rfl')
theorem yfq:(("times":Str) = "plus")=False:=eq_false (by rfl')
theorem yiK:(("plus":Str) = "times")=False:=eq_false (by rfl')
theorem yeK:(("times":Str) = "minus")=False:=eq_false (by rfl')
theorem yht:(("minus":Str) = "times")=False:=eq_false (by rfl')
theorem yfW:(("less":Str) = "plus")=False:=eq_false (by rfl')
theorem ykg:(("plus":Str) = "less")=False:=eq_false (by rfl')
theorem yfr:(("less":Str) = "minus")=False:=eq_false (by rfl')
theorem yiL:(("minus":Str) = "less")=False:=eq_false (by rfl')
theorem yfs:(("less":Str) = "times")=False:=eq_false (by rfl')
theorem yiM:(("times":Str) = "less")=False:=eq_false (by rfl')
theorem yfX:(("same":Str) = "plus")=False:=eq_false (by rfl')
theorem yft:(("same":Str) = "minus")=False:=eq_false (by rfl')
theorem yfu:(("same":Str) = "times")=False:=eq_false (by rfl')
theorem yfY:(("same":Str) = "less")=False:=eq_false (by rfl')
local macro_rules | `(tactic| walk_at "pw")=>`(tactic| simp_all? only [$(sl_ "yfo yfp yfq yiK yeK yht yfW ykg yfr yiL yfs yiM yfX yft yfu yfY if_true if_false"),*])
section
variable {h:AH}{w:Int}{rows:List PV}{rest:List (Nat×Nd)}{c:Lc}{s s':RS}{r:Rw}
theorem yzP {p:Str}(R:RR w rows rest h c s):ydz [.loc c.lg,.int (s.hs.getD (sx p) 0%w)] h=some (yqp s w p,h):=by
 rw [yzH R.lg,R.len];rfl
theorem ywB {x:PV}{r p:Str}:yr [x,yO (.take r p)] h=dk (mK 12 "take_own" ybN (fun _ h1=>some ([.str r,.str p],h1)) [] x h) [.val x,.val (yO (.take r p))]:=by kernel_rfl!
theorem ylC {r p:Str}{v:Int}(R:RR w rows rest h c s) (hr:r∈SL) (hp:p∈SL) (h8:s.hs.length=8) (hw:1<=w) (ev:yqp s w p=.int v):ybN [.loc c.rn,.str r,.str p] h=some (.non,h.set c.hl (.lst ((s.hs.set (sx r) v).map .int))):=by
 obtain ⟨f1,f2,f3,f4,f5,f6,f7⟩:=yds R.run
 have o:=yzP (p:=p) R
 rw [ev] at o
 unfold ybN
 rw [yp]
 show ob (yco _ [.val (.loc c.rn),.val (.str r),.val (.str p)] h) fnK=_
 simp_all? only [yeJ,f3,yI (m:="hold") R.run (by rfl'),yI (m:="own") R.lg.ob (by rfl'),yI (m:="box_at") R.run (by rfl'),yej R.run R.held h8 hp hw,o,yiI R.run R.held h8 hr]
theorem ywC {p:Str}(R:RR w rows rest h c s) (hp:p∈SL) (h8:s.hs.length=8) (hw:1<=w):ycK [.loc c.rn,.str p] h=some (.bl (isN (yqp s w p)),h):=by
 obtain ⟨f1,f2,f3,f4,f5,f6,f7⟩:=yds R.run
 unfold ycK
 rw [yp]
 show ob (yK _ [.val (.loc c.rn),.val (.str p)] h) fnK=_
 simp_all? only [yeJ,f3,yI (m:="own") R.lg.ob (by rfl'),yI (m:="box_at") R.run (by rfl'),yej R.run R.held h8 hp hw,yzP R]
theorem ywD {r p:Str}{v:Int}(R:RR w rows rest h c s) (er:rows[s.t]?=some (yO (.take r p))) (hr:r∈SL) (hp:p∈SL) (h8:s.hs.length=8) (hw:1<=w) (ev:yqp s w p=.int v):∃ h',ycV [.loc c.rn] h=some (.non,h')/\RR w rows rest h' c ⟨s.t+1,s.hs.set (sx r) v,s.sd,s.dd,s.sn⟩:=by
 have R1:=R.to (s.t+1)
 refine ⟨_,?_,R1.hold _⟩
 rw [ysT R.run er,ywz]
 show dk (mK 12 "go_plain" yr _ _ (.loc c.rn) _) _=_
 rw [yI R1.run (by rfl')]
 show dk (yr [.loc c.rn,yO (.take r p)] _) _=_
 rw [ywB,yI R1.run (by rfl'),ybZ,ylC R1 hr hp h8 hw ev]
 rfl
theorem yCq {w:Str}{x y:Int}(hw:ydk w) (hx:0<=x/\x<B64):ygw [.str w,.int x,.int y] h=some (.int (rk w x y),h):=by
 have hm:MulOk x y:=.inl ⟨by have:=hx.1;omega,hx.2⟩
 unfold ygw
 rw [yp]
 show ob (yn _ _ [.val (.str w),.val (.int x),.val (.int y)] h) fnK=_
 unfold rk
 rcases hw with rfl|rfl|rfl|rfl|rfl
 .walk_at "pw"
 .walk_at "pw"
 .walk_at "pw"
  rw [if_pos hm]
 .walk_at "pw"
  split<;>rfl
 .walk_at "pw"
  split<;>rfl
theorem yCr {w:Str}{x y:Int}:0<=rk w x y/\rk w x y<B64:=by
 unfold rk B64
 repeat' split
 all_goals omega
theorem getD_in {hs:List Int}(hv:∀ v∈hs,0<=v/\v<B64) (i:Nat):0<=hs.getD i 0/\hs.getD i 0<B64:=by
 rw [getD_eq_getElem?_getD]
 cases e:hs[i]? with
 | none=>exact ⟨Int.le_refl _,by decide⟩
 | some v=>exact hv v (mem_of_getElem? e)
theorem ykh {v r p q:Str}(R:RR w rows rest h c s) (hv:ydk v) (hr:r∈SL) (hp:p∈SL) (hq:q∈SL) (ok:OkS s):ybG [.loc c.rn,.str v,.str r,.str p,.str q] h=some (.non,h.set c.hl (.lst ((s.hs.set (sx r) (rk v (s.hs.getD (sx p) 0) (s.hs.getD (sx q) 0))).map .int))):=by
 unfold ybG
 rw [yp]
 show ob (yco _ [.val (.loc c.rn),.val (.str v),.val (.str r),.val (.str p),.val (.str q)] h) fnK=_
 simp_all? only [yeJ,yI (m:="hold") R.run (by rfl'),yI (m:="held_in") R.run (by rfl'),yew R.run R.held ok.h8 hp,yew R.run R.held ok.h8 hq,yCq hv (getD_in ok.hv (sx p)),yiI R.run R.held ok.h8 hr]
theorem yqs {x:PV}{v r p q:Str}(g:ydk v):yr [x,yO (.reckon v r p q)] h=dk (mK 12 "do_reckon" ybG (fun _ h1=>some ([.str v,.str r,.str p,.str q],h1)) [] x h) [.val x,.val (yO (.reckon v r p q))]:=by
 rcases g with rfl|rfl|rfl|rfl|rfl
 all_goals kernel_rfl!
theorem yqt {v r p q:Str}(R:RR w rows rest h c s) (er:rows[s.t]?=some (yO (.reckon v r p q))) (hv:ydk v) (hr:r∈SL) (hp:p∈SL) (hq:q∈SL) (ok:OkS s):∃ h',ycV [.loc c.rn] h=some (.non,h')/\RR w rows rest h' c ⟨s.t+1,s.hs.set (sx r) (rk v (s.hs.getD (sx p) 0) (s.hs.getD (sx q) 0)),s.sd,s.dd,s.sn⟩:=by
 have R1:=R.to (s.t+1)
 refine ⟨_,?_,R1.hold _⟩
 rw [ysT R.run er,yqo hv]
 show dk (mK 12 "go_plain" yr _ _ (.loc c.rn) _) _=_
 rw [yI R1.run (by rfl')]
 show dk (yr [.loc c.rn,yO (.reckon v r p q)] _) _=_
 rw [yqs hv,yI R1.run (by rfl'),ybZ,ykh R1 hv hr hp hq ⟨ok.h8,ok.d1,ok.hv,ok.dl⟩]
 rfl
theorem ywE (R:RR w rows rest h c s) (er:rows[s.t]?=some (yO r)) (hw:1<=w) (okr:okR r) (ok:OkS s) (e:yqq w r s=some s'):∃ h' c',ycV [.loc c.rn] h=some (.non,h')/\RR w rows rest h' c' s'/\c'.rn=c.rn:=by
 cases r with
 | let_ a n =>
  cases e
  obtain ⟨h',q1,q2⟩:=yzN R er okr.1 ok.h8
  exact ⟨h',c,q1,q2,rfl⟩
 | reckon v a x y =>
  cases e
  obtain ⟨h',q1,q2⟩:=yqt R er okr.1 okr.2.1 okr.2.2.1 okr.2.2.2 ok
  exact ⟨h',c,q1,q2,rfl⟩
 | put p a =>
  cases e
  obtain ⟨h',q1,q2⟩:=yzO R er okr.1 okr.2 hw ok
  exact ⟨h',c,q1,q2,rfl⟩
 | take p a =>
  unfold yqq at e
  dsimp only at e
  split at e
  .rename_i v hv
   cases e
   obtain ⟨h',q1,q2⟩:=ywD R er okr.1 okr.2 ok.h8 hw hv
   exact ⟨h',c,q1,q2,rfl⟩
  .cases e
 | lay=>cases e
def yqu (w:Int) (s:RS):Rw->Bool
 | .take _ p=>isN (yqp s w p)
 | .lay=>true
 | _=>false
theorem yqv (R:RR w rows rest h c s) (er:rows[s.t]?=some (yO r)) (ok:OkS s) (okr:okR r) (hw:1<=w):ybd [.loc c.rn] h=some (.bl (yqu w s r),h):=by
 rw [ywy R.run er]
 cases r with
 | take a p =>
  have i0:∀ h,ybD (yO (.take a p)) (.int 0) h=some (.str "take",h):=fun _=>rfl
  have i2:∀ h,ybD (yO (.take a p)) (.int 2) h=some (.str p,h):=fun _=>rfl
  unfold loB
  simp_all? only [yeJ,i0,i2,yI (m:="sees_at") R.run (by rfl'),ywC R okr.2 ok.h8 hw]
  rfl
 | reckon v a x y =>
  rcases okr.1 with rfl|rfl|rfl|rfl|rfl
  all_goals kernel_rfl!
 | _=>kernel_rfl!
end
def stB (m:List (Nat×Int×Int)) (sp:List Int):Bool:=(m.map fun p=>!decide (sp.getD p.1 0=p.2.2)).any id
theorem ywF {f:Nat×Int×Int->PV}:∀ {m:List (Nat×Int×Int)}{p:Nat×Int×Int},(m.map (·.1)).Nodup->p∈m->yer (sK m) (m.map f) (.inl (p.1:Int))=some (f p)
 | q::m,p,nd,hp=>by
  show (if (Sum.inl (q.1:Int):Key)=.inl (p.1:Int) then some (f q) else yer (sK m) (m.map f) (.inl (p.1:Int)))=_
  obtain ⟨n1,n2⟩:=List.nodup_cons.mp nd
  rcases mem_cons.mp hp with rfl|hp
  .rw [if_pos rfl]
  .rw [if_neg (fun z=>n1 ?_)]
   .exact ywF n2 hp
   .have:q.1=p.1:=by have:=Sum.inl.inj z;omega
    show q.1∈m.map (·.1)
    rw [this]
    exact List.mem_map_of_mem hp
theorem ylD {α:Type}(f:α->Bool):∀ l:List α,ygI (l.map fun a=>PV.bl (f a))=some (l.map f)
 | []=>rfl
 | a::l=>by
  show ygI (PV.bl (f a)::l.map fun a=>PV.bl (f a))=some (f a::l.map f)
  unfold ygI
  simp only [ylD f l]
  try rfl
theorem ysU {f:Nat×Int×Int->PV}{k:Nat}{a b:Int}{m:List (Nat×Int×Int)}(hf:f (k,a,b)=v):ycq (sK m) (m.map f) (.inl (k:Int)) v=(sK (ycQ m k a b),(ycQ m k a b).map f):=by
 have e1:∀ m:List (Nat×Int×Int),yqX (sK m) (.inl (k:Int))=decide (k∈m.map (·.1)):=by
  intro m
  induction m with
  | nil=>rfl
  | cons q m ih =>
   show (if (Sum.inl (q.1:Int):Key)=.inl (k:Int) then true else yqX (sK m) (.inl (k:Int)))=_
   rw [ih]
   by_cases e:q.1=k
   .rw [if_pos (by rw [e])]
    simp [e]
   .rw [if_neg (fun z=>e (by have:=Sum.inl.inj z;omega))]
    simp [Ne.symm e]
 have e2:∀ m:List (Nat×Int×Int),setK (sK m) (m.map f) (.inl (k:Int)) v=(m.map fun p=>if p.1=k then (k,a,b) else p).map f:=by
  intro m
  induction m with
  | nil=>rfl
  | cons q m ih =>
   show (if (Sum.inl (q.1:Int):Key)=.inl (k:Int) then v::setK (sK m) (m.map f) (.inl (k:Int)) v else f q::setK (sK m) (m.map f) (.inl (k:Int)) v)=f (if q.1=k then (k,a,b) else q)::_
   rw [ih]
   by_cases e:q.1=k
   .rw [if_pos (by rw [e]),if_pos e,hf]
   .rw [if_neg (fun z=>e (by have:=Sum.inl.inj z;omega)),if_neg e]
 unfold ycq ycQ
 rw [e1]
 by_cases e:k∈m.map (·.1)
 .rw [if_pos (decide_eq_true e),if_pos e,e2]
  refine Prod.ext ?_ rfl
  show sK m=(m.map fun p=>if p.1=k then (k,a,b) else p).map _
  rw [map_map]
  refine List.map_congr_left fun p _=>?_
  show _=(Sum.inl (((if p.1=k then (k,a,b) else p).1:Nat):Int):Key)
  split
  .rename_i e;rw [e]
  .rfl
 .rw [if_neg (by simp [e]),if_neg e,map_append]
  unfold sK
  rw [map_append,<- hf]
  rfl
section
variable {h:AH}{w:Int}{rows:List PV}{rest:List (Nat×Nd)}{c:Lc}{s s':RS}{r:Rw}{sp bx:List Int}{ma nu:Nat}
theorem ysV (R:RR w rows rest h c s) (hm:(ma,.lst (sp.map .int))∈rest) (nd:(s.sn.map (·.1)).Nodup) (hb:∀ p∈s.sn,p.1<sp.length) (hl:s.sn.length<=900):ycg [.loc c.rn,.loc ma] h=some (.bl (stB s.sn sp),h):=by
 obtain ⟨f1,f2,f3,f4,f5,f6,f7⟩:=yds R.run
 have e:h[c.sn]?=some (.dct (sK s.sn) (sB s.sn)):=R.at_.get 5 rfl
 have A:=At.upd (a:=[_,_,_,_,_]) (.fz (sK s.sn) (sB s.sn)) R.at_
 have em:(h.set c.sn (.fz (sK s.sn) (sB s.sn)))[ma]?=some (.lst (sp.map .int)):=A.2 (ma,.lst (sp.map .int)) (by simp [hm])
 obtain ⟨g1,g2,g3,g4,g5,g6,g7⟩:=yds (A.get 0 rfl)
 have en:(h.set c.sn (.fz (sK s.sn) (sB s.sn)))[c.sn]?=some (.fz (sK s.sn) (sB s.sn)):=A.get 5 rfl
 have back:(h.set c.sn (.fz (sK s.sn) (sB s.sn))).set c.sn (.dct (sK s.sn) (sB s.sn))=h:=by
  rw [List.set_set]
  obtain ⟨l1,l2⟩:=List.getElem?_eq_some_iff.mp e
  rw [<- l2,List.set_getElem_self]
 have cm:ygt (xOp (oNe) (xOp (ycp) (yf 1) (yf 0)) (ydw (ybm [12] "seen_stamps" (yf 2)) (yf 0))) (yeY [1,0] [.val (.loc c.rn),.val (.loc ma)]) ((sK s.sn).map ygh) (h.set c.sn (.fz (sK s.sn) (sB s.sn)))=some (s.sn.map (fun p=>.bl (!decide (sp.getD p.1 0=p.2.2))),h.set c.sn (.fz (sK s.sn) (sB s.sn))):=by
  generalize h.set c.sn (.fz (sK s.sn) (sB s.sn))=h1 at *
  show ygt _ _ ((s.sn.map fun p=>(.inl (p.1:Int):Key)).map ygh) _=_
  rw [map_map]
  refine ydK _ _ fun p hp=>?_
  show xOp _ _ _ [.val (.int (p.1:Int)),.val (.loc ma),.val (.loc c.rn)] _=_
  have i1:=ydc em (hb p hp)
  have i2:ydw (ybm [12] "seen_stamps" (yf 2)) (yf 0) [.val (.int (p.1:Int)),.val (.loc ma),.val (.loc c.rn)] h1=some (.int p.2.2,h1):=by
   unfold ydw
   simp_all? only [g6]
   unfold ykz
   simp only [en,keyOf]
   unfold sB
   rw [ywF nd hp]
  simp_all? only [i1,i2]
 have an:∀ h,ysv [.lst (s.sn.map (fun p=>PV.bl (!decide (sp.getD p.1 0=p.2.2))))] h=some (.bl (stB s.sn sp),h):=fun h=>by
  unfold ysv yba
  simp only [ylD (fun p:Nat×Int×Int=>!decide (sp.getD p.1 0=p.2.2))]
  rfl
 have cd:yhN (ybm [12] "seen_stamps" (yf 0)) [1,0] (xOp (oNe) (xOp (ycp) (yf 1) (yf 0)) (ydw (ybm [12] "seen_stamps" (yf 2)) (yf 0))) [.val (.loc c.rn),.val (.loc ma)] h=some (.lst (s.sn.map (fun p=>.bl (!decide (sp.getD p.1 0=p.2.2)))),h):=by
  unfold yhN
  simp_all? only [f6]
  simp only [e]
  rw [if_pos (by unfold sK;rw [length_map];omega),cm,ybZ,back]
 unfold ycg
 rw [yp]
 show ob (yK (xCB ysv (yc (xFz (yhN _ _ _)) yk)) [.val (.loc c.rn),.val (.loc ma)] h) fnK=_
 simp_all? only [cd,an]
theorem RR.see (R:RR w rows rest h c s) (k:Nat) (a b:Int):RR w rows rest ((h.set c.sn (.dct (sK (ycQ s.sn k a b)) (sB (ycQ s.sn k a b)))).set c.ls (.dct (sK (ycQ s.sn k a b)) (sA (ycQ s.sn k a b)))) c { s with sn:=ycQ s.sn k a b }:=by
 have A:=At.upd (a:=[_,_,_,_,_]) (.dct (sK (ycQ s.sn k a b)) (sB (ycQ s.sn k a b))) R.at_
 exact ⟨At.upd (a:=[_,_,_,_]) (.dct (sK (ycQ s.sn k a b)) (sA (ycQ s.sn k a b))) A,R.len⟩
theorem yzQ {o st b:Nat}{i:Int}{v:PV}{ks:List Key}{xs:List PV}(e1:h[o]?=some (.ins 11 ["stack","last_seen"] [.loc st,.loc b])) (e2:h[b]?=some (.dct ks xs)) (hl:ks.length<1000):yfi [.loc o,.int i,v] h=some (.non,h.set b (.dct (ycq ks xs (.inl i) v).1 (ycq ks xs (.inl i) v).2)):=by
 unfold yfi
 rw [yp]
 show ob (yeC _ _ _ [.val (.loc o),.val (.int i),.val v] h) fnK=_
 rw [yiH (n:=b) (i:=i) (x:=v) rfl (by rw [ypc,show yf 0 [PVar.val (.loc o),.val (.int i),.val v] h=some (.loc o,h) from rfl,ybZ,ylB e1]) rfl e2 hl]
 rfl
theorem ylE {a p:Str}{k:Nat}(R:RR w rows rest h c s) (er:rows[s.t]?=some (yO (.take a p))) (hm:(ma,.lst (sp.map .int))∈rest) (hn:(nu,.lst (bx.map .int))∈rest) (h8:s.hs.length=8) (ha:a∈SL) (hp:p∈SL) (hw:1<=w) (hk:s.hs.getD (sx p) 0%w=(k:Nat)) (hks:k<sp.length) (hkb:k<bx.length) (hl:s.sn.length<=900) :
  ∃ h',ycL [.loc c.rn,.loc nu,.loc ma] h=some (.int (k:Nat),h')/\RR w rows rest h' c ⟨s.t+1,s.hs.set (sx a) (bx.getD k 0),s.sd,s.dd,ycQ s.sn k (bx.getD k 0) (sp.getD k 0)⟩:=by
 have R1:=R.see k (bx.getD k 0) (sp.getD k 0)
 have R2:=R1.hold (s.hs.set (sx a) (bx.getD k 0))
 refine ⟨_,?_,R2.to (s.t+1)⟩
 obtain ⟨f1,f2,f3,f4,f5,f6,f7⟩:=yds R.run
 have A0:=At.upd (a:=[_,_,_,_,_]) (.dct (sK (ycQ s.sn k (bx.getD k 0) (sp.getD k 0))) (sB (ycQ s.sn k (bx.getD k 0) (sp.getD k 0)))) R.at_
 have i1:ycp (.loc ma) (.int (k:Nat)) h=some (.int (sp.getD k 0),h):=ydc (R.at_.2 (ma,.lst (sp.map .int)) (by unfold RM;simp [hm])) hks
 have i2:∀ h,ybD (yO (.take a p)) (.int 1) h=some (.str a,h):=fun _=>rfl
 have i3:∀ h,ybD (yO (.take a p)) (.int 2) h=some (.str p,h):=fun _=>rfl
 have b1:=yej R.run R.held h8 hp hw
 rw [hk] at b1
 have lk:(sK s.sn).length<1000:=by unfold sK;rw [length_map];omega
 have d1:=yiH (h:=h) (n:=c.sn) (i:=(k:Nat)) (x:=.int (sp.getD k 0)) (ed:=ybm [12] "seen_stamps" (yf 0)) (ek:=yf 4) (ev:=xOp (ycp) (yf 2) (yf 4)) (ρ:=[.val (.loc c.rn),.val (.loc nu),.val (.loc ma),.val (yO (.take a p)),.val (.int (k:Nat))]) (by simp_all? only [i1]) (by simp_all? only [f6]) rfl (R.at_.get 5 rfl) lk
 rw [show sB s.sn=s.sn.map (fun p=>.int p.2.2) from rfl,ysU (f:=fun p=>.int p.2.2) (a:=bx.getD k 0) (b:=sp.getD k 0) rfl] at d1
 have r1:(h.set c.sn (.dct (sK (ycQ s.sn k (bx.getD k 0) (sp.getD k 0))) (sB (ycQ s.sn k (bx.getD k 0) (sp.getD k 0)))))[c.rn]?=some (ynU c.hl w c.lg rows s.t c.sn c.sd):=A0.get 0 rfl
 have ts:yck [.loc c.rn,.str a,.str p,.loc nu] (h.set c.sn (.dct (sK (ycQ s.sn k (bx.getD k 0) (sp.getD k 0))) (sB (ycQ s.sn k (bx.getD k 0) (sp.getD k 0)))))=some (.non,((h.set c.sn (.dct (sK (ycQ s.sn k (bx.getD k 0) (sp.getD k 0))) (sB (ycQ s.sn k (bx.getD k 0) (sp.getD k 0))))).set c.ls (.dct (sK (ycQ s.sn k (bx.getD k 0) (sp.getD k 0))) (sA (ycQ s.sn k (bx.getD k 0) (sp.getD k 0))))).set c.hl (.lst ((s.hs.set (sx a) (bx.getD k 0)).map .int))):=by
  have b2:=yej (r:=p) (A0.get 0 rfl) (A0.get 1 rfl) h8 hp hw
  rw [hk] at b2
  have g1:=(yds (A0.get 0 rfl)).2.2.1
  have s1:=yzQ (i:=(k:Nat)) (v:=.int (bx.getD k 0)) (A0.get 2 rfl) (A0.get 4 rfl) lk
  rw [show sA s.sn=s.sn.map (fun p=>.int p.2.1) from rfl,ysU (f:=fun p=>.int p.2.1) (a:=bx.getD k 0) (b:=sp.getD k 0) rfl] at s1
  have j1:=ydc (A0.2 (nu,.lst (bx.map .int)) (by simp [hn])) hkb
  have j2:=ydc (R1.at_.2 (nu,.lst (bx.map .int)) (by unfold RM;simp [hn])) hkb
  have lo:=A0.get 2 rfl
  have hd:=yiI (v:=bx.getD k 0) R1.run R1.held h8 ha
  have r2:=R1.run
  dsimp only at hd r2
  change _=some (PV.non,(h.set c.sn _).set c.ls (.dct (sK (ycQ s.sn k (bx.getD k 0) (sp.getD k 0))) (sA (ycQ s.sn k (bx.getD k 0) (sp.getD k 0))))) at s1
  generalize (h.set c.sn (.dct (sK (ycQ s.sn k (bx.getD k 0) (sp.getD k 0))) (sB (ycQ s.sn k (bx.getD k 0) (sp.getD k 0)))))=h1 at *
  generalize (h1.set c.ls (.dct (sK (ycQ s.sn k (bx.getD k 0) (sp.getD k 0))) (sA (ycQ s.sn k (bx.getD k 0) (sp.getD k 0)))))=h2 at *
  unfold yck
  rw [yp]
  show ob (yn _ _ [.val (.loc c.rn),.val (.str a),.val (.str p),.val (.loc nu),.no] h1) fnK=_
  simp_all? only [yeJ,yI (m:="box_at") r1 (by rfl'),b2,g1,yI (m:="see") lo (by rfl'),j1,s1,yI (m:="hold") r2 (by rfl'),j2,hd]
 have rr:=R2.run
 have f5':=(yds R2.run).2.2.2.2.1
 have sa:=fun ρ=>yup (j:=((s.t+1:Nat):Int)) (ρ:=ρ) R2.run
 have z:((s.t:Nat):Int)+1=((s.t+1:Nat):Int):=by omega
 dsimp only at f5' sa rr
 change _=some (Out.nx _,h.set c.sn (.dct (sK (ycQ s.sn k (bx.getD k 0) (sp.getD k 0))) (sB (ycQ s.sn k (bx.getD k 0) (sp.getD k 0))))) at d1
 generalize (h.set c.sn (.dct (sK (ycQ s.sn k (bx.getD k 0) (sp.getD k 0))) (sB (ycQ s.sn k (bx.getD k 0) (sp.getD k 0)))))=h1 at *
 generalize ((h1.set c.ls (.dct (sK (ycQ s.sn k (bx.getD k 0) (sp.getD k 0))) (sA (ycQ s.sn k (bx.getD k 0) (sp.getD k 0))))).set c.hl (.lst ((s.hs.set (sx a) (bx.getD k 0)).map .int)))=h2 at *
 unfold ycL
 rw [yp]
 show ob (yn _ _ [.val (.loc c.rn),.val (.loc nu),.val (.loc ma),.no,.no] h) fnK=_
 simp_all? only [yeJ,yI (m:="row") R.run (by rfl'),ykf R.run rfl er,i2,i3,yI (m:="box_at") R.run (by rfl'),b1,d1,yI (m:="take_seen") r1 (by rfl'),ts,ywx,f5',z,sa]
end
structure HC where
 H:Nat
 nu:Nat
 ma:Nat
 cr:Nat
 en:Nat
structure HQ where
 bx:List Int
 sp:List Int
 en:List PV
 cw:List Nat
 i:Nat
 hd:Nat
 ds:List PV
 nth:Nat
 sl:Bool
 bf:List Int
def HL (g:HC) (rn:Nat) (w:Int) (q:HQ) (own:List (Nat×Nd)):List (Nat×Nd) :=
 (g.H,yqn g.nu g.ma g.cr g.en)::(g.nu,.lst (q.bx.map .int))::(g.ma,.lst (q.sp.map .int))::(g.cr,.lst (q.cw.map .loc))::(g.en,.lst q.en)::(q.hd,ydC q.ds w q.nth q.sl q.bf rn)::own
structure NF (W:Nat) (s:RS):Prop where
 nd:(s.sn.map (·.1)).Nodup
 hb:∀ p∈s.sn,p.1<W
 hl:s.sn.length<=900
def stN (q:HQ):Str:=if q.nth=q.ds.length then "ended" else if q.sl=true then "asleep" else "awake"
section
variable {h:AH}{w:Int}{rows:List PV}{c:Lc}{s s':RS}{r:Rw}{g:HC}{q:HQ}{own:List (Nat×Nd)}{rn:Nat}
theorem RR.rest {m:List (Nat×Nd)}(R:RR w rows m h c s):At h m:=by
 have A:=R.at_
 unfold RM at A
 exact (At.sub A (List.sublist_append_right (_::_::_::_::_::_::_::lay c.ly s.dd) m))
theorem yqw (A:At h (HL g rn w q own)) (hi:q.cw[q.i]?=some q.hd):ycp (.loc g.cr) (.int (q.i:Nat)) h=some (.loc q.hd,h):=by
 have e:h[g.cr]?=some (.lst (q.cw.map .loc)):=A.get 3 rfl
 unfold ycp
 simp only [e]
 rw [ycD (show (q.cw.map PV.loc)[q.i]?=some (.loc q.hd) by rw [getElem?_map,hi];rfl)]
theorem yfP (A:At h (HL g rn w q own)) (hi:q.cw[q.i]?=some q.hd):yQ [.loc g.H,.int (q.i:Nat)] h=some (.loc q.hd,h):=by
 obtain ⟨f1,f2,f3,f4⟩:=ydW (A.get 0 rfl)
 have e:h[g.cr]?=some (.lst (q.cw.map .loc)):=A.get 3 rfl
 have i1:ydA [.int (q.i:Nat)] h=some (.bl true,h):=by kernel_rfl!
 have i2:=yqw A hi
 have lt:=(List.getElem?_eq_some_iff.mp hi).1
 have l1:((0:Int)<=(q.i:Nat))=True:=eq_true (by omega)
 have l2:(((q.i:Nat):Int)<((q.cw.map PV.loc).length:Nat))=True:=eq_true (by rw [length_map];omega)
 unfold yQ
 rw [yp]
 show ob (yn _ _ [.val (.loc g.H),.val (.int (q.i:Nat))] h) fnK=_
 simp_all? only [f3,yir e,i1,i2,l1,l2]
theorem ygz (A:At h (HL g rn w q own)):ybO [.loc q.hd] h=some (.str (stN q),h):=by
 obtain ⟨f1,f2,f3,f4,f5,f6⟩:=ydD (A.get 5 rfl)
 unfold ybO stN
 rw [yp]
 show ob (yn _ _ [.val (.loc q.hd)] h) fnK=_
 by_cases e:q.nth=q.ds.length
 .have e':((q.nth:Nat):Int)=(q.ds.length:Nat):=by omega
  rw [if_pos e]
  simp_all? only [f3,f1,e']
 .have e':(((q.nth:Nat):Int)=(q.ds.length:Nat))=False:=eq_false (by omega)
  rw [if_neg e]
  simp_all? only [f3,f1,f4,e']
  cases q.sl<;>rfl
theorem awake (hn:q.nth<q.ds.length) (hs:q.sl=false):stN q = "awake":=by
 unfold stN
 rw [if_neg (by omega),hs]
 rfl
theorem yqx (R:RR w rows (HL g c.rn w q own) h c s) (hi:q.cw[q.i]?=some q.hd) (er:rows[s.t]?=some (yO r)) (hw:1<=w) (hn:q.nth<q.ds.length) (hs:q.sl=false) (ok:OkS s) (okr:okR r) (hlk:yqu w s r=false) (e:yqq w r s=some s') :
  ∃ h' c',yJ [.loc g.H,.int (q.i:Nat)] h=some (.tup [.str "gone",.int s.t],h')/\RR w rows (HL g c'.rn w q own) h' c' s':=by
 obtain ⟨h',c',q1,q2,q3⟩:=ywE R er hw okr ok e
 refine ⟨h',c',?_,by rw [q3];exact q2⟩
 have A:=R.rest
 obtain ⟨f1,f2,f3,f4,f5,f6⟩:=ydD (A.get 5 rfl)
 obtain ⟨k1,k2,k3,k4,k5,k6,k7⟩:=yds R.run
 have st:=ygz A
 rw [awake hn hs] at st
 have lk:=yqv R er ok okr hw
 rw [hlk] at lk
 unfold yJ
 rw [yp]
 show ob (yn _ _ [.val (.loc g.H),.val (.int (q.i:Nat)),.no,.no] h) fnK=_
 simp_all? only [yeJ,yI (m:="hand_at") (A.get 0 rfl) (by rfl'),yfP A hi,yI (m:="state") (A.get 5 rfl) (by rfl'),st,f6,k5,yI (m:="is_looked_over") R.run (by rfl'),lk,yI (m:="go") R.run (by rfl'),q1]
theorem yki (R:RR w rows (HL g c.rn w q own) h c s) (hi:q.cw[q.i]?=some q.hd) (er:rows[s.t]?=some (yO r)) (hw:1<=w) (hn:q.nth<q.ds.length) (hs:q.sl=false) (ok:OkS s) (okr:okR r) (hlk:yqu w s r=true) (F:NF q.sp.length s) (fr:stB s.sn q.sp=false):yJ [.loc g.H,.int (q.i:Nat)] h=ob (yR [.loc g.H,.int (q.i:Nat),.int s.t] h) (fun x h=>some (x,h)):=by
 have A:=R.rest
 obtain ⟨f1,f2,f3,f4,f5,f6⟩:=ydD (A.get 5 rfl)
 obtain ⟨g1,g2,g3,g4⟩:=ydW (A.get 0 rfl)
 obtain ⟨k1,k2,k3,k4,k5,k6,k7⟩:=yds R.run
 have st:=ygz A
 rw [awake hn hs] at st
 have lk:=yqv R er ok okr hw
 rw [hlk] at lk
 have sl:=ysV (ma:=g.ma) (sp:=q.sp) R (mem_of_getElem? (i:=2) rfl) F.nd F.hb F.hl
 rw [fr] at sl
 unfold yJ
 rw [yp]
 show ob (yn _ _ [.val (.loc g.H),.val (.int (q.i:Nat)),.no,.no] h) fnK=_
 simp_all? only [yeJ,yI (m:="hand_at") (A.get 0 rfl) (by rfl'),yfP A hi,yI (m:="state") (A.get 5 rfl) (by rfl'),st,f6,k5,yI (m:="is_looked_over") R.run (by rfl'),lk,g2,yI (m:="is_stale") R.run (by rfl'),sl,yI (m:="looked_over_told") (A.get 0 rfl) (by rfl')]
theorem yqy {a p:Str}{k:Nat}(R:RR w rows (HL g c.rn w q own) h c s) (hi:q.cw[q.i]?=some q.hd) (er:rows[s.t]?=some (yO (.take a p))) (hw:1<=w) (hn:q.nth<q.ds.length) (hs:q.sl=false) (ok:OkS s) (okr:okR (.take a p)) (hlk:isN (yqp s w p)=true) (F:NF q.sp.length s) (fr:stB s.sn q.sp=false) (hk:s.hs.getD (sx p) 0%w=(k:Nat)) (hkb:k<q.bx.length) (hbs:q.sp.length=q.bx.length) :
  ∃ h',yJ [.loc g.H,.int (q.i:Nat)] h=some (.tup [.str "seen",.int s.t,.int (k:Nat),.int (q.bx.getD k 0)],h')/\RR w rows (HL g c.rn w q own) h' c ⟨s.t+1,s.hs.set (sx a) (q.bx.getD k 0),s.sd,s.dd,ycQ s.sn k (q.bx.getD k 0) (q.sp.getD k 0)⟩:=by
 obtain ⟨h8,o2,o3,o4,o5⟩:=yur ok
 obtain ⟨k2,k3⟩:a∈SL/\p∈SL:=by simpa [okR] using okr
 obtain ⟨h',q1,R'⟩:=ylE (ma:=g.ma) (nu:=g.nu) (sp:=q.sp) (bx:=q.bx) R er (mem_of_getElem? (i:=2) rfl) (mem_of_getElem? (i:=1) rfl) h8 k2 k3 hw hk (by omega) hkb F.hl
 refine ⟨h',?_,R'⟩
 rw [yki R hi er hw hn hs ok okr hlk F fr]
 have A:=R.rest
 have A':=R'.rest
 obtain ⟨f1,f2,f3,f4,f5,f6⟩:=ydD (A.get 5 rfl)
 obtain ⟨g1,g2,g3,g4⟩:=ydW (A.get 0 rfl)
 have g1':=(ydW (A'.get 0 rfl)).1
 have i2:=yqw A hi
 have i4:∀ h,ybD (yO (.take a p)) (.int 0) h=some (.str "take",h):=fun _=>rfl
 have i5:=ydc (A'.get 1 rfl) hkb
 unfold yR
 rw [yp]
 show ob (ob (yn _ _ [.val (.loc g.H),.val (.int (q.i:Nat)),.val (.int s.t),.no,.no,.no] h) fnK) _=_
 simp_all? only [yeJ,g1,g2,g3,i2,f6,yI (m:="row") R.run (by rfl'),ykf R.run rfl er,i4,yI (m:="see_next") R.run (by rfl'),q1,g1',i5]
theorem RR.sub {m m':List (Nat×Nd)}(R:RR w rows m h c s) (u:m'.Sublist m):RR w rows m' h c s:=by
 refine ⟨?_,R.len⟩
 have A:=R.at_
 unfold RM at A ⊢
 exact A.sub ((((((((List.Sublist.refl _).append u).cons₂ _).cons₂ _).cons₂ _).cons₂ _).cons₂ _).cons₂ _ |>.cons₂ _)
theorem RR.urest {a b:List (Nat×Nd)}{n:Nat}{d:Nd}(d':Nd) (R:RR w rows (a++(n,d)::b) h c s):RR w rows (a++(n,d')::b) (h.set n d') c s:=by
 refine ⟨?_,R.len⟩
 have A:=R.at_
 unfold RM at A ⊢
 rw [<- append_assoc] at A ⊢
 exact At.upd (a:=_::_::_::_::_::_::_::(lay c.ly s.dd++a)) d' A
end
section
variable {h:AH}{w:Int}{rows rows':List PV}{c:Lc}{s s':RS}{r:Rw}{g:HC}{q:HQ}{own:List (Nat×Nd)}{rn:Nat}
def hp1 (h:AH) (bf:List Int):AH:=h++[Nd.lst (bf.map .int)]
def hp2 (h:AH) (bf:List Int):AH:=hp1 h bf++[Nd.dct [] []]
def hp3 (h:AH) (bf:List Int):AH:=hp2 h bf++[Nd.lst [.loc (hp1 h bf).length]]
def hp4 (h:AH) (bf:List Int):AH:=hp3 h bf++[Nd.dct [] []]
noncomputable def hp5 (h:AH) (bf:List Int):AH:=hp4 h bf++[Nd.ins 11 ["stack","last_seen"] [.loc (hp2 h bf).length,.loc (hp3 h bf).length]]
def hp6 (h:AH) (bf:List Int):AH:=hp5 h bf++[Nd.dct [] []]
def hp7 (h:AH) (bf:List Int):AH:=hp6 h bf++[Nd.lst []]
theorem ysW {bf:List Int}:∃ h' c',ob (ydp [.lst rows,.lst (bf.map .int),.int w] h) (fun d h1=>some (PV.loc h1.length,h1++[d]))=some (.loc c'.rn,h')/\∀ m,At h m->RR w rows m h' c' (S0 bf):=by
 refine ⟨_,⟨(hp7 h bf).length,h.length,(hp4 h bf).length,(hp2 h bf).length,(hp3 h bf).length,(hp5 h bf).length,(hp6 h bf).length,[(hp1 h bf).length]⟩,rfl,fun m A=>⟨?_,rfl⟩⟩
 have A2:=At.new (.dct [] []) (a:=[_]) (At.new (.lst (bf.map .int)) (a:=[]) A)
 have A4:=At.new (.dct [] []) (a:=[_,_]) (At.new (.lst [.loc (hp1 h bf).length]) (a:=[_]) A2)
 have A5:=At.new (.ins 11 ["stack","last_seen"] [.loc (hp2 h bf).length,.loc (hp3 h bf).length]) (a:=[_]) A4
 exact At.new _ (a:=[]) (At.new (.lst []) (a:=[_,_,_,_,_]) (At.new (.dct [] []) (a:=[_,_,_,_]) A5))
theorem ysX {n:Nat}{ds:List PV}{w nth v:Int}{sl:Bool}{bf:List Int}{rn:Nat}{ρ:PSt}(e:h[n]?=some (ydC ds w nth sl bf rn)):fL [14] "nth" ρ (.int v) (.loc n) h=some (.nx ρ,h.set n (ydC ds w v sl bf rn)):=yfm e (by decide) (by kernel_rfl!)
theorem ywG {n:Nat}{ds:List PV}{w nth:Int}{sl:Bool}{bf v:List Int}{rn:Nat}{ρ:PSt}(e:h[n]?=some (ydC ds w nth sl bf rn)):fL [14] "before" ρ (.lst (v.map .int)) (.loc n) h=some (.nx ρ,h.set n (ydC ds w nth sl v rn)):=yfm e (by decide) (by kernel_rfl!)
theorem ywH {n:Nat}{ds:List PV}{w nth:Int}{sl:Bool}{bf:List Int}{rn v:Nat}{ρ:PSt}(e:h[n]?=some (ydC ds w nth sl bf rn)):fL [14] "run" ρ (.loc v) (.loc n) h=some (.nx ρ,h.set n (ydC ds w nth sl bf v)):=yfm e (by decide) (by kernel_rfl!)
def Due (ds:List PV) (nth:Nat) (rows:List PV):Prop:=nth<ds.length/\ds[nth]?=some (.lst rows)\/nth=ds.length/\rows=[]
theorem yhV {n:Nat}{ds:List PV}{nth:Nat}{bf:List Int}(f1:yeb [14] "deeds" (.loc n) h=some (.lst ds,h)) (f2:yeb [12,14] "width" (.loc n) h=some (.int w,h)) (f3:yeb [14] "nth" (.loc n) h=some (.int nth,h)) (f5:yeb [14] "before" (.loc n) h=some (.lst (bf.map .int),h)) (hr:Due ds nth rows):∃ h' c',ych [.loc n] h=some (.loc c'.rn,h')/\∀ m,At h m->RR w rows m h' c' (S0 bf):=by
 obtain ⟨h',c',q1,q2⟩:=ysW (h:=h) (w:=w) (rows:=rows) (bf:=bf)
 refine ⟨h',c',?_,q2⟩
 unfold ych
 rw [yp]
 show ob (yn _ _ [.val (.loc n),.no] h) fnK=_
 rcases hr with ⟨h1,h2⟩|⟨h1,h2⟩
 .have e1:(((nth:Nat):Int)<(ds.length:Nat))=True:=eq_true (by omega)
  have e2:ycp (.lst ds) (.int (nth:Nat)) h=some (.lst rows,h):=by unfold ycp;simp only [ycD h2]
  simp_all? only [f3,f1,f5,f2,e1,e2,q1]
 .have e1:(((nth:Nat):Int)<(ds.length:Nat))=False:=eq_false (by omega)
  subst h2
  simp_all? only [f3,f1,f5,f2,e1,q1]
theorem ysY {v:PV}{bf:List Int}(A:At h (HL g rn w q own)) (hb:∀ h1,At h1 (HL g rn w { q with nth:=q.nth+1 } own)->ybe [v] h1=some (.lst (bf.map .int),h1)) (hr:Due q.ds (q.nth+1) rows) :
  ∃ h' c',ydj [.loc q.hd,v] h=some (.non,h')/\RR w rows (HL g c'.rn w { q with nth:=q.nth+1,bf:=bf } own) h' c' (S0 bf):=by
 obtain ⟨f1,f2,f3,f4,f5,f6⟩:=ydD (A.get 5 rfl)
 have A1:At (h.set q.hd (ydC q.ds w (q.nth+1:Nat) q.sl q.bf rn)) (HL g rn w { q with nth:=q.nth+1 } own):=At.upd (a:=[_,_,_,_,_]) _ A
 have A2:At ((h.set q.hd (ydC q.ds w (q.nth+1:Nat) q.sl q.bf rn)).set q.hd (ydC q.ds w (q.nth+1:Nat) q.sl bf rn)) (HL g rn w { q with nth:=q.nth+1,bf:=bf } own):=At.upd (a:=[_,_,_,_,_]) _ A1
 have s1:=fun ρ=>ysX (ρ:=ρ) (v:=((q.nth+1:Nat):Int)) (A.get 5 rfl)
 have s2:=fun ρ=>ywG (ρ:=ρ) (v:=bf) (A1.get 5 rfl)
 have b1:=hb _ A1
 obtain ⟨a1,a2,a3,a4,a5,a6⟩:=ydD (A2.get 5 rfl)
 obtain ⟨h',c',q1,q2⟩:=yhV a1 a2 a3 a5 hr
 have R:=q2 _ A2
 have B:=R.rest
 have s3:=fun ρ=>ywH (ρ:=ρ) (v:=c'.rn) (B.get 5 rfl)
 refine ⟨h'.set q.hd (ydC q.ds w (q.nth+1:Nat) q.sl bf c'.rn),c',?_,RR.urest (a:=[_,_,_,_,_]) _ R⟩
 have z:((q.nth:Nat):Int)+1=((q.nth+1:Nat):Int):=by omega
 unfold ydj
 rw [yp]
 show ob (yn _ _ [.val (.loc q.hd),.val v] h) fnK=_
 simp_all? only [ywx,yeJ,f3,z,s1,s2,b1,yI (m:="new_run") (A2.get 5 rfl) (by rfl'),q1,s3]
def EX (c:Lc) (w:Int) (rows:List PV) (s:RS):List (Nat×Nd):=RM w rows c s []
theorem yhb {m:List (Nat×Nd)}:RM w rows c s m=EX c w rows s++m:=by
 unfold EX RM
 simp
theorem RR.hl (R:RR w rows (HL g c.rn w q own) h c s):At h (HL g c.rn w q (EX c w rows s++own)):=by
 have A:=R.at_
 rw [yhb] at A
 exact A.perm (show (HL g c.rn w q []++(EX c w rows s++own)).Perm _ from List.perm_append_comm_assoc _ _ _)
theorem yzR {L:List PV}{b st:Nat}{m:List (Nat×Int×Int)}(e1:h[b]?=some (.ins 11 ["stack","last_seen"] [.loc st,.loc rn])) (e2:h[rn]?=some (.dct (sK m) (sA m))) (hs:sortI (sK m) (sA m)=some L):yfj [.loc b] h=some (.lst L,h):=by
 have e1:=ylB e1
 unfold yfj
 rw [yp,ypb,yBu]
 unfold ydx
 rw [ypc,show yf 0 ([PV.loc b].map .val++replicate (1-[PV.loc b].length) .no) h=some (.loc b,h) from rfl,ybZ,e1,ybZ]
 unfold yjM
 simp only [e2,hs]
 rfl
noncomputable def yxi (q:HQ) (en:PV) (L laid:List PV) (bf:List Int):PV:=.tup [.int (q.i:Nat),.int (q.nth:Nat),en,.lst L,.lst laid,.lst (bf.map .int)]
theorem ylF {en v:PV}{L laid:List PV}{bf:List Int}(A:At h (HL g c.rn w q (EX c w rows s++own))) (hi:q.cw[q.i]?=some q.hd) (hs:sortI (sK s.sn) (sA s.sn)=some L) (hb:∀ h1 q',At h1 (HL g c.rn w q' (EX c w rows s++own))->ybe [v] h1=some (.lst (bf.map .int),h1)) (hr:Due q.ds (q.nth+1) rows') (hl:q.en.length<1000) :
  ∃ h' c',ycs [.loc g.H,.int (q.i:Nat),en,.lst laid,v] h=some (.non,h')/\RR w rows' (HL g c'.rn w { q with en:=q.en++[yxi q en L laid bf],nth:=q.nth+1,bf:=bf } own) h' c' (S0 bf):=by
 obtain ⟨f1,f2,f3,f4⟩:=ydW (A.get 0 rfl)
 obtain ⟨k1,k2,k3,k4,k5,k6⟩:=ydD (A.get 5 rfl)
 obtain ⟨r1,r2,r3,r4,r5,r6,r7⟩:=yds (A.get 6 rfl)
 have i2:=yqw A hi
 have een:h[g.en]?=some (.lst q.en):=A.get 4 rfl
 have A1:At (h.set g.en (.lst (q.en++[yxi q en L laid bf]))) (HL g c.rn w { q with en:=q.en++[yxi q en L laid bf] } (EX c w rows s++own)):=At.upd (a:=[_,_,_,_]) _ A
 obtain ⟨h',c',q1,q2⟩:=ysY (v:=v) (bf:=bf) A1 (fun h1 a=>hb h1 _ a) hr
 refine ⟨h',c',?_,q2.sub ((((((List.sublist_append_right _ _).cons₂ _).cons₂ _).cons₂ _).cons₂ _).cons₂ _ |>.cons₂ _)⟩
 have ea:yjL (.loc g.en) [.tup [.int (q.i:Nat),.int (q.nth:Nat),en,.lst L,.lst laid,.lst (bf.map .int)]] h=some (.non,h.set g.en (.lst (q.en++[yxi q en L laid bf]))):=ypq een (by omega)
 have b1:=hb _ _ A
 have sw:=yzR (A.get 8 rfl) (A.get 10 rfl) hs
 unfold ycs
 rw [yp]
 show ob (yn _ _ [.val (.loc g.H),.val (.int (q.i:Nat)),.val en,.val (.lst laid),.val v,.no] h) fnK=_
 simp_all? only [yeJ,f3,i2,f4,yjP een,k3,k6,r3,yI (m:="saw") (A.get 8 rfl) (by rfl'),sw,b1,ea,yI (m:="go_on") (A1.get 5 rfl) (by rfl'),q1]
theorem ynH:(("lay":Str) = "take")=False:=eq_false (by rfl')
theorem ynI:(("lay":Str) = "wait")=False:=eq_false (by rfl')
theorem ylG:(("lay":Str) = "throw")=False:=eq_false (by rfl')
end
def yY (p:Nat×Int):PV:=.tup [.int (p.1:Nat),.int p.2]
def ykB:List Int->List (Nat×Int)->List Int
 | bx,[]=>bx
 | bx,p::r=>ykB (bx.set p.1 p.2) r
def yzS:List Int->List (Nat×Int)->List Int
 | sp,[]=>sp
 | sp,p::r=>yzS (sp.set p.1 (sp.getD p.1 0+1)) r
theorem ymT:∀ (l:List (Nat×Int)) (bx:List Int),(ykB bx l).length=bx.length
 | [],_=>rfl
 | p::r,bx=>by show (ykB (bx.set p.1 p.2) r).length=_;rw [ymT r,length_set]
section
variable {h:AH}{w:Int}{rows rows':List PV}{c:Lc}{s s':RS}{r:Rw}{g:HC}{q:HQ}{own:List (Nat×Nd)}{rn:Nat}
theorem yiN {n:Nat}{xs:List Int}{k:Nat}{v:Int}{eo ei ev:XE}{ρ:PSt}(e1:ev ρ h=some (.int v,h)) (e2:eo ρ h=some (.loc n,h)) (e3:ei ρ h=some (.int (k:Nat),h)) (e:h[n]?=some (.lst (xs.map .int))) (hk:k<xs.length):ygg eo ei ev ρ h=some (.nx ρ,h.set n (.lst ((xs.set k v).map .int))):=by
 have e':ixN (xs.map PV.int).length (k:Nat)=some k:=by
  unfold ixN
  simp [hk]
 unfold ygg
 rw [e1,ybZ,e2,ybZ,e3,ybZ]
 simp only [e,e']
 rw [map_set]
theorem ywI {G:XG}{S:XS}{x:PV}{xs:List PV}{ρ ρ1 ρ2:PSt}{h1:AH}(e1:G x ρ=some ρ1) (e2:S ρ1 h=some (.nx ρ2,h1)):yeU G S (x::xs) ρ h=yeU G S xs ρ2 h1:=by
 show (G x ρ).bind _=_
 rw [e1,bind_some,e2]
 rfl
theorem ymU {v1 v2 v3:PVar}:∀ (l:List (Nat×Int)) (q:HQ) (h:AH) (v4 v5:PVar),At h (HL g rn w q own)->(∀ p∈l,p.1<q.bx.length)->q.sp.length=q.bx.length ->
  ∃ h' v4' v5',yeU (yz 4) ldB (l.map yY) [.val (.loc g.H),v1,v2,v3,v4,v5] h=some (.nx [.val (.loc g.H),v1,v2,v3,v4',v5'],h')/\At h' (HL g rn w { q with bx:=ykB q.bx l,sp:=yzS q.sp l } own)
 | [],q,h,v4,v5,A,_,_=>⟨h,v4,v5,rfl,A⟩
 | p::l,q,h,v4,v5,A,hb,hs=>by
  have hp:=hb p mem_cons_self
  obtain ⟨g1,g2,g3,g4⟩:=ydW (A.get 0 rfl)
  have A1:At (h.set g.nu (.lst ((q.bx.set p.1 p.2).map .int))) (HL g rn w { q with bx:=q.bx.set p.1 p.2 } own):=At.upd (a:=[_]) _ A
  have A2:At ((h.set g.nu (.lst ((q.bx.set p.1 p.2).map .int))).set g.ma (.lst ((q.sp.set p.1 (q.sp.getD p.1 0+1)).map .int))) (HL g rn w { q with bx:=q.bx.set p.1 p.2,sp:=q.sp.set p.1 (q.sp.getD p.1 0+1) } own):=At.upd (a:=[_,_]) _ A1
  obtain ⟨t1,t2,t3,t4⟩:=ydW (A1.get 0 rfl)
  have s1:=yiN (h:=h) (xs:=q.bx) (k:=p.1) (v:=p.2) (eo:=ybm [15] "numbers" (yf 0)) (ei:=yf 5) (ev:=xOp (ybD) (yf 4) (xC (.int 1))) (ρ:=[.val (.loc g.H),v1,v2,v3,.val (yY p),.val (.int (p.1:Nat))]) rfl (by simp_all? only [g1]) rfl (A.get 1 rfl) hp
  have s2:=yiN (h:=h.set g.nu (.lst ((q.bx.set p.1 p.2).map .int))) (xs:=q.sp) (k:=p.1) (v:=q.sp.getD p.1 0+1) (eo:=ybm [15] "marks" (yf 0)) (ei:=yf 5) (ev:=xOp ylk (xOp (ycp) (ybm [15] "marks" (yf 0)) (yf 5)) (xC (.int 1))) (ρ:=[.val (.loc g.H),v1,v2,v3,.val (yY p),.val (.int (p.1:Nat))]) (by
   have i3:=ydc (A1.get 2 rfl) (show p.1<q.sp.length by omega)
   simp_all? only [t2,i3]) (by simp_all? only [t2]) rfl (A1.get 2 rfl) (by omega)
  have i0:∀ h,ybD (yY p) (.int 0) h=some (.int (p.1:Nat),h):=fun _=>rfl
  have bd:ldB [.val (.loc g.H),v1,v2,v3,.val (yY p),v5] h=some (.nx [.val (.loc g.H),v1,v2,v3,.val (yY p),.val (.int (p.1:Nat))],(h.set g.nu (.lst ((q.bx.set p.1 p.2).map .int))).set g.ma (.lst ((q.sp.set p.1 (q.sp.getD p.1 0+1)).map .int))):=by
   unfold ldB
   simp_all? only [i0,s1,s2]
  obtain ⟨h',a,b,e1,e2⟩:=ymU (v1:=v1) (v2:=v2) (v3:=v3) l _ _ (.val (yY p)) (.val (.int (p.1:Nat))) A2 (fun x hx=>by show x.1<(q.bx.set p.1 p.2).length;rw [length_set];exact hb x (mem_cons_of_mem _ hx)) (by show (q.sp.set _ _).length=(q.bx.set _ _).length;rw [length_set,length_set];exact hs)
  refine ⟨h',a,b,?_,e2⟩
  show yeU _ _ (yY p::l.map yY) _ h=_
  rw [ywI (by kernel_rfl!) bd]
  exact e1
theorem ysZ {o st b l0:Nat}{d:List Key×List PV}{ks:List Key}{xs L:List PV}(G:LG h o st b [l0] [d] ks xs) (hs:sortI d.1 d.2=some L):ydQ [.loc o] h=some (.lst L,h):=by
 have e1:=ylA G.ob
 have e2:=G.st
 have e3:h[l0]?=some (.dct d.1 d.2):=G.dl.1
 have i2:ycp (.loc st) (.int 0) h=some (.loc l0,h):=by unfold ycp;simp only [e2];rfl
 unfold ydQ
 rw [yp]
 show ob (yn _ _ [.val (.loc o),.no] h) fnK=_
 simp_all? only [e1,i2]
 unfold ydx
 symm
 unfold yjM
 simp only [e3,hs]
 rfl
theorem yzT {L:List PV}{l:List (Nat×Int)}{d:List Key×List PV}(R:RR w rows (HL g c.rn w q own) h c s) (hi:q.cw[q.i]?=some q.hd) (ed:s.dd=[d]) (hd:sortI d.1 d.2=some (l.map yY)) (hb:∀ p∈l,p.1<q.bx.length) (hsp:q.sp.length=q.bx.length) (hL:sortI (sK s.sn) (sA s.sn)=some L) (hr:Due q.ds (q.nth+1) rows') (hl:q.en.length<1000) :
  ∃ h1 c',(∀ h2,ybh [.loc g.H] h1=some (.non,h2)->yct [.loc g.H,.int (q.i:Nat)] h=some (.non,h2))/\RR w rows' (HL g c'.rn w { q with bx:=ykB q.bx l,sp:=yzS q.sp l,en:=q.en++[yxi q (.tup [.str "done"]) L (l.map yY) s.hs],nth:=q.nth+1,bf:=s.hs } own) h1 c' (S0 s.hs):=by
 have A:=R.hl
 obtain ⟨l0,el⟩:∃ l0,c.ly=[l0]:=by
  have:=R.len
  rw [ed] at this
  exact List.length_eq_one_iff.mp this
 have G:=R.lg
 rw [el,ed] at G
 have wr:=ysZ G hd
 obtain ⟨g1,g2,g3,g4⟩:=ydW (A.get 0 rfl)
 obtain ⟨k1,k2,k3,k4,k5,k6⟩:=ydD (A.get 5 rfl)
 obtain ⟨r1,r2,r3,r4,r5,r6,r7⟩:=yds R.run
 have i2:=yqw A hi
 obtain ⟨h3,v4,v5,lp,A2⟩:=ymU (v1:=.val (.int (q.i:Nat))) (v2:=.val (.loc c.rn)) (v3:=.val (.lst (l.map yY))) l q h .no .no A hb hsp
 obtain ⟨h',c',q1,q2⟩:=ylF (en:=.tup [.str "done"]) (v:=.loc c.hl) (laid:=l.map yY) (bf:=s.hs) A2 hi hL (fun h1 q' a=>yes (a.get 7 rfl)) hr hl
 refine ⟨h',c',fun h2 wk=>?_,q2⟩
 obtain ⟨u1,u2,u3,u4,u5,u6,u7⟩:=yds (A2.get 6 rfl)
 have i7:xIL (yf 3) [.val (.loc g.H),.val (.int (q.i:Nat)),.val (.loc c.rn),.val (.lst (l.map yY)),.no,.no] h=some (l.map yY,h):=ynF rfl
 unfold yct
 rw [yp]
 show ob (yn _ (yn _ (yn (yoM (xIL (yf 3)) _ ldB) _)) [.val (.loc g.H),.val (.int (q.i:Nat)),.no,.no,.no,.no] h) fnK=_
 simp_all? only [yeJ,g3,i2,k6,r3,yI (m:="wrote") R.lg.ob (by rfl'),wr,i7,lp,u1,yI (m:="end_deed") (A2.get 0 rfl) (by rfl'),q1,yI (m:="wake_stale") (q2.rest.get 0 rfl) (by rfl'),wk]
theorem yqz {L:List PV}{l:List (Nat×Int)}{d:List Key×List PV}(R:RR w rows (HL g c.rn w q own) h c s) (hi:q.cw[q.i]?=some q.hd) (er:rows[s.t]?=some (yO .lay)) (hw:1<=w) (hn:q.nth<q.ds.length) (hs:q.sl=false) (ok:OkS s) (F:NF q.sp.length s) (fr:stB s.sn q.sp=false) (ed:s.dd=[d]) (hd:sortI d.1 d.2=some (l.map yY)) (hb:∀ p∈l,p.1<q.bx.length) (hsp:q.sp.length=q.bx.length) (hL:sortI (sK s.sn) (sA s.sn)=some L) (hr:Due q.ds (q.nth+1) rows') (hl:q.en.length<1000) :
  ∃ h1 c',(∀ h2,ybh [.loc g.H] h1=some (.non,h2)->yJ [.loc g.H,.int (q.i:Nat)] h=some (.tup [.str "done",.int s.t],h2))/\RR w rows' (HL g c'.rn w { q with bx:=ykB q.bx l,sp:=yzS q.sp l,en:=q.en++[yxi q (.tup [.str "done"]) L (l.map yY) s.hs],nth:=q.nth+1,bf:=s.hs } own) h1 c' (S0 s.hs):=by
 obtain ⟨h',c',q1,q2⟩:=yzT R hi ed hd hb hsp hL hr hl
 refine ⟨h',c',fun h2 wk=>?_,q2⟩
 have q1:=q1 h2 wk
 rw [yki R hi er hw hn hs ok trivial rfl F fr]
 have A:=R.rest
 obtain ⟨f1,f2,f3,f4,f5,f6⟩:=ydD (A.get 5 rfl)
 obtain ⟨g1,g2,g3,g4⟩:=ydW (A.get 0 rfl)
 have i2:=yqw A hi
 have i4:∀ h,ybD (yO .lay) (.int 0) h=some (.str "lay",h):=fun _=>rfl
 unfold yR
 rw [yp]
 show ob (ob (yn _ _ [.val (.loc g.H),.val (.int (q.i:Nat)),.val (.int s.t),.no,.no,.no] h) fnK) _=_
 simp_all? only [yeJ,g3,i2,f6,yI (m:="row") R.run (by rfl'),ykf R.run rfl er,i4,ynH,ynI,ylG,yI (m:="lay_down") (A.get 0 rfl) (by rfl'),q1]
end
structure HD where
 ds:List PV
 nth:Nat
 sl:Bool
 bf:List Int
 rows:List PV
 s:RS
def HN (w:Int) (a:Nat×Lc) (x:HD) (m:List (Nat×Nd)):List (Nat×Nd):=(a.1,ydC x.ds w x.nth x.sl x.bf a.2.rn)::RM w x.rows a.2 x.s m
def CR (w:Int):List (Nat×Lc)->List HD->List (Nat×Nd)->List (Nat×Nd)
 | a::as,x::xs,m=>HN w a x (CR w as xs m)
 | _,_,m=>m
def LyOk:List (Nat×Lc)->List HD->Prop
 | a::as,x::xs=>a.2.ly.length=x.s.dd.length/\LyOk as xs
 | [],[]=>True
 | _,_=>False
noncomputable def H5 (g:HC) (bx sp:List Int) (en:List PV) (cw:List Nat):List (Nat×Nd):=[(g.H,yqn g.nu g.ma g.cr g.en),(g.nu,.lst (bx.map .int)),(g.ma,.lst (sp.map .int)),(g.cr,.lst (cw.map .loc)),(g.en,.lst en)]
structure HH (h:AH) (g:HC) (w:Int) (bx sp:List Int) (en:List PV) (as:List (Nat×Lc)) (xs:List HD) (own:List (Nat×Nd)):Prop where
 at_:At h (H5 g bx sp en (as.map (·.1))++CR w as xs own)
 ly:LyOk as xs
def qOf (bx sp:List Int) (en:List PV) (cw:List Nat) (i hd:Nat) (x:HD):HQ:=⟨bx,sp,en,cw,i,hd,x.ds,x.nth,x.sl,x.bf⟩
section
variable {h:AH}{w:Int}{g:HC}{bx sp:List Int}{en:List PV}{as as1 as2:List (Nat×Lc)}{xs xs1 xs2:List HD}{a:Nat×Lc}{x x':HD}{own m:List (Nat×Nd)}{c:Lc}
theorem yfZ:HN w a x m=HN w a x []++m:=by
 unfold HN
 rw [yhb,yhb,append_nil]
 rfl
theorem yiO:∀ {as1:List (Nat×Lc)}{xs1:List HD},as1.length=xs1.length->(CR w (as1++a::as2) (xs1++x::xs2) m).Perm (HN w a x (CR w as1 xs1 (CR w as2 xs2 m)))
 | [],[],_=>.refl _
 | b::as1,y::xs1,e=>by
  show (HN w b y (CR w (as1++a::as2) (xs1++x::xs2) m)).Perm (HN w a x (HN w b y (CR w as1 xs1 (CR w as2 xs2 m))))
  have ih:=yiO (as1:=as1) (xs1:=xs1) (by simpa using e)
  rw [yfZ (a:=b),yfZ (a:=a) (m:=HN w b y _),yfZ (a:=b) (m:=CR w as1 xs1 _)]
  refine (ih.append_left _).trans ?_
  rw [yfZ (a:=a)]
  exact List.perm_append_comm_assoc _ _ _
theorem LyOk.split:∀ {as1:List (Nat×Lc)}{xs1:List HD},as1.length=xs1.length->(LyOk (as1++a::as2) (xs1++x::xs2) ↔ LyOk as1 xs1/\a.2.ly.length=x.s.dd.length/\LyOk as2 xs2)
 | [],[],_=>⟨fun k=>⟨trivial,k⟩,fun k=>k.2⟩
 | b::as1,y::xs1,e=>by
  have ih:=LyOk.split (as1:=as1) (xs1:=xs1) (by simpa using e)
  show _/\LyOk (as1++a::as2) (xs1++x::xs2) ↔ (_/\LyOk as1 xs1)/\_
  rw [ih,and_assoc]
theorem yzU {rows:List PV}{s:RS}{rn:Nat}{q:HQ}:(H5 g q.bx q.sp q.en q.cw++((q.hd,ydC q.ds w q.nth q.sl q.bf rn)::RM w rows c s m)).Perm (RM w rows c s (HL g rn w q m)):=by
 rw [yhb,yhb]
 refine .trans ?_ (show (H5 g q.bx q.sp q.en q.cw++(EX c w rows s++((q.hd,ydC q.ds w q.nth q.sl q.bf rn)::m))).Perm (EX c w rows s++HL g rn w q m) from List.perm_append_comm_assoc _ _ _)
 exact (List.perm_middle.symm).append_left _
theorem HH.foc (X:HH h g w bx sp en (as1++a::as2) (xs1++x::xs2) own) (l:as1.length=xs1.length):RR w x.rows (HL g a.2.rn w (qOf bx sp en ((as1++a::as2).map (·.1)) as1.length a.1 x) (CR w as1 xs1 (CR w as2 xs2 own))) h a.2 x.s:=by
 refine ⟨?_,((LyOk.split l).mp X.ly).2.1⟩
 exact X.at_.perm (((yiO l).append_left _).trans (yzU (q:=qOf bx sp en _ _ _ _))).symm
theorem HH.unf {bx' sp':List Int}{en':List PV}(L:LyOk (as1++a::as2) (xs1++x::xs2)) (l:as1.length=xs1.length) (R:RR w x'.rows (HL g c.rn w (qOf bx' sp' en' ((as1++a::as2).map (·.1)) as1.length a.1 x') (CR w as1 xs1 (CR w as2 xs2 own))) h c x'.s):HH h g w bx' sp' en' (as1++(a.1,c)::as2) (xs1++x'::xs2) own:=by
 obtain ⟨l1,l2,l3⟩:=(LyOk.split l).mp L
 refine ⟨?_,(LyOk.split l).mpr ⟨l1,R.len,l3⟩⟩
 have e:(as1++(a.1,c)::as2).map (·.1)=(as1++a::as2).map (·.1):=by simp
 rw [e]
 exact R.at_.perm (((yiO l).append_left _).trans (yzU (q:=qOf bx' sp' en' _ _ _ _)))
theorem yqA:((as1++a::as2).map (·.1))[as1.length]?=some a.1:=by simp
theorem yhu:(("ended":Str) = "asleep")=False:=eq_false (by rfl')
theorem yhv:(("awake":Str) = "asleep")=False:=eq_false (by rfl')
theorem yzV (X:HH h g w bx sp en (as1++a::as2) (xs1++x::xs2) own) (l:as1.length=xs1.length) (es:x.sl=false):wkB [.val (.loc g.H),.val (.loc a.1)] h=some (.nx [.val (.loc g.H),.val (.loc a.1)],h):=by
 have R:=X.foc l
 have A:=R.rest
 have st:=ygz A
 have hh:h[a.1]?=some (ydC x.ds w x.nth x.sl x.bf a.2.rn):=A.get 5 rfl
 by_cases e:x.nth=x.ds.length
 .have st':stN (qOf bx sp en ((as1++a::as2).map (·.1)) as1.length a.1 x) = "ended":=if_pos e
  rw [st'] at st
  unfold wkB
  dsimp only [qOf] at st
  simp_all? only [yeJ,yI (m:="state") hh (by rfl'),st,yhu]
 .have st':stN (qOf bx sp en ((as1++a::as2).map (·.1)) as1.length a.1 x) = "awake":=(if_neg e).trans (if_neg (by rw [show (qOf bx sp en ((as1++a::as2).map (·.1)) as1.length a.1 x).sl=x.sl from rfl,es];decide))
  rw [st'] at st
  unfold wkB
  dsimp only [qOf] at st
  simp_all? only [yeJ,yI (m:="state") hh (by rfl'),st,yhv]
theorem LyOk.len:∀ {as:List (Nat×Lc)}{xs:List HD},LyOk as xs->as.length=xs.length
 | [],[],_=>rfl
 | _::_,_::_,k=>by rw [length_cons,length_cons,LyOk.len k.2]
theorem LyOk.app:∀ {as1 as2:List (Nat×Lc)}{xs1 xs2:List HD},as1.length=xs1.length->LyOk (as1++as2) (xs1++xs2)->LyOk as2 xs2
 | [],_,[],_,_,k=>k
 | _::_,_,_::_,_,e,k=>LyOk.app (by simpa using e) k.2
theorem yqB:∀ (as2:List (Nat×Lc)) (xs2:List HD) (as1:List (Nat×Lc)) (xs1:List HD) (v:PVar),HH h g w bx sp en (as1++as2) (xs1++xs2) own->as1.length=xs1.length->(∀ x∈xs2,x.sl=false) ->
  ∃ v',ykA g.cr false (yz 1) wkB as2.length as1.length [.val (.loc g.H),v] h=some (.nx [.val (.loc g.H),v'],h)
 | [],xs2,as1,xs1,v,X,l,_=>by
  have e:h[g.cr]?=some (.lst (((as1++([]:List (Nat×Lc))).map (fun a=>a.1)).map .loc)):=X.at_.get 3 rfl
  refine ⟨v,?_⟩
  show ykA g.cr false (yz 1) wkB 0 as1.length _ h=_
  unfold ykA
  simp only [e]
  rw [if_pos (by simp)]
 | a::as2,[],as1,xs1,v,X,l,_=>by
  have l2:=(LyOk.app l X.ly).len
  cases l2
 | a::as2,x::xs2,as1,xs1,v,X,l,hx=>by
  have e:h[g.cr]?=some (.lst (((as1++a::as2).map (·.1)).map .loc)):=X.at_.get 3 rfl
  have q1:=yzV X l (hx x mem_cons_self)
  obtain ⟨v',q2⟩:=yqB as2 xs2 (as1++[a]) (xs1++[x]) (.val (.loc a.1)) (by rw [append_assoc,append_assoc];exact X) (by simp [l]) (fun y hy=>hx y (mem_cons_of_mem _ hy))
  refine ⟨v',?_⟩
  rw [length_append] at q2
  have y1:yz 1 (.loc a.1) [.val (.loc g.H),v]=some [.val (.loc g.H),.val (.loc a.1)]:=rfl
  have ei:(((as1++a::as2).map (·.1)).map PV.loc)[as1.length]?=some (.loc a.1):=by rw [getElem?_map,yqA];rfl
  show ykA g.cr false (yz 1) wkB (as2.length+1) as1.length _ h=_
  unfold ykA
  simp only [e,Bool.false_eq_true,if_false,ei,y1,bind_some,q1,ybZ]
  exact q2
theorem ywJ (X:HH h g w bx sp en as xs own) (hx:∀ x∈xs,x.sl=false):ybh [.loc g.H] h=some (.non,h):=by
 obtain ⟨v',q1⟩:=yqB as xs [] [] .no X rfl hx
 obtain ⟨g1,g2,g3,g4⟩:=ydW (X.at_.get 0 rfl)
 have e:h[g.cr]?=some (.lst ((as.map (·.1)).map .loc)):=X.at_.get 3 rfl
 unfold ybh
 rw [yp]
 show ob (yit false _ (yz 1) wkB [.val (.loc g.H),.no] h) fnK=_
 unfold yit
 simp_all? only [g3]
 simp only [e]
 rw [length_map,length_map]
 exact (congrArg (fun o=>ob o fnK) q1).trans rfl
end
section
variable {h:AH}{w:Int}{g:HC}{bx sp:List Int}{en:List PV}{as as1 as2:List (Nat×Lc)}{xs xs1 xs2:List HD}{a:Nat×Lc}{x x':HD}{own m:List (Nat×Nd)}{c:Lc}{s s':RS}{r:Rw}
theorem yiP {m:List (Nat×Int×Int)}{k:Nat}{u v:Int}{p:Nat×Int×Int}(hp:p∈ycQ m k u v):p=(k,u,v)\/p∈m:=by
 unfold ycQ at hp
 split at hp
 .obtain ⟨q,hq,e⟩:=List.mem_map.mp hp
  split at e
  .exact .inl e.symm
  .exact .inr (e ▸ hq)
 .rcases List.mem_append.mp hp with z|z
  .exact .inr z
  .exact .inl (List.mem_singleton.mp z)
theorem yta (m:List (Nat×Int×Int)) (k:Nat) (u v:Int):(ycQ m k u v).map (·.1)=if k∈m.map (·.1) then m.map (·.1) else m.map (·.1)++[k]:=by
 unfold ycQ
 split
 .rw [map_map]
  refine List.map_congr_left fun p _=>?_
  show (if p.1=k then (k,u,v) else p).1=p.1
  split
  .rename_i e;exact e.symm
  .rfl
 .simp
theorem yqC:∀ (W:Nat) (l:List Nat),l.Nodup->(∀ k∈l,k<W)->l.length<=W
 | 0,l,_,hb=>by
  cases l with
  | nil=>simp
  | cons a _=>exact absurd (hb a mem_cons_self) (by omega)
 | W+1,l,nd,hb=>by
  by_cases e:W∈l
  .have:=yqC W (l.erase W) (nd.erase W) fun k hk=>by
    have h1:=hb k (List.mem_of_mem_erase hk)
    have h2:k≠W:=(List.Nodup.mem_erase_iff nd).mp hk |>.1
    omega
   rw [List.length_erase_of_mem e] at this
   omega
  .have:=yqC W l nd fun k hk=>by
    have h1:=hb k hk
    have:k≠W:=fun z=>e (z ▸ hk)
    omega
   omega
theorem ywK {m:List (Nat×Int×Int)}:stB m sp=false ↔ ∀ p∈m,sp.getD p.1 0=p.2.2:=by
 unfold stB
 simp [List.any_eq_false]
theorem yzW {m:List (Nat×Int×Int)}{k:Nat}{u:Int}(fr:stB m sp=false):stB (ycQ m k u (sp.getD k 0)) sp=false:=by
 rw [ywK] at fr ⊢
 intro p hp
 rcases yiP hp with rfl|hp
 .rfl
 .exact fr p hp
theorem yqD {rws:List Rw}{t:Nat}(er:rws[t]?=some r):(rws.map yO)[t]?=some (yO r):=by rw [getElem?_map,er];rfl
theorem yCs {rws:List Rw}(X:HH h g bx.length bx sp en (as1++a::as2) (xs1++x::xs2) own) (l:as1.length=xs1.length) (h1:1<=bx.length) (hr:x.rows=rws.map yO) (hn:x.nth<x.ds.length) (hs:x.sl=false) (er:rws[x.s.t]?=some r) (ok:OkS x.s) (okr:okR r) (hlk:yqu bx.length x.s r=false) (e:yqq bx.length r x.s=some s') :
  ∃ h' c',yJ [.loc g.H,.int (as1.length:Nat)] h=some (.tup [.str "gone",.int x.s.t],h')/\HH h' g bx.length bx sp en (as1++(a.1,c')::as2) (xs1++{ x with s:=s' }::xs2) own:=by
 have R:=X.foc l
 obtain ⟨h',c',q1,R'⟩:=yqx (q:=qOf bx sp en _ as1.length a.1 x) R (by exact yqA) (by rw [hr];exact yqD er) (by omega) hn hs ok okr hlk e
 exact ⟨h',c',q1,HH.unf (x':={ x with s:=s' }) X.ly l R'⟩
theorem yCt {rws:List Rw}{p q:Str}{k:Nat}(X:HH h g bx.length bx sp en (as1++a::as2) (xs1++x::xs2) own) (l:as1.length=xs1.length) (hbs:sp.length=bx.length) (h1:1<=bx.length) (hr:x.rows=rws.map yO) (hn:x.nth<x.ds.length) (hs:x.sl=false) (F:NF bx.length x.s) (fr:stB x.s.sn sp=false) (er:rws[x.s.t]?=some (.take p q)) (ok:OkS x.s) (okr:okR (.take p q)) (hlk:isN (yqp x.s bx.length q)=true) (ek:x.s.hs.getD (sx q) 0%(bx.length:Int)=(k:Nat)) (hk:k<bx.length) :
  ∃ h',yJ [.loc g.H,.int (as1.length:Nat)] h=some (.tup [.str "seen",.int x.s.t,.int (k:Nat),.int (bx.getD k 0)],h')/\HH h' g bx.length bx sp en (as1++a::as2) (xs1++{ x with s:=⟨x.s.t+1,x.s.hs.set (sx p) (bx.getD k 0),x.s.sd,x.s.dd,ycQ x.s.sn k (bx.getD k 0) (sp.getD k 0)⟩ }::xs2) own:=by
 have R:=X.foc l
 obtain ⟨h',q1,R'⟩:=yqy (q:=qOf bx sp en _ as1.length a.1 x) R (by exact yqA) (by rw [hr];exact yqD er) (by omega) hn hs ok okr hlk (show NF sp.length x.s by rw [hbs];exact F) fr ek hk hbs
 exact ⟨h',q1,HH.unf (x':={ x with s:=_ }) X.ly l R'⟩
def stX (x:HD):Str:=if x.nth=x.ds.length then "ended" else if x.sl=true then "asleep" else "awake"
theorem yCu {rws:List Rw}{rows' L:List PV}{ls:List (Nat×Int)}{d:List Key×List PV}(X:HH h g bx.length bx sp en (as1++a::as2) (xs1++x::xs2) own) (l:as1.length=xs1.length) (hbs:sp.length=bx.length) (h1:1<=bx.length) (hr:x.rows=rws.map yO) (hn:x.nth<x.ds.length) (hs:x.sl=false) (F:NF bx.length x.s) (fr:stB x.s.sn sp=false) (er:rws[x.s.t]?=some .lay) (ok:OkS x.s) (ed:x.s.dd=[d]) (hd:sortI d.1 d.2=some (ls.map yY)) (hb:∀ p∈ls,p.1<bx.length) (hL:sortI (sK x.s.sn) (sA x.s.sn)=some L) (hdu:Due x.ds (x.nth+1) rows') (hl:en.length<1000) (ho:∀ y∈xs1++xs2,y.sl=false) :
  ∃ h' c' e',yJ [.loc g.H,.int (as1.length:Nat)] h=some (.tup [.str "done",.int x.s.t],h')/\HH h' g bx.length (ykB bx ls) (yzS sp ls) (en++[e']) (as1++(a.1,c')::as2) (xs1++{ x with nth:=x.nth+1,bf:=x.s.hs,rows:=rows',s:=S0 x.s.hs }::xs2) own:=by
 have R:=X.foc l
 obtain ⟨h2,c',q1,R'⟩:=yqz (q:=qOf bx sp en _ as1.length a.1 x) R (by exact yqA) (by rw [hr];exact yqD er) (by omega) hn hs ok (show NF sp.length x.s by rw [hbs];exact F) fr ed hd hb hbs hL hdu hl
 have X':=HH.unf (x':={ x with nth:=x.nth+1,bf:=x.s.hs,rows:=rows',s:=S0 x.s.hs }) X.ly l R'
 have q2:=ywJ X' (fun y hy=>by
  rcases List.mem_append.mp hy with z|z
  .exact ho y (mem_append_left _ z)
  .rcases mem_cons.mp z with rfl|z
   .exact hs
   .exact ho y (mem_append_right _ z))
 exact ⟨h2,c',_,q1 h2 q2,X'⟩
theorem yek:∀ {as:List (Nat×Lc)}{xs:List HD}{m:List (Nat×Nd)},CR w as xs m=CR w as xs []++m
 | [],_,_=>by unfold CR;rfl
 | _::_,[],_=>by unfold CR;rfl
 | a::as,x::xs,m=>by
  show HN w a x (CR w as xs m)=HN w a x (CR w as xs [])++m
  rw [yfZ,yfZ (m:=CR w as xs []),yek,append_assoc]
theorem HH.upd {o1 o2:List (Nat×Nd)}{n:Nat}{d:Nd}(d':Nd) (X:HH h g w bx sp en as xs (o1++(n,d)::o2)):HH (h.set n d') g w bx sp en as xs (o1++(n,d')::o2):=by
 refine ⟨?_,X.ly⟩
 have A:=X.at_
 rw [yek (m:=_++_::_),<- append_assoc,<- append_assoc] at A
 rw [yek (m:=_++_::_),<- append_assoc,<- append_assoc]
 exact At.upd d' A
theorem HH.new (d:Nd) (X:HH h g w bx sp en as xs own):HH (h++[d]) g w bx sp en as xs ((h.length,d)::own):=by
 refine ⟨?_,X.ly⟩
 have A:=X.at_
 rw [yek,<- append_assoc] at A
 rw [yek,<- append_assoc]
 exact At.new d A
theorem HH.junk (d:Nd) (X:HH h g w bx sp en as xs own):HH (h++[d]) g w bx sp en as xs own:=⟨At.junk d X.at_,X.ly⟩
theorem HH.get (X:HH h g w bx sp en as xs own) (i:Nat) {n:Nat}{d:Nd}(e:own[i]?=some (n,d)):h[n]?=some d:=by
 have A:=X.at_
 rw [yek,<- append_assoc] at A
 exact A.2 (n,d) (mem_append_right _ (mem_of_getElem? e))
end
section
variable {h:AH}{w:Int}{g:HC}{bx sp:List Int}{en:List PV}{as as1 as2:List (Nat×Lc)}{xs xs1 xs2:List HD}{a:Nat×Lc}{x x':HD}{own m:List (Nat×Nd)}
theorem yus (X:HH h g w bx sp en as xs own):ycM [.loc g.H] h=some (.lst (bx.map .int),h):=by
 obtain ⟨f1,f2,f3,f4⟩:=ydW (X.at_.get 0 rfl)
 unfold ycM
 rw [yp]
 show ob (yK _ [.val (.loc g.H)] h) fnK=_
 simp_all? only [f1,yes (X.at_.get 1 rfl)]
theorem ywL (X:HH h g w bx sp en as xs own):ycX [.loc g.H] h=some (.lst (sp.map .int),h):=by
 obtain ⟨f1,f2,f3,f4⟩:=ydW (X.at_.get 0 rfl)
 unfold ycX
 rw [yp]
 show ob (yK _ [.val (.loc g.H)] h) fnK=_
 simp_all? only [f2,yes (X.at_.get 2 rfl)]
variable (X:HH h g w bx sp en (as1++a::as2) (xs1++x::xs2) own) (l:as1.length=xs1.length)
include X l
theorem ykj:yQ [.loc g.H,.int (as1.length:Nat)] h=some (.loc a.1,h)/\h[a.1]?=some (ydC x.ds w x.nth x.sl x.bf a.2.rn)/\h[g.H]?=some (yqn g.nu g.ma g.cr g.en) :=
 ⟨yfP (q:=qOf bx sp en _ as1.length a.1 x) (X.foc l).rest (by exact yqA),(X.foc l).rest.get 5 rfl,(X.foc l).rest.get 0 rfl⟩
theorem yut:ybR [.loc g.H,.int (as1.length:Nat)] h=some (.int (x.nth:Nat),h):=by
 obtain ⟨q1,q2,q3⟩:=ykj X l
 have k3:=(ydD q2).2.2.1
 unfold ybR
 rw [yp]
 show ob (yK _ [.val (.loc g.H),.val (.int (as1.length:Nat))] h) fnK=_
 simp_all? only [yeJ,yI (m:="hand_at") q3 (by rfl'),q1,k3]
theorem yuu:ybQ [.loc g.H,.int (as1.length:Nat)] h=some (.str (stX x),h):=by
 obtain ⟨q1,q2,q3⟩:=ykj X l
 have st:ybO [.loc a.1] h=some (.str (stX x),h):=ygz (X.foc l).rest
 unfold ybQ
 rw [yp]
 show ob (yK _ [.val (.loc g.H),.val (.int (as1.length:Nat))] h) fnK=_
 simp_all? only [yeJ,yI (m:="hand_at") q3 (by rfl'),q1,yI (m:="state") q2 (by rfl'),st]
theorem yzX:ycN [.loc g.H,.int (as1.length:Nat)] h=some (.lst (x.s.hs.map .int),h):=by
 obtain ⟨q1,q2,q3⟩:=ykj X l
 have k6:=(ydD q2).2.2.2.2.2
 have R:=X.foc l
 have r1:=(yds R.run).1
 unfold ycN
 rw [yp]
 show ob (yK _ [.val (.loc g.H),.val (.int (as1.length:Nat))] h) fnK=_
 simp_all? only [yeJ,yI (m:="hand_at") q3 (by rfl'),q1,k6,r1,yes R.held]
theorem yqE:ybw [.loc g.H,.int (as1.length:Nat)] h=some (.loc h.length,h++[Nd.lst (x.s.hs.map .int)]):=by
 obtain ⟨q1,q2,q3⟩:=ykj X l
 have k6:=(ydD q2).2.2.2.2.2
 have R:=X.foc l
 have r1:=(yds R.run).1
 unfold ybw
 rw [yp]
 show ob (yK _ [.val (.loc g.H),.val (.int (as1.length:Nat))] h) fnK=_
 simp_all? only [yeJ,yI (m:="hand_at") q3 (by rfl'),q1,k6,r1,yes R.held]
theorem yzY {L:List PV}(hL:sortI (sK x.s.sn) (sA x.s.sn)=some L):ybS [.loc g.H,.int (as1.length:Nat)] h=some (.loc h.length,h++[Nd.lst L]):=by
 obtain ⟨q1,q2,q3⟩:=ykj X l
 have k6:=(ydD q2).2.2.2.2.2
 have R:=X.foc l
 have r3:=(yds R.run).2.2.1
 have f2:=ylB R.lg.ob
 have sw:ydP [.loc a.2.lg] h=some (.loc h.length,h++[Nd.lst L]):=by
  unfold ydP
  rw [yp]
  show ob (yK (ygd (ydx _)) [.val (.loc a.2.lg)] h) fnK=_
  rw [ypb,yyx]
  unfold ydx
  symm
  rw [f2,ybZ]
  unfold yjM
  simp only [R.lg.sn,hL]
  rfl
 unfold ybS
 rw [yp]
 show ob (yK _ [.val (.loc g.H),.val (.int (as1.length:Nat))] h) fnK=_
 simp_all? only [yeJ,yI (m:="hand_at") q3 (by rfl'),q1,k6,r3,yI (m:="saw") R.lg.ob (by rfl'),sw]
end
section
variable {h:AH}
structure ytb (h:AH) (x:PV) (zs:List PV) (b:Bool):Prop where
 i1:yeB ycA [x,.ty "int"] h=some (.bl false,h)
 i2:yeB ycA [x,.ty "str"] h=some (.bl false,h)
 i3:yeB ycA [x,.ty "tuple"] h=some (.bl b,h)
 i4:b=false->yeB ycA [x,.ty "list"] h=some (.bl true,h)
 ln:yce [x] h=some (.int zs.length,h)
 ix:∀ (i:Nat) (hi:i<zs.length),ynS x (.int i) h=some (zs[i],h)
theorem yDm (zs:List PV):ytb h (.tup zs) zs true:=⟨rfl,rfl,rfl,(fun e=>by cases e),rfl,fun i hi=>by rw [ypr,ycD (List.getElem?_eq_getElem hi)];rfl⟩
theorem yxj (zs:List PV):ytb h (.lst zs) zs false:=⟨rfl,rfl,rfl,(fun _=>rfl),rfl,fun i hi=>by rw [yps,ycD (List.getElem?_eq_getElem hi)];rfl⟩
theorem yxk {n:Nat}{zs:List PV}(e:h[n]?=some (.lst zs)):ytb h (.loc n) zs false:=by
 refine ⟨?_,?_,?_,fun _=>?_,?_,fun i hi=>?_⟩
 .unfold yeB ynt yba;simp only [e];rfl
 .unfold yeB ynt yba;simp only [e];rfl
 .unfold yeB ynt yba;simp only [e];rfl
 .unfold yeB ynt yba;simp only [e];rfl
 .unfold yce ymh;simp only [e]
 .unfold ynS ycp;simp only [e];rw [ycD (List.getElem?_eq_getElem hi)]
theorem ylH {n:Nat}{i:Int}:ym (n+1) [.int i,.int i] h=some (.bl true,h):=by
 unfold ym
 rw [yp]
 show ob (yn _ _ [.val (.int i),.val (.int i),.no] h) fnK=_
 simp_all? only [show yeB ycA [.int i,.ty "int"] h=some (.bl true,h) from rfl,show yeB ycA [.int i,.ty "bool"] h=some (.bl false,h) from rfl]
theorem ywM {n:Nat}{z:Str}:ym (n+1) [.str z,.str z] h=some (.bl true,h):=by
 unfold ym
 rw [yp]
 show ob (yn _ _ [.val (.str z),.val (.str z),.no] h) fnK=_
 simp_all? only [show yeB ycA [.str z,.ty "int"] h=some (.bl false,h) from rfl,show yeB ycA [.str z,.ty "str"] h=some (.bl true,h) from rfl]
theorem ylI {n:Nat}{x y:PV}{zs:List PV}{b:Bool}(hx:ytb h x zs b) (hy:ytb h y zs b) (hs:zs.length<=1000) (k:∀ z∈zs,ym n [z,z] h=some (.bl true,h)):ym (n+1) [x,y] h=some (.bl true,h):=by
 unfold ym
 rw [yp]
 show ob (yn _ _ [.val x,.val y,.no] h) fnK=_
 have hr:ymf (yc (xCB (yce) (yc (yf 1) (yk))) (yk)) [.val x,.val y,.no] h=some (ygH 0 (zs.length:Int).toNat,h):=ypp (j:=(zs.length:Int)) (by simp_all? only [hy.ln]) (by omega) (by omega)
 have fin:ob (ymf (yc (xCB (yce) (yc (yf 1) (yk))) (yk)) [.val x,.val y,.no] h) (fun xs h1=>ob (yeU (yz 2) (ybn (yfS (yo (yT (ym n) (yc (xOp (ynS) (yf 0) (yf 2)) (yc (xOp (ynS) (yf 1) (yf 2)) (yk)))))) (yK (xC (.bl false))) (yD)) xs [.val x,.val y,.no] h1) fun o h2=>ob (sqK (yK (xC (.bl true))) o h2) fnK)=some (.bl true,h):=by
  rw [hr,ybZ]
  refine yjO (fun i ρ h1=>h1=h/\∃ c,ρ=[.val x,.val y,c]) ⟨rfl,.no,rfl⟩ ?_ ?_
  .rintro i u ρ h1 hu ⟨rfl,c,rfl⟩
   obtain ⟨hi,rfl⟩:=yls hu
   rw [zero_add]
   refine ⟨_,[.val x,.val y,.val (.int i)],h1,rfl,.inl ?_,rfl,_,rfl⟩
   simp_all? only [hx.ix i hi,hy.ix i hi,k _ (getElem_mem hi)]
  .rintro ρ' h' ⟨rfl,c,rfl⟩
   symm
 cases b with
 | true =>
  simp_all? only [hy.i1,hy.i2,hy.i3,hx.i3,hx.ln,hy.ln,ne_eq,not_true_eq_false]
  exact fin
 | false =>
  simp_all? only [hy.i1,hy.i2,hy.i3,hx.i4 rfl,hx.ln,hy.ln,ne_eq,not_true_eq_false]
  exact fin
end
theorem yqF:∀ m:List (Nat×Int×Int),ypv (sK m)=some (m.map fun p=>(p.1:Int))
 | []=>rfl
 | p::m=>by
  show (ypv (sK m)).map ((p.1:Int)::·)=_
  rw [yqF m]
  rfl
def pr2 (p:Nat×Int×Int):Nat×Int:=(p.1,p.2.1)
theorem yfL (m:List (Nat×Int×Int)) (hl:m.length<64):∃ l:List (Nat×Int),sortI (sK m) (sA m)=some (l.map yY)/\l.Perm (m.map pr2):=by
 have ez:(m.map fun p=>(p.1:Int)).zip (sA m)=m.map fun p=>((p.1:Int),PV.int p.2.1):=by
  unfold sA
  rw [List.zip_map']
 have pm:=yet (m.map fun p=>((p.1:Int),PV.int p.2.1))
 refine ⟨(yny (m.map fun p=>((p.1:Int),PV.int p.2.1))).map fun q=>(q.1.toNat,match q.2 with|.int v=>v|_=>0),?_,?_⟩
 .unfold sortI
  simp only [yqF]
  rw [if_pos (by rw [length_map];omega),ez,map_map]
  refine congrArg some (List.map_congr_left fun q hq=>?_)
  obtain ⟨p,_,rfl⟩:=List.mem_map.mp (pm.mem_iff.mp hq)
  show PV.tup [.int (p.1:Int),.int p.2.1]=PV.tup [.int (((p.1:Int).toNat:Nat):Int),.int p.2.1]
  rw [Int.toNat_natCast]
 .have:=pm.map fun q:Int×PV=>(q.1.toNat,match q.2 with|.int v=>v|_=>0)
  rw [map_map] at this
  refine this.trans (List.Perm.of_eq (List.map_congr_left fun p _=>?_))
  show ((p.1:Int).toNat,p.2.1)=(p.1,p.2.1)
  rw [Int.toNat_natCast]
theorem ytc {l l':List (Nat×Int)}(e:l.Perm l'):(l.map (·.1)).Nodup->∀ bx,ykB bx l=ykB bx l':=by
 induction e with
 | nil=>exact fun _ _=>rfl
 | cons x _ ih=>exact fun nd bx=>ih (List.nodup_cons.mp nd).2 _
 | swap x y l =>
  intro nd bx
  have ne:y.1≠x.1:=fun z=>(List.nodup_cons.mp nd).1 (by show y.1∈x.1::_;rw [z];exact mem_cons_self)
  show ykB ((bx.set y.1 y.2).set x.1 x.2) l=ykB ((bx.set x.1 x.2).set y.1 y.2) l
  rw [List.set_comm _ _ ne]
 | trans p1 _ ih1 ih2=>exact fun nd bx=>(ih1 nd bx).trans (ih2 ((p1.map _).nodup_iff.mp nd) bx)
theorem own_one {d:List Key×List PV}{j:Key}:ywu [d] j 1=(yer d.1 d.2 j).getD .non:=by
 show (match yer d.1 d.2 j with|some x=>x|none=>PV.non)=_
 cases yer d.1 d.2 j<;>rfl
theorem yuv {f:Nat×Int×Int->PV}{k:Nat}:∀ {m:List (Nat×Int×Int)},k∉m.map (·.1)->yer (sK m) (m.map f) (.inl (k:Int))=none
 | [],_=>rfl
 | q::m,hp=>by
  show (if (Sum.inl (q.1:Int):Key)=.inl (k:Int) then some (f q) else yer (sK m) (m.map f) (.inl (k:Int)))=_
  have:q.1≠k:=fun z=>hp (by rw [<- z];exact mem_cons_self)
  rw [if_neg (fun z=>this (by have:=Sum.inl.inj z;omega))]
  exact yuv fun z=>hp (mem_cons_of_mem _ z)
def LK:List Key:=SL.map .inr
theorem ywN {hs:List Int}(h8:hs.length=8):∃ a b c d e f g i,hs=[a,b,c,d,e,f,g,i]:=by
 match hs,h8 with
 | [a,b,c,d,e,f,g,i],_=>exact ⟨a,b,c,d,e,f,g,i,rfl⟩
theorem slot_get {hs:List Int}{r:Str}(h8:hs.length=8) (hr:r∈SL):yer LK (hs.map .int) (.inr r)=some (.int (hs.getD (sx r) 0)):=by
 obtain ⟨a,b,c,d,e,f,g,i,rfl⟩:=ywN h8
 simp only [SL,mem_cons,not_mem_nil,or_false] at hr
 rcases hr with rfl|rfl|rfl|rfl|rfl|rfl|rfl|rfl
 all_goals kernel_rfl!
theorem ytd {hs:List Int}{r:Str}{v:Int}(h8:hs.length=8) (hr:r∈SL):ycq LK (hs.map .int) (.inr r) (.int v)=(LK,(hs.set (sx r) v).map .int):=by
 obtain ⟨a,b,c,d,e,f,g,i,rfl⟩:=ywN h8
 simp only [SL,mem_cons,not_mem_nil,or_false] at hr
 rcases hr with rfl|rfl|rfl|rfl|rfl|rfl|rfl|rfl
 all_goals kernel_rfl!
theorem yel {r:Str}(h:ycR r):r∈SL:=by
 obtain ⟨c,h1,h2,rfl⟩:=h
 have:c=97\/c=98\/c=99\/c=100\/c=101\/c=102\/c=103\/c=104:=by omega
 rcases this with rfl|rfl|rfl|rfl|rfl|rfl|rfl|rfl
 all_goals rfl'
section
variable {h:AH}
theorem ylJ {w:Str}{x y:Int}(hw:ydk w) (hx:0<=x/\x<B64):ycu [.str w,.int x,.int y] h=some (.int (rk w x y),h):=by
 have hm:MulOk x y:=.inl ⟨by have:=hx.1;omega,hx.2⟩
 have e2:∀ h,yvw (.int 2) (.int 64) h=some (.int 18446744073709551616,h):=fun h=>by kernel_rfl!
 unfold ycu
 rw [yp]
 show ob (yn _ _ [.val (.str w),.val (.int x),.val (.int y)] h) fnK=_
 unfold rk
 rcases hw with rfl|rfl|rfl|rfl|rfl
 .simp_all? only [e2,yfp,↓reduceIte]
 .simp_all? only [e2,yfo,↓reduceIte]
 .simp_all? only [e2,yfq,yeK,↓reduceIte,if_pos hm]
 .simp_all? only [yfW,yfr,yfs,↓reduceIte]
 .simp_all? only [yfX,yft,yfu,yfY,↓reduceIte]
end
section
variable {h:AH}{ρ:PSt}
def dgK (d k:PV) (h:AH):Option (PV×AH):=match ykz d h,keyOf k with|some (ks,xs),some j=>(match yer ks xs j with|some x=>some (x,h)|none=>none)|_,_=>none
theorem yzZ {ed ek:XE}:ydw ed ek ρ h=ob (ed ρ h) fun d h1=>ob (ek ρ h1) fun k h2=>dgK d k h2:=id rfl
def dpK (ρ:PSt) (v d k:PV) (h:AH):Option (Out×AH):=match d,keyOf k with
 | .loc n,some j=>(match h[n]? with|some (.dct ks xs)=>if ks.length<1000 then some (.nx ρ,h.set n (.dct (ycq ks xs j v).1 (ycq ks xs j v).2)) else none|_=>none)
 | _,_=>none
theorem yAa {ed ek ev:XE}:yeC ed ek ev ρ h=ob (ev ρ h) fun v h1=>ob (ed ρ h1) fun d h2=>ob (ek ρ h2) fun k h3=>dpK ρ v d k h3:=id rfl
def diK (k d:PV) (h:AH):Option (PV×AH):=match ykz d h,keyOf k with|some (ks,xs),some j=>some (.bl (!(yer ks xs j).isSome),h)|_,_=>none
theorem yDn {ek ed:XE}:ypl true ek ed ρ h=ob (ek ρ h) fun k h1=>ob (ed ρ h1) fun d h2=>diK k d h2:=by
 unfold ypl diK
 rfl
def d2K (d k y:PV) (h:AH):Option (PV×AH):=match ykz d h,keyOf k with|some (ks,xs),some j=>some ((yer ks xs j).getD y,h)|_,_=>none
theorem yDo {ed ek ex:XE}:ymn ed ek ex ρ h=ob (ed ρ h) fun d h1=>if (ykz d h1).isSome=true then ob (ek ρ h1) fun k h2=>ob (ex ρ h2) fun y h3=>d2K d k y h3 else none:=id rfl
variable {n:Nat}{hs:List Int}{m:List (Nat×Int×Int)}
theorem ywO {r:Str}(e:h[n]?=some (.dct LK (hs.map .int))) (h8:hs.length=8) (hr:r∈SL):dgK (.loc n) (.str r) h=some (.int (hs.getD (sx r) 0),h):=by
 unfold dgK ykz
 simp only [e,keyOf,slot_get h8 hr]
theorem yAx {r:Str}{v:Int}(e:h[n]?=some (.dct LK (hs.map .int))) (h8:hs.length=8) (hr:r∈SL):dpK ρ (.int v) (.loc n) (.str r) h=some (.nx ρ,h.set n (.dct LK ((hs.set (sx r) v).map .int))):=by
 unfold dpK
 simp only [e,keyOf,ytd h8 hr]
 rfl
theorem yDp {k:Nat}{v b:Int}(e:h[n]?=some (.dct (sK m) (sA m))) (hl:m.length<1000):dpK ρ (.int v) (.loc n) (.int (k:Nat)) h=some (.nx ρ,h.set n (.dct (sK (ycQ m k v b)) (sA (ycQ m k v b)))):=by
 have:=ysU (f:=fun p=>PV.int p.2.1) (k:=k) (a:=v) (b:=b) (m:=m) (v:=.int v) rfl
 unfold dpK
 simp only [e,keyOf]
 rw [if_pos (by unfold sK;rw [length_map];omega)]
 unfold sA at this ⊢
 rw [this]
theorem yAy (e:h[n]?=some (.dct (sK m) (sA m))):ykz (.loc n) h=some (sK m,sA m):=by
 unfold ykz
 simp only [e]
theorem yDq {k:Nat}(e:h[n]?=some (.dct (sK m) (sA m))):diK (.int (k:Nat)) (.loc n) h=some (.bl (!(yer (sK m) (sA m) (.inl (k:Int))).isSome),h):=by
 unfold diK
 simp only [yAy e,keyOf]
theorem yDr {k:Nat}{y:PV}(e:h[n]?=some (.dct (sK m) (sA m))):d2K (.loc n) (.int (k:Nat)) y h=some ((yer (sK m) (sA m) (.inl (k:Int))).getD y,h):=by
 unfold d2K
 simp only [yAy e,keyOf]
end
structure LB where
 b:Nat
 s:Nat
 w:Nat
 v:Nat
noncomputable def LO (q:LB) (bx hs:List Int) (wr sn:List (Nat×Int×Int)):List (Nat×Nd):=[(q.b,.lst (bx.map .int)),(q.s,.dct LK (hs.map .int)),(q.w,.dct (sK wr) (sA wr)),(q.v,.dct (sK sn) (sA sn))]
abbrev lsV (q:LB):PV:=.tup [.loc q.s,.loc q.w,.loc q.v]
section
variable {h:AH}{w:Int}{g:HC}{bx bx' sp hs:List Int}{en:List PV}{as:List (Nat×Lc)}{xs:List HD}{q:LB}{wr sn:List (Nat×Int×Int)}{n:Nat}
variable (X:HH h g w bx' sp en as xs (LO q bx hs wr sn)) (h8:hs.length=8)
include X h8
theorem yte {r:Str}{k:Int}(hr:r∈SL):∃ h',yW [yO (.let_ r k),.int (n:Nat),.loc q.b,lsV q] h=some (.tup [.str "gone",.int (n:Nat)],h')/\HH h' g w bx' sp en as xs (LO q bx (hs.set (sx r) k) wr sn):=by
 refine ⟨_,?_,X.upd (o1:=[_]) _⟩
 have i0:∀ h,ybD (yO (.let_ r k)) (.int 0) h=some (.str "let",h):=fun _=>rfl
 have i1:∀ h,ybD (yO (.let_ r k)) (.int 1) h=some (.str r,h):=fun _=>rfl
 have i2:∀ h,ybD (yO (.let_ r k)) (.int 2) h=some (.int k,h):=fun _=>rfl
 unfold yW
 rw [yp]
 show ob (yn _ _ [.val (yO (.let_ r k)),.val (.int (n:Nat)),.val (.loc q.b),.val (lsV q),.no,.no,.no,.no] h) fnK=_
 simp_all? only [i0,i1,i2,yAa,yAx (X.get 1 rfl) h8 hr]
theorem ylK {v r a b:Str}(hv:ydk v) (hr:r∈SL) (ha:a∈SL) (hb:b∈SL) (hV:∀ v∈hs,0<=v/\v<B64):∃ h',yW [yO (.reckon v r a b),.int (n:Nat),.loc q.b,lsV q] h=some (.tup [.str "gone",.int (n:Nat)],h')/\HH h' g w bx' sp en as xs (LO q bx (hs.set (sx r) (rk v (hs.getD (sx a) 0) (hs.getD (sx b) 0))) wr sn):=by
 refine ⟨_,?_,X.upd (o1:=[_]) _⟩
 have i0:∀ h,ybD (yO (.reckon v r a b)) (.int 0) h=some (.str v,h):=fun _=>rfl
 have i1:∀ h,ybD (yO (.reckon v r a b)) (.int 1) h=some (.str r,h):=fun _=>rfl
 have i2:∀ h,ybD (yO (.reckon v r a b)) (.int 2) h=some (.str a,h):=fun _=>rfl
 have i3:∀ h,ybD (yO (.reckon v r a b)) (.int 3) h=some (.str b,h):=fun _=>rfl
 obtain ⟨n1,n2,n3,_⟩:=ylx hv
 unfold yW
 rw [yp]
 show ob (yn _ _ [.val (yO (.reckon v r a b)),.val (.int (n:Nat)),.val (.loc q.b),.val (lsV q),.no,.no,.no,.no] h) fnK=_
 simp_all? only [i0,i1,i2,i3,n1,n2,n3,yzZ,yAa,ywO (X.get 1 rfl) h8 ha,ywO (X.get 1 rfl) h8 hb,ylJ hv (getD_in hV (sx a)),yAx (X.get 1 rfl) h8 hr]
theorem ytf {p r:Str}{k:Nat}(hp:p∈SL) (hr:r∈SL) (h1:1<=bx.length) (ek:hs.getD (sx p) 0%(bx.length:Int)=(k:Nat)) (hl:wr.length<1000):∃ h',yW [yO (.put p r),.int (n:Nat),.loc q.b,lsV q] h=some (.tup [.str "gone",.int (n:Nat)],h')/\HH h' g w bx' sp en as xs (LO q bx hs (ycQ wr k (hs.getD (sx r) 0) 0) sn):=by
 refine ⟨_,?_,X.upd (o1:=[_,_]) _⟩
 have i0:∀ h,ybD (yO (.put p r)) (.int 0) h=some (.str "put",h):=fun _=>rfl
 have i1:∀ h,ybD (yO (.put p r)) (.int 1) h=some (.str p,h):=fun _=>rfl
 have i2:∀ h,ybD (yO (.put p r)) (.int 2) h=some (.str r,h):=fun _=>rfl
 unfold yW
 rw [yp]
 show ob (yn _ _ [.val (yO (.put p r)),.val (.int (n:Nat)),.val (.loc q.b),.val (lsV q),.no,.no,.no,.no] h) fnK=_
 simp_all? only [i0,i1,i2,yka,yzZ,yAa,ywO (X.get 1 rfl) h8 hp,ywO (X.get 1 rfl) h8 hr,yir (X.get 0 rfl),length_map,if_pos (show (0:Int)<bx.length by omega),ek,yDp (b:=0) (X.get 2 rfl) hl]
theorem ytg {r p:Str}{k:Nat}{v:Int}(hr:r∈SL) (hp:p∈SL) (h1:1<=bx.length) (ek:hs.getD (sx p) 0%(bx.length:Int)=(k:Nat)) (hk:k<bx.length) (ev:yer (sK wr) (sA wr) (.inl (k:Int))=some (.int v)):∃ h',yW [yO (.take r p),.int (n:Nat),.loc q.b,lsV q] h=some (.tup [.str "gone",.int (n:Nat)],h')/\HH h' g w bx' sp en as xs (LO q bx (hs.set (sx r) v) wr sn):=by
 have X1:=X.upd (o1:=[_]) (.dct LK ((hs.set (sx r) v).map .int))
 refine ⟨_,?_,X1⟩
 have i0:∀ h,ybD (yO (.take r p)) (.int 0) h=some (.str "take",h):=fun _=>rfl
 have i1:∀ h,ybD (yO (.take r p)) (.int 1) h=some (.str r,h):=fun _=>rfl
 have i2:∀ h,ybD (yO (.take r p)) (.int 2) h=some (.str p,h):=fun _=>rfl
 unfold yW
 rw [yp]
 show ob (yn _ _ [.val (yO (.take r p)),.val (.int (n:Nat)),.val (.loc q.b),.val (lsV q),.no,.no,.no,.no] h) fnK=_
 simp_all? only [i0,i1,i2,yfN,yfO,yzZ,yAa,yDn,yDo,ywO (X.get 1 rfl) h8 hp,yir (X.get 0 rfl),length_map,if_pos (show (0:Int)<bx.length by omega),ek,ydc (X.get 0 rfl) hk,yAy (X.get 2 rfl),Option.isSome_some,yDr (X.get 2 rfl),ev,Option.getD_some,yAx (X.get 1 rfl) h8 hr,yDq (X1.get 2 rfl),Bool.not_true]
theorem yqG {r p:Str}{k:Nat}{c:Int}(hr:r∈SL) (hp:p∈SL) (h1:1<=bx.length) (ek:hs.getD (sx p) 0%(bx.length:Int)=(k:Nat)) (hk:k<bx.length) (ev:yer (sK wr) (sA wr) (.inl (k:Int))=none) (hl:sn.length<1000):∃ h',yW [yO (.take r p),.int (n:Nat),.loc q.b,lsV q] h=some (.tup [.str "seen",.int (n:Nat),.int (k:Nat),.int (bx.getD k 0)],h')/\HH h' g w bx' sp en as xs (LO q bx (hs.set (sx r) (bx.getD k 0)) wr (ycQ sn k (bx.getD k 0) c)):=by
 have X1:=X.upd (o1:=[_]) (.dct LK ((hs.set (sx r) (bx.getD k 0)).map .int))
 have X2:=X1.upd (o1:=[_,_,_]) (.dct (sK (ycQ sn k (bx.getD k 0) c)) (sA (ycQ sn k (bx.getD k 0) c)))
 refine ⟨_,?_,X2⟩
 have i0:∀ h,ybD (yO (.take r p)) (.int 0) h=some (.str "take",h):=fun _=>rfl
 have i1:∀ h,ybD (yO (.take r p)) (.int 1) h=some (.str r,h):=fun _=>rfl
 have i2:∀ h,ybD (yO (.take r p)) (.int 2) h=some (.str p,h):=fun _=>rfl
 unfold yW
 rw [yp]
 show ob (yn _ _ [.val (yO (.take r p)),.val (.int (n:Nat)),.val (.loc q.b),.val (lsV q),.no,.no,.no,.no] h) fnK=_
 simp_all? only [i0,i1,i2,yfN,yfO,yzZ,yAa,yDn,yDo,ywO (X.get 1 rfl) h8 hp,yir (X.get 0 rfl),length_map,if_pos (show (0:Int)<bx.length by omega),ek,ydc (X.get 0 rfl) hk,yAy (X.get 2 rfl),Option.isSome_some,yDr (X.get 2 rfl),ev,Option.getD_none,Option.isSome_none,yAx (X.get 1 rfl) h8 hr,yDq (X1.get 2 rfl),Bool.not_false,yDp (b:=c) (X1.get 3 rfl) hl,ydc (X1.get 0 rfl) hk,ydc (X2.get 0 rfl) hk]
end
structure LI (W:Nat) (bx sp hs:List Int) (wr sn:List (Nat×Int×Int)):Prop where
 h8:hs.length=8
 hv:∀ v∈hs,0<=v/\v<B64
 wd:(wr.map (·.1)).Nodup
 wb:∀ p∈wr,p.1<W
 wv:∀ p∈wr,0<=p.2.1/\p.2.1<B64
 sd:(sn.map (·.1)).Nodup
 sb:∀ p∈sn,p.1<W
 fr:stB sn sp=false
 w16:W<=16
 bl:bx.length=W
 sl:sp.length=W
 w1:1<=W
 bv:∀ v∈bx,0<=v/\v<B64
theorem yeR {W:Nat}{m:List (Nat×Int×Int)}(nd:(m.map (·.1)).Nodup) (hb:∀ p∈m,p.1<W):m.length<=W:=by
 have:=yqC W _ nd fun k hk=>by
  obtain ⟨p,hp,rfl⟩:=List.mem_map.mp hk
  exact hb p hp
 rw [length_map] at this
 exact this
theorem yuw {m:List (Nat×Int×Int)}{k:Nat}{u v:Int}(nd:(m.map (·.1)).Nodup):((ycQ m k u v).map (·.1)).Nodup:=by
 rw [yta]
 split
 .exact nd
 .rename_i e
  rw [List.nodup_append]
  exact ⟨nd,by simp,fun x hx y hy z=>by
   rw [List.mem_singleton.mp hy] at z
   exact e (z ▸ hx)⟩
section
variable {W:Nat}{bx sp hs:List Int}{wr sn:List (Nat×Int×Int)}
theorem yAb {i:Nat}{v:Int}(hv:∀ v∈hs,0<=v/\v<B64) (h:0<=v/\v<B64):∀ u∈hs.set i v,0<=u/\u<B64:=fun u hu=>by
 rcases List.mem_or_eq_of_mem_set hu with z|z
 .exact hv u z
 .rw [z];exact h
theorem LI.hold (I:LI W bx sp hs wr sn) {i:Nat}{v:Int}(h:0<=v/\v<B64):LI W bx sp (hs.set i v) wr sn:=⟨by rw [length_set];exact I.h8,yAb I.hv h,I.wd,I.wb,I.wv,I.sd,I.sb,I.fr,I.w16,I.bl,I.sl,I.w1,I.bv⟩
theorem LI.put (I:LI W bx sp hs wr sn) {k:Nat}{v:Int}(hk:k<W) (h:0<=v/\v<B64):LI W bx sp hs (ycQ wr k v 0) sn:=⟨I.h8,I.hv,yuw I.wd,fun p hp=>by
 rcases yiP hp with rfl|hp
 .exact hk
 .exact I.wb p hp,fun p hp=>by
 rcases yiP hp with rfl|hp
 .exact h
 .exact I.wv p hp,I.sd,I.sb,I.fr,I.w16,I.bl,I.sl,I.w1,I.bv⟩
theorem LI.see (I:LI W bx sp hs wr sn) {k:Nat}{v:Int}(hk:k<W):LI W bx sp hs wr (ycQ sn k v (sp.getD k 0)):=⟨I.h8,I.hv,I.wd,I.wb,I.wv,yuw I.sd,fun p hp=>by
 rcases yiP hp with rfl|hp
 .exact hk
 .exact I.sb p hp,yzW I.fr,I.w16,I.bl,I.sl,I.w1,I.bv⟩
def sOf (n:Nat) (hs:List Int) (wr sn:List (Nat×Int×Int)):RS:=⟨n,hs,[],[(sK wr,sA wr)],sn⟩
theorem LI.ok (I:LI W bx sp hs wr sn) (n:Nat):OkS (sOf n hs wr sn):=⟨I.h8,rfl,I.hv,fun d hd=>by
 rw [List.mem_singleton.mp hd]
 show (sK wr).length<400
 unfold sK
 rw [length_map]
 have:=yeR I.wd I.wb
 have:=I.w16
 omega⟩
theorem LI.nf (I:LI W bx sp hs wr sn) (n:Nat):NF W (sOf n hs wr sn):=⟨I.sd,I.sb,by have:=yeR I.sd I.sb;have:=I.w16;show sn.length<=900;omega⟩
def ydH:PV->Prop|.int _=>True|.str _=>True|_=>False
theorem ywP (W:Nat) (h1:1<=W) (v:Int):∃ k:Nat,v%(W:Int)=(k:Nat)/\k<W:=⟨(v%(W:Int)).toNat,by have:=Int.emod_nonneg v (show (W:Int)≠0 by omega);omega,by have:=Int.emod_lt_of_pos v (show (0:Int)<W by omega);have:=Int.emod_nonneg v (show (W:Int)≠0 by omega);omega⟩
variable {h:AH}{g:HC}{en:List PV}{as2:List (Nat×Lc)}{xs2:List HD}{a:Nat×Lc}{x:HD}{q:LB}{n:Nat}
theorem ywQ {t:T}{rws:List Rw}(X:HH h g bx.length bx sp en (a::as2) (x::xs2) (LO q bx hs wr sn)) (I:LI bx.length bx sp hs wr sn) (gt:gdT t) (es:x.s=sOf n hs wr sn) (er:rws[n]?=some (rwT t)) (hr:x.rows=rws.map yO) (hn:x.nth<x.ds.length) (hs0:x.sl=false) :
  ∃ due h1 h2 hs' wr' sn' c',yW [yO (rwT t),.int (n:Nat),.loc q.b,lsV q] h=some (.tup due,h1)/\yJ [.loc g.H,.int ((0:Nat):Int)] h1=some (.tup due,h2)/\h1[g.H]?=some (yqn g.nu g.ma g.cr g.en)/\(∀ z∈due,ydH z)/\due.length<=4 /\
   HH h2 g bx.length bx sp en ((a.1,c')::as2) ({ x with s:=sOf (n+1) hs' wr' sn' }::xs2) (LO q bx hs' wr' sn')/\LI bx.length bx sp hs' wr' sn':=by
 have w1:=I.w1
 have ok:=I.ok n
 rw [<- es] at ok
 have er':∀ r,rwT t=r->rws[x.s.t]?=some r:=fun r e=>by rw [es,<- e];exact er
 have fl2:∀ (z:Str) (i:Int),∀ y∈[PV.str z,.int i],ydH y:=fun z i y hy=>by
  rcases mem_cons.mp hy with rfl|hy
  .trivial
  .rw [List.mem_singleton.mp hy];trivial
 have gone:∀ {h1:AH}{hs':List Int}{wr':List (Nat×Int×Int)}{r:Rw},rwT t=r->HH h1 g bx.length bx sp en ([]++a::as2) ([]++x::xs2) (LO q bx hs' wr' sn)->okR r->yqu bx.length x.s r=false->yqq bx.length r x.s=some (sOf (n+1) hs' wr' sn)->∃ h2 c',yJ [.loc g.H,.int ((0:Nat):Int)] h1=some (.tup [.str "gone",.int (n:Nat)],h2)/\HH h2 g bx.length bx sp en ((a.1,c')::as2) ({ x with s:=sOf (n+1) hs' wr' sn }::xs2) (LO q bx hs' wr' sn):=fun {h1 hs' wr' r} e X1 okr hlk st=>by
  obtain ⟨h2,c',q1,X2⟩:=yCs X1 rfl w1 hr hn hs0 (er' r e) ok okr hlk st
  rw [es] at q1
  exact ⟨h2,c',q1,X2⟩
 cases t with
 | let_ r k =>
  have hr':=yel gt.1
  obtain ⟨h1,q1,X1⟩:=yte (n:=n) (k:=k) X I.h8 hr'
  obtain ⟨h2,c',q2,X2⟩:=gone rfl X1 ⟨hr',gt.2.1,gt.2.2⟩ rfl (by rw [es];rfl)
  exact ⟨_,h1,h2,_,_,_,c',q1,q2,X1.at_.get 0 rfl,fl2 _ _,by simp,X2,I.hold gt.2⟩
 | reckon v r s u =>
  have k1:=yel gt.2.1
  have k2:=yel gt.2.2.1
  have k3:=yel gt.2.2.2
  obtain ⟨h1,q1,X1⟩:=ylK (n:=n) X I.h8 gt.1 k1 k2 k3 I.hv
  obtain ⟨h2,c',q2,X2⟩:=gone rfl X1 ⟨gt.1,k1,k2,k3⟩ rfl (by rw [es];rfl)
  exact ⟨_,h1,h2,_,_,_,c',q1,q2,X1.at_.get 0 rfl,fl2 _ _,by simp,X2,I.hold yCr⟩
 | put p r =>
  have k1:=yel gt.1
  have k2:=yel gt.2
  obtain ⟨k,ek,hk⟩:=ywP bx.length w1 (hs.getD (sx p) 0)
  have wl:=yeR I.wd I.wb
  have:=I.w16
  obtain ⟨h1,q1,X1⟩:=ytf (n:=n) X I.h8 k1 k2 w1 ek (by omega)
  obtain ⟨h2,c',q2,X2⟩:=gone rfl X1 ⟨k1,k2⟩ rfl (by
   rw [es]
   show some (RS.mk (n+1) hs [] [ycq (sK wr) (sA wr) (.inl (hs.getD (sx p) 0%(bx.length:Int))) (.int (hs.getD (sx r) 0))] sn)=_
   rw [ek,show sA wr=wr.map (fun p=>PV.int p.2.1) from rfl,ysU (f:=fun p=>PV.int p.2.1) (a:=hs.getD (sx r) 0) (b:=0) rfl]
   rfl)
  exact ⟨_,h1,h2,_,_,_,c',q1,q2,X1.at_.get 0 rfl,fl2 _ _,by simp,X2,I.put hk (getD_in I.hv _)⟩
 | take r p =>
  have k1:=yel gt.1
  have k2:=yel gt.2
  obtain ⟨k,ek,hk⟩:=ywP bx.length w1 (hs.getD (sx p) 0)
  have eo:yqp x.s bx.length p=(yer (sK wr) (sA wr) (.inl (k:Int))).getD .non:=by
   rw [es]
   show ywu [(sK wr,sA wr)] (.inl (hs.getD (sx p) 0%(bx.length:Int))) 1=_
   rw [ek,own_one]
  have sl:=yeR I.sd I.sb
  have:=I.w16
  by_cases hm:k∈wr.map (·.1)
  .obtain ⟨u,hu,rfl⟩:=List.mem_map.mp hm
   have ev:yer (sK wr) (sA wr) (.inl (u.1:Int))=some (.int u.2.1):=ywF (f:=fun p=>PV.int p.2.1) I.wd hu
   rw [ev] at eo
   obtain ⟨h1,q1,X1⟩:=ytg (n:=n) X I.h8 k1 k2 w1 ek hk ev
   obtain ⟨h2,c',q2,X2⟩:=gone rfl X1 ⟨k1,k2⟩ (by show isN (yqp x.s bx.length p)=false;rw [eo];rfl) (by
    show (match yqp x.s bx.length p with|.int v=>some (RS.mk (x.s.t+1) (x.s.hs.set (sx r) v) x.s.sd x.s.dd x.s.sn)|_=>none)=_
    rw [eo,es]
    rfl)
   exact ⟨_,h1,h2,_,_,_,c',q1,q2,X1.at_.get 0 rfl,fl2 _ _,by simp,X2,I.hold (I.wv u hu)⟩
  .have ev:yer (sK wr) (sA wr) (.inl (k:Int))=none:=yuv hm
   rw [ev] at eo
   obtain ⟨h1,q1,X1⟩:=yqG (n:=n) (c:=sp.getD k 0) X I.h8 k1 k2 w1 ek hk ev (by omega)
   have F:=I.nf n
   rw [<- es] at F
   obtain ⟨h2,q2,X2⟩:=yCt (as1:=[]) (xs1:=[]) X1 rfl I.sl w1 hr hn hs0 F (by rw [es];exact I.fr) (er' _ rfl) ok ⟨k1,k2⟩ (by rw [eo];rfl) (by rw [es];exact ek) hk
   rw [es] at q2 X2
   refine ⟨_,h1,h2,_,_,_,a.2,q1,q2,X1.at_.get 0 rfl,fun z hz=>?_,by simp,X2,(I.hold (getD_in I.bv k)).see hk⟩
   simp only [mem_cons,not_mem_nil,or_false] at hz
   rcases hz with rfl|rfl|rfl|rfl<;>trivial
end
section
variable {h:AH}{w:Int}{g:HC}{bx sp:List Int}{en:List PV}{as2:List (Nat×Lc)}{xs2:List HD}{a:Nat×Lc}{x:HD}{own:List (Nat×Nd)}{l:List (Nat×Int)}{o:Int}{wh:Nat}
theorem yth {n:Nat}{z:PV}(hz:ydH z):ym (n+1) [z,z] h=some (.bl true,h):=by
 cases z with
 | int i=>exact ylH
 | str s=>exact ywM
 | _=>exact hz.elim
theorem yex {n:Nat}{u v:PV}{hs:List Int}(hu:ytb h u (hs.map .int) false) (hv:ytb h v (hs.map .int) false) (hl:hs.length<=1000):ym (n+2) [u,v] h=some (.bl true,h) :=
 ylI hu hv (by rw [length_map];exact hl) fun z hz=>by
  obtain ⟨i,_,rfl⟩:=List.mem_map.mp hz
  exact ylH
theorem yhc {n:Nat}{zs:List PV}(hl:zs.length<=4) (hf:∀ z∈zs,ydH z):ym (n+2) [.tup zs,.tup zs] h=some (.bl true,h):=ylI (yDm zs) (yDm zs) (by omega) fun z hz=>yth (hf z hz)
theorem ykk {n:Nat}{u v:PV}{l:List (Nat×Int)}(hu:ytb h u (l.map yY) false) (hv:ytb h v (l.map yY) false) (hl:l.length<=1000):ym (n+3) [u,v] h=some (.bl true,h) :=
 ylI hu hv (by rw [length_map];exact hl) fun z hz=>by
  obtain ⟨p,_,rfl⟩:=List.mem_map.mp hz
  exact yhc (by simp) fun z hz=>by
   rcases mem_cons.mp hz with rfl|hz
   .trivial
   .rw [List.mem_singleton.mp hz];trivial
theorem ymV {d d':Nd}:(h++[d]).set h.length d'=h++[d']:=by
 rw [List.set_append_right _ _ (Nat.le_refl _),sub_self]
 rfl
theorem ydl {d:Nd}:(h++[d])[h.length]?=some d:=by simp
theorem ywR {k:Nat}{c d e:PVar}(X:HH h g w bx sp en ([]++a::as2) ([]++x::xs2) own) (hL:sortI (sK x.s.sn) (sA x.s.sn)=some (l.map yY)) (hl:l.length<=1000) (h8:x.s.hs.length=8) (hw:x.nth=wh) (hst:atI [PV.str "awake",.str "ended"] (wh:Nat)=some (.str (stX x))) :
  ∃ h' d' e',spB [.val (.loc g.H),.val (.lst (x.s.hs.map .int)),.val (.lst (l.map yY)),.val (.int (wh:Nat)),.val (.int o),.val (.int (k:Nat)),d,e] h=some (.nx [.val (.loc g.H),.val (.lst (x.s.hs.map .int)),.val (.lst (l.map yY)),.val (.int (wh:Nat)),.val (.int o),.val (.int (k:Nat)),d',e'],h')/\HH h' g w bx sp en ([]++a::as2) ([]++x::xs2) own:=by
 have gH:=(ykj X rfl).2.2
 have s0:ybw [.loc g.H,.int 0] h=some (.loc h.length,h++[Nd.lst (x.s.hs.map .int)]):=by
  have:=yqE X rfl
  rwa [show ((([]:List (Nat×Lc)).length:Nat):Int)=0 from rfl] at this
 have s1:ybS [.loc g.H,.int 0] h=some (.loc h.length,h++[Nd.lst (l.map yY)]):=by
  have:=yzY X rfl hL
  rwa [show ((([]:List (Nat×Lc)).length:Nat):Int)=0 from rfl] at this
 have s2:ybR [.loc g.H,.int 0] h=some (.int (wh:Nat),h):=by
  have:=yut X rfl
  rwa [show ((([]:List (Nat×Lc)).length:Nat):Int)=0 from rfl,hw] at this
 have s3:ybQ [.loc g.H,.int 0] h=some (.str (stX x),h):=by
  have:=yuu X rfl
  rwa [show ((([]:List (Nat×Lc)).length:Nat):Int)=0 from rfl] at this
 have a0:ym 10 [.loc h.length,.lst (x.s.hs.map .int)] (h++[Nd.lst (x.s.hs.map .int)])=some (.bl true,h++[Nd.lst (x.s.hs.map .int)]):=yex (yxk ydl) (yxj _) (by omega)
 have a1:ym 10 [.loc h.length,.lst (l.map yY)] (h++[Nd.lst (l.map yY)])=some (.bl true,h++[Nd.lst (l.map yY)]):=ykk (yxk ydl) (yxj _) hl
 obtain ⟨r,er,hr⟩:=ywP 4 (by decide) ((k:Int)+o)
 have er:((k:Int)+o)%4=(r:Nat):=er
 have:r=0\/r=1\/r=2\/r=3:=by omega
 have q0:∀ i j:Nat,i≠j->((i:Int)=(j:Int))=False:=fun i j e=>eq_false (by omega)
 rcases this with rfl|rfl|rfl|rfl
 .refine ⟨_,.val (.int 0),.val (.loc h.length),?_,X.junk (.lst ((x.s.hs.set 0 99).map .int))⟩
  have st:ygg (yf 7) (xC (.int 0)) (xC (.int 99)) [.val (.loc g.H),.val (.lst (x.s.hs.map .int)),.val (.lst (l.map yY)),.val (.int (wh:Nat)),.val (.int o),.val (.int (k:Nat)),.val (.int 0),.val (.loc h.length)] (h++[Nd.lst (x.s.hs.map .int)])=some (.nx [.val (.loc g.H),.val (.lst (x.s.hs.map .int)),.val (.lst (l.map yY)),.val (.int (wh:Nat)),.val (.int o),.val (.int (k:Nat)),.val (.int 0),.val (.loc h.length)],h++[Nd.lst ((x.s.hs.set 0 99).map .int)]):=by
   rw [yiN (n:=h.length) (k:=0) (v:=99) (xs:=x.s.hs) rfl rfl rfl ydl (by omega),ymV]
  unfold spB
  simp_all? only [er,yeJ,yI (m:="slots") gH (by rfl'),s0,a0,st,show ((0:Nat):Int)=0 from rfl,show ((0:Int)=1)=False from by decide,show ((0:Int)=2)=False from by decide,show ((0:Int)=3)=False from by decide]
 .refine ⟨_,.val (.int 1),.val (.loc h.length),?_,X.junk (.lst (l.map yY++[.tup [.int 0,.int 0]]))⟩
  have ap:yjL (.loc h.length) [.tup [.int 0,.int 0]] (h++[Nd.lst (l.map yY)])=some (.non,h++[Nd.lst (l.map yY++[.tup [.int 0,.int 0]])]):=by
   rw [ypq ydl (by rw [length_map];omega),ymV]
  unfold spB
  simp_all? only [er,yeJ,yI (m:="saw") gH (by rfl'),s1,a1,yjP (ydl (h:=h) (d:=Nd.lst (l.map yY))),ap,show ((1:Nat):Int)=1 from rfl,show ((1:Int)=0)=False from by decide,show ((1:Int)=2)=False from by decide,show ((1:Int)=3)=False from by decide]
 .refine ⟨_,.val (.int 2),e,?_,X⟩
  unfold spB
  simp_all? only [er,yeJ,yI (m:="which") gH (by rfl'),s2,ylH,show ((2:Nat):Int)=2 from rfl,show ((2:Int)=0)=False from by decide,show ((2:Int)=1)=False from by decide,show ((2:Int)=3)=False from by decide]
 .refine ⟨_,.val (.int 3),e,?_,X⟩
  unfold spB
  simp_all? only [er,yeJ,yI (m:="state") gH (by rfl'),s3,hst,show ((3:Nat):Int)=3 from rfl,show ((3:Int)=0)=False from by decide,show ((3:Int)=1)=False from by decide,show ((3:Int)=2)=False from by decide]
theorem yhd (X:HH h g w bx sp en ([]++a::as2) ([]++x::xs2) own) (hL:sortI (sK x.s.sn) (sA x.s.sn)=some (l.map yY)) (hl:l.length<=1000) (h8:x.s.hs.length=8) (hw:x.nth=wh) (hst:atI [PV.str "awake",.str "ended"] (wh:Nat)=some (.str (stX x))) :
  ∃ h',ybf [.loc g.H,.lst (x.s.hs.map .int),.lst (l.map yY),.int (wh:Nat),.int o] h=some (.bl true,h')/\HH h' g w bx sp en ([]++a::as2) ([]++x::xs2) own:=by
 have hr:ymf (yc (xC (.int 4)) (yk)) [.val (.loc g.H),.val (.lst (x.s.hs.map .int)),.val (.lst (l.map yY)),.val (.int (wh:Nat)),.val (.int o),.no,.no,.no] h=some (ygH 0 4,h):=ypp (j:=4) rfl (by decide) (by decide)
 obtain ⟨ρ1,h1,e1,X1,c,d,e,rfl⟩:=ylr (g:=yz 5) (s:=spB) (xs:=ygH 0 4) (fun i ρ h1=>HH h1 g w bx sp en ([]++a::as2) ([]++x::xs2) own/\∃ c d e,ρ=[.val (.loc g.H),.val (.lst (x.s.hs.map .int)),.val (.lst (l.map yY)),.val (.int (wh:Nat)),.val (.int o),c,d,e]) (ρ:=[.val (.loc g.H),.val (.lst (x.s.hs.map .int)),.val (.lst (l.map yY)),.val (.int (wh:Nat)),.val (.int o),.no,.no,.no]) (h:=h) ⟨X,_,_,_,rfl⟩ (by
  rintro i u ρ h1 hu ⟨X1,c,d,e,rfl⟩
  obtain ⟨hi,rfl⟩:=yls hu
  rw [zero_add]
  obtain ⟨h2,d',e',q1,X2⟩:=ywR (k:=i) (c:=c) (d:=d) (e:=e) (o:=o) X1 hL hl h8 hw hst
  exact ⟨_,_,h2,rfl,.inl q1,X2,_,_,_,rfl⟩)
 have gH:=(ykj X1 rfl).2.2
 have s0:ybw [.loc g.H,.int 0] h1=some (.loc h1.length,h1++[Nd.lst (x.s.hs.map .int)]):=by
  have:=yqE X1 rfl
  rwa [show ((([]:List (Nat×Lc)).length:Nat):Int)=0 from rfl] at this
 have X2:=X1.junk (.lst (x.s.hs.map .int))
 have gH2:=(ykj X2 rfl).2.2
 have s1:ybS [.loc g.H,.int 0] (h1++[Nd.lst (x.s.hs.map .int)])=some (.loc (h1++[Nd.lst (x.s.hs.map .int)]).length,h1++[Nd.lst (x.s.hs.map .int)]++[Nd.lst (l.map yY)]):=by
  have:=yzY X2 rfl hL
  rwa [show ((([]:List (Nat×Lc)).length:Nat):Int)=0 from rfl] at this
 have a0:ym 10 [.loc h1.length,.lst (x.s.hs.map .int)] (h1++[Nd.lst (x.s.hs.map .int)])=some (.bl true,h1++[Nd.lst (x.s.hs.map .int)]):=yex (yxk ydl) (yxj _) (by omega)
 generalize hh2:h1++[Nd.lst (x.s.hs.map .int)]=h2 at *
 have a1:ym 10 [.loc h2.length,.lst (l.map yY)] (h2++[Nd.lst (l.map yY)])=some (.bl true,h2++[Nd.lst (l.map yY)]):=ykk (yxk ydl) (yxj _) hl
 refine ⟨_,?_,X2.junk (.lst (l.map yY))⟩
 unfold ybf
 rw [yp]
 show ob (yn (yoM (ymf (yc (xC (.int 4)) (yk))) (yz 5) spB) spZ [.val (.loc g.H),.val (.lst (x.s.hs.map .int)),.val (.lst (l.map yY)),.val (.int (wh:Nat)),.val (.int o),.no,.no,.no] h) fnK=_
 simp_all? only [hr,e1]
 unfold spZ
 simp_all? only [yeJ,yI (m:="slots") gH (by rfl'),s0,a0,yI (m:="saw") gH2 (by rfl'),s1,a1]
end
def ywS (c:Int):Int:=if c%3=1 then c/3%5 else if c%3=2 then 18446744073709551616-1-c/3%5 else c/3%18446744073709551616
theorem yqH (c:Int):0<=ywS c/\ywS c<B64:=by
 unfold ywS B64
 repeat' split
 all_goals omega
section
variable {h:AH}
theorem yga (c:Int):ybH [.int c] h=some (.int (ywS c),h):=by
 unfold ybH
 rw [yp]
 show ob (yn _ _ [.val (.int c),.no] h) fnK=_
 symm
 unfold ywS
 split
 .rfl
 .split<;>rfl
theorem yey {ns:List Int}(k:Nat):yL [.scr ns,.int (k:Nat)] h=some (.int (ns.getD k 0),h):=by
 unfold yL
 rw [yp]
 show ob (yn _ _ [.val (.scr ns),.val (.int (k:Nat))] h) fnK=_
 by_cases e:k<ns.length
 .have e1:(((k:Nat):Int)<(ns.length:Nat))=True:=eq_true (by omega)
  have e3:atI ns (k:Nat)=some (ns.getD k 0):=ycD (by rw [List.getElem?_eq_getElem e,getD_eq_getElem?_getD,List.getElem?_eq_getElem e];rfl)
  have e2:ycp (.scr ns) (.int (k:Nat)) h=some (.int (ns.getD k 0),h):=by
   unfold ycp
   simp only [e3]
  simp_all? only [e1,e2,e3]
 .have e1:(((k:Nat):Int)<(ns.length:Nat))=False:=eq_false (by omega)
  rw [show ns.getD k 0=0 by rw [getD_eq_getElem?_getD,getElem?_eq_none (by omega)];rfl]
  simp_all? only [e1]
theorem yAc {n:Int}(hn:0<=n/\n<B64):n.natAbs.log2<1920:=by
 by_cases hz:n.natAbs=0
 .rw [hz];decide
 .rw [Nat.log2_lt hz]
  have e1:n.natAbs<2 ^ 64:=by
   have:(2:Nat) ^ 64=18446744073709551616:=by decide
   rw [this]
   unfold B64 at hn
   omega
  exact lt_of_lt_of_le e1 (Nat.pow_le_pow_right (by decide) (by decide))
end
section
variable {h:AH}{ns:List Int}
theorem yDN:∀ c∈[97,98,99,100,101,102,103,104],sx (⟨#[c]⟩:Str)=c-97/\(⟨#[c]⟩:Str)∈SL:=by rfl'
def L8:List PV:=([97,98,99,100,101,102,103,104]:List Nat).map sgn
theorem yqI {ρ:PSt}:xIS (xC (.str "abcdefgh")) ρ h=some (L8,h):=by
 unfold xIS xC L8
 rw [ybZ]
 show (if ("abcdefgh":Str).length<=100000 then some (("abcdefgh":Str).cps.toList.map sgn,h) else none)=_
 rw [show ("abcdefgh":Str).cps.toList=[97,98,99,100,101,102,103,104] by rfl',if_pos (by rfl')]
theorem yux:(L8.length<=100000)=True:=eq_true (by decide)
theorem yuy {n:Nat}{hs:List Int}{ρ:PSt}(e:h[n]?=some (.dct LK (hs.map .int))) (h8:hs.length=8) (hρ:∀ x,yeY [7] ρ x=[.val x,.val (.loc n)]):ygt (ydw (yf 1) (yf 0)) (yeY [7] ρ) L8 h=some (hs.map .int,h):=by
 unfold L8
 rw [ydK (f:=sgn) (g:=fun c=>.int (hs.getD (c-97) 0)) fun c hc=>by
  obtain ⟨e1,e2⟩:=yDN c hc
  rw [hρ,yzZ,show yf 1 [.val (sgn c),.val (.loc n)] h=some (.loc n,h) from rfl,ybZ,show yf 0 [.val (sgn c),.val (.loc n)] h=some (sgn c,h) from rfl,ybZ]
  show dgK (.loc n) (.str ⟨#[c]⟩) h=_
  rw [ywO e h8 e2,e1]]
 obtain ⟨a,b,c,d,e,f,g,i,rfl⟩:=ywN h8
 rfl
variable {g:HC}{bx sp hs:List Int}{en:List PV}{as2:List (Nat×Lc)}{xs2:List HD}{a:Nat×Lc}{x:HD}{q:LB}{n:Nat}{wr sn:List (Nat×Int×Int)}
noncomputable def lwP (ns:List Int) (M:Int) (q:LB) (P:List PV) (v4 v5:PVar) (H:Nat) (v8 v10 v11 v12:PVar):PSt:=[.val (.scr ns),.val (.int M),.val (.loc q.b),.val (.lst P),v4,v5,.val (.loc H),.val (.loc q.s),v8,.val (lsV q),v10,v11,v12,.no,.no]
theorem yuz {ρ:PSt}{n:Nat}{m:List (Nat×Int×Int)}{l:List (Nat×Int)}{e:XE}(ed:e ρ h=some (.loc n,h)) (eh:h[n]?=some (.dct (sK m) (sA m))) (hs:sortI (sK m) (sA m)=some (l.map yY)):ydx e ρ h=some (Nd.lst (l.map yY),h):=by
 unfold ydx yjM
 rw [ed,ybZ]
 simp only [eh,hs]
theorem ywT {t:T}{M:Int}{P:List PV}{rws:List Rw}{v4 v5 v8 v11 v12:PVar}(X:HH h g bx.length bx sp en (a::as2) (x::xs2) (LO q bx hs wr sn)) (I:LI bx.length bx sp hs wr sn) (gt:gdT t) (es:x.s=sOf n hs wr sn) (er:rws[n]?=some (rwT t)) (hr:x.rows=rws.map yO) (hn:x.nth=0) (hn':x.ds.length=1) (hs0:x.sl=false) (hP:P[n]?=some (yO (rwT t))) :
  ∃ h' hs' wr' sn' c' v11' v12',lwB (lwP ns M q P v4 v5 g.H v8 (.val (.int (n:Nat))) v11 v12) h=some (.nx (lwP ns M q P v4 v5 g.H v8 (.val (.int (n:Nat))) v11' v12'),h') /\
   HH h' g bx.length bx sp en ((a.1,c')::as2) ({ x with s:=sOf (n+1) hs' wr' sn' }::xs2) (LO q bx hs' wr' sn')/\LI bx.length bx sp hs' wr' sn':=by
 obtain ⟨due,h1,h2,hs',wr',sn',c',q1,q2,gH,fl,dl,X2,I2⟩:=ywQ X I gt es er hr (by omega) hs0
 have q2:yJ [.loc g.H,.int 0] h1=some (.tup due,h2):=q2
 have w16:=I.w16
 have sl:=yeR I2.sd I2.sb
 obtain ⟨l,el,pl⟩:=yfL sn' (by omega)
 have ll:l.length<=1000:=by
  have:=pl.length_eq
  rw [length_map] at this
  omega
 obtain ⟨h3,q3,X3⟩:=yhd (x:={ x with s:=sOf (n+1) hs' wr' sn' }) (o:=(n:Int)+ns.getD 2 0/2%4) (wh:=0) X2 el ll I2.h8 hn (by
  show _=some (PV.str (stX _))
  unfold stX
  rw [if_neg (by show ¬ x.nth=x.ds.length;omega),if_neg (by show ¬ x.sl=true;rw [hs0];decide)]
  rfl)
 have q3:ybf [.loc g.H,.lst (hs'.map .int),.lst (l.map yY),.int 0,.int ((n:Int)+ns.getD 2 0/2%4)] h2=some (.bl true,h3):=q3
 have gH2:=X2.at_.get 0 rfl
 have b2:=yus X2
 have a2:ym 10 [.tup due,.tup due] h2=some (.bl true,h2):=yhc dl fl
 have a3:ym 10 [.lst (bx.map .int),.loc q.b] h2=some (.bl true,h2):=yex (yxj _) (yxk (X2.get 0 rfl)) (by omega)
 have ce:yL [.scr ns,.int 2] h2=some (.int (ns.getD 2 0),h2):=yey 2
 have ix:atI P (n:Int)=some (yO (rwT t)):=ycD hP
 refine ⟨h3,hs',wr',sn',c',.val (.tup due),.val (.lst (hs'.map .int)),?_,X3,I2⟩
 have tl:=yuy (ρ:=lwP ns M q P v4 v5 g.H v8 (.val (.int (n:Nat))) (.val (.tup due)) v12) (X2.get 1 rfl) I2.h8 (fun _=>rfl)
 have sv:=yuz (e:=xOp (ybD) (yf 9) (xC (.int 2))) (ρ:=lwP ns M q P v4 v5 g.H v8 (.val (.int (n:Nat))) (.val (.tup due)) (.val (.lst (hs'.map .int)))) (h:=h2) (n:=q.v) rfl (X2.get 3 rfl) el
 unfold lwB
 unfold lwP at tl sv ⊢
 simp_all? only [ix,q1,yeJ,yI (m:="turn") gH (by rfl'),q2,a2,yI (m:="boxes") gH2 (by rfl'),b2,a3,yqI,yux,tl,sv,ce,q3,↓reduceIte]
end
section
variable {h:AH}{ns:List Int}{g:HC}{bx bx' sp hs:List Int}{en:List PV}{as as2:List (Nat×Lc)}{xs xs2:List HD}{a:Nat×Lc}{x:HD}{q:LB}{n:Nat}{wr sn:List (Nat×Int×Int)}{w:Int}
theorem yAd {f:PV->PV->Option Bool}{x y:PV}{xs ys:List PV}(e1:f x y=some true) (e2:yhM f xs ys=some true):yhM f (x::xs) (y::ys)=some true:=by
 show (match f x y,yhM f xs ys with|some b,some c=>some (b && c)|_,_=>none)=_
 rw [e1,e2]
 rfl
theorem yCv {n:Nat}{i:Int}:eqP (n+1) h (.int i) (.int i)=some true:=by
 show some (eqV (.int i) (.int i))=_
 rw [ymp rfl]
theorem ymW {n:Nat}:∀ xs:List Int,yhM (eqP (n+1) h) (xs.map .int) (xs.map .int)=some true
 | []=>rfl
 | _::xs=>yAd yCv (ymW xs)
theorem ymX {n:Nat}(xs:List Int):pairE (eqP (n+1) h) h (.lst (xs.map .int)) (.lst (xs.map .int))=some true:=by
 unfold pairE yba
 simp only [ymW,if_true]
theorem yAe (xs:List Int):yyZ (.lst (xs.map .int)) (.lst (xs.map .int)) h=some (.bl false,h):=by
 unfold yyZ
 rw [ymX]
 rfl
theorem yAf (xs:List Int):yyY (.lst (xs.map .int)) (.lst (xs.map .int)) h=some (.bl true,h):=by
 unfold yyY
 rw [ymX]
theorem ywU {ts:List T}{M:Int}{v4 v5 v8 v10 v11 v12:PVar}(X:HH h g bx.length bx sp en (a::as2) (x::xs2) (LO q bx hs wr sn)) (I:LI bx.length bx sp hs wr sn) (gd:gdL ts) (es:x.s=sOf 0 hs wr sn) (hr:x.rows=(ts.map rwT++[Rw.lay]).map yO) (hn:x.nth=0) (hn':x.ds.length=1) (hs0:x.sl=false) :
  ∃ h' hs' wr' sn' c' v10' v11' v12',yeU (yz 10) lwB (ygH 0 ts.length) (lwP ns M q (ts.map fun t=>yO (rwT t)) v4 v5 g.H v8 v10 v11 v12) h=some (.nx (lwP ns M q (ts.map fun t=>yO (rwT t)) v4 v5 g.H v8 v10' v11' v12'),h') /\
   HH h' g bx.length bx sp en ((a.1,c')::as2) ({ x with s:=sOf ts.length hs' wr' sn' }::xs2) (LO q bx hs' wr' sn')/\LI bx.length bx sp hs' wr' sn':=by
 obtain ⟨ρ1,h1,e1,hs',wr',sn',c',v10',v11',v12',rfl,X1,I1⟩:=ylr (g:=yz 10) (s:=lwB) (xs:=ygH 0 ts.length) (fun i ρ h1=>∃ hs' wr' sn' c' v10' v11' v12',ρ=lwP ns M q (ts.map fun t=>yO (rwT t)) v4 v5 g.H v8 v10' v11' v12'/\HH h1 g bx.length bx sp en ((a.1,c')::as2) ({ x with s:=sOf i hs' wr' sn' }::xs2) (LO q bx hs' wr' sn')/\LI bx.length bx sp hs' wr' sn')
  (ρ:=lwP ns M q (ts.map fun t=>yO (rwT t)) v4 v5 g.H v8 v10 v11 v12) (h:=h) ⟨hs,wr,sn,a.2,v10,v11,v12,rfl,by rw [<- es];exact X,I⟩ (by
   rintro i u ρ h1 hu ⟨hs',wr',sn',c',v10',v11',v12',rfl,X1,I1⟩
   obtain ⟨hi,rfl⟩:=yls hu
   rw [zero_add]
   have et:ts[i]?=some ts[i]:=List.getElem?_eq_getElem hi
   obtain ⟨h2,hs2,wr2,sn2,c2,w11,w12,q1,X2,I2⟩:=ywT (ns:=ns) (M:=M) (P:=ts.map fun t=>yO (rwT t)) (v4:=v4) (v5:=v5) (v8:=v8) (v11:=v11') (v12:=v12') (x:={ x with s:=sOf i hs' wr' sn' }) X1 I1 (gd _ (getElem_mem hi)) rfl (rws:=ts.map rwT++[Rw.lay]) (by rw [getElem?_append_left (by rw [length_map];exact hi),getElem?_map,et];rfl) hr hn hn' hs0 (by rw [getElem?_map,et];rfl)
   exact ⟨_,_,h2,rfl,.inl q1,hs2,wr2,sn2,c2,_,w11,w12,rfl,X2,I2⟩)
 rw [ypo] at X1
 exact ⟨h1,hs',wr',sn',c',v10',v11',v12',e1,X1,I1⟩
theorem ymY:∀ m:List (Nat×Int×Int),ylt (sK m) (sA m)=m.map fun p=>yY (pr2 p)
 | []=>rfl
 | p::m=>by
  show PV.tup [.int (p.1:Int),.int p.2.1]::ylt (sK m) (sA m)=_
  rw [ymY m]
  rfl
noncomputable def lwQ (ns:List Int) (M:Int) (q:LB) (P:List PV) (v4 v5:PVar) (H:Nat) (v8 v10 v11 v12 v13 v14:PVar):PSt:=[.val (.scr ns),.val (.int M),.val (.loc q.b),.val (.lst P),v4,v5,.val (.loc H),.val (.loc q.s),v8,.val (lsV q),v10,v11,v12,v13,v14]
theorem yqJ {M:Int}{P:List PV}{v4 v5 v8 v10 v11 v12:PVar}{o2:List (Nat×Nd)}{H:Nat}:∀ (m:List (Nat×Int×Int)) (h:AH) (bx:List Int) (v13 v14:PVar),HH h g w bx' sp en as xs ((q.b,.lst (bx.map .int))::o2)->(∀ p∈m,p.1<bx.length) ->
  ∃ h' v13' v14',yeU (ytI 2 (ygf (yz 13) (ygf (yz 14) (yvo)))) fiB (m.map fun p=>yY (pr2 p)) (lwQ ns M q P v4 v5 H v8 v10 v11 v12 v13 v14) h=some (.nx (lwQ ns M q P v4 v5 H v8 v10 v11 v12 v13' v14'),h')/\HH h' g w bx' sp en as xs ((q.b,.lst ((ykB bx (m.map pr2)).map .int))::o2)
 | [],h,bx,v13,v14,X,_=>⟨h,v13,v14,rfl,X⟩
 | p::m,h,bx,v13,v14,X,hb=>by
  have hp:=hb p mem_cons_self
  have e:fiB (lwQ ns M q P v4 v5 H v8 v10 v11 v12 (.val (.int (p.1:Nat))) (.val (.int p.2.1))) h=some (.nx (lwQ ns M q P v4 v5 H v8 v10 v11 v12 (.val (.int (p.1:Nat))) (.val (.int p.2.1))),h.set q.b (.lst ((bx.set p.1 p.2.1).map .int))):=yiN rfl rfl rfl (X.get 0 rfl) hp
  obtain ⟨h',a,b,q1,X'⟩:=yqJ m _ (bx.set p.1 p.2.1) (.val (.int (p.1:Nat))) (.val (.int p.2.1)) (X.upd (o1:=[]) (.lst ((bx.set p.1 p.2.1).map .int))) (fun r hr=>by rw [length_set];exact hb r (mem_cons_of_mem _ hr))
  refine ⟨h',a,b,?_,X'⟩
  rw [map_cons,ywI (ρ1:=lwQ ns M q P v4 v5 H v8 v10 v11 v12 (.val (.int (p.1:Nat))) (.val (.int p.2.1))) rfl e]
  exact q1
theorem yCw {M:Int}{P:List PV}{v4 v5 v8 v10 v11 v12 v13 v14:PVar}{H:Nat}(X:HH h g w bx' sp en as xs (LO q bx hs wr sn)) (hb:∀ p∈wr,p.1<bx.length) :
  ∃ h' v13' v14',ypJ (xOp (ybD) (yf 9) (xC (.int 1))) (ytI 2 (ygf (yz 13) (ygf (yz 14) (yvo)))) fiB (lwQ ns M q P v4 v5 H v8 v10 v11 v12 v13 v14) h=some (.nx (lwQ ns M q P v4 v5 H v8 v10 v11 v12 v13' v14'),h')/\HH h' g w bx' sp en as xs (LO q (ykB bx (wr.map pr2)) hs wr sn):=by
 have X1:=X.upd (o1:=[_,_]) (.fz (sK wr) (sA wr))
 obtain ⟨h',a,b,q1,X'⟩:=yqJ (ns:=ns) (M:=M) (P:=P) (v4:=v4) (v5:=v5) (v8:=v8) (v10:=v10) (v11:=v11) (v12:=v12) (H:=H) wr _ bx v13 v14 X1 hb
 refine ⟨_,a,b,?_,X'.upd (o1:=[_,_]) (.dct (sK wr) (sA wr))⟩
 unfold ypJ
 rw [show xOp (ybD) (yf 9) (xC (.int 1)) (lwQ ns M q P v4 v5 H v8 v10 v11 v12 v13 v14) h=some (.loc q.w,h) from rfl,ybZ]
 simp only [X.get 2 rfl]
 rw [ymY,q1,ybZ]
end
def Z8:List Int:=[0,0,0,0,0,0,0,0]
abbrev Fr (h h':AH):Prop:=∀ m,At h m->At h' m
section
variable {h:AH}{w:Int}
def Rdb (d:Str×List Rw):Prop:=∀ h:AH,∃ h',yT ydB (yc (yT yhT (yc (yf 0) yk)) yk) [.val (.str d.1)] h=some (.lst (d.2.map yO),h')/\Fr h h'
def txV (d:Str×List Rw):PV:=.str d.1
def ynV (d:Str×List Rw):PV:=.lst (d.2.map yO)
theorem At.seen {m:List (Nat×Nd)}{d d':Nd}(A:At h m):At ((h++[d]).set h.length d') m:=⟨A.1,fun p hp=>by
 have:=A.lt hp
 rw [getElem?_set_ne (by omega),getElem?_append_left this];exact A.2 p hp⟩
theorem ylL {α:Type}{E:XE}{inn:PV->PSt}{f g:α->PV}:∀ (l:List α),(∀ h a,a∈l->∃ h',E (inn (f a)) h=some (g a,h')/\Fr h h')->∀ h,∃ h',ygt E inn (l.map f) h=some (l.map g,h')/\Fr h h'
 | [],_,h=>⟨h,rfl,fun _ A=>A⟩
 | a::l,hE,h=>by
  obtain ⟨h1,q1,F1⟩:=hE h a mem_cons_self
  obtain ⟨h2,q2,F2⟩:=ylL l (fun h b hb=>hE h b (mem_cons_of_mem _ hb)) h1
  refine ⟨h2,?_,fun m A=>F2 m (F1 m A)⟩
  show ob (E (inn (f a)) h) _=_
  rw [q1,ybZ,q2,ybZ]
  rfl
theorem yti {ds:List (Str×List Rw)}(hd:∀ d∈ds,Rdb d) (hl:ds.length<=100):∃ h',ybk [.lst (ds.map txV)] h=some (.lst (ds.map ynV),h')/\Fr h h':=by
 obtain ⟨h',q1,q2⟩:=ylL (inn:=yeY [] [.val (.lst (ds.map txV))]) (f:=txV) (g:=ynV) ds (fun h a ha=>hd a ha h) h
 refine ⟨h',?_,q2⟩
 unfold ybk
 rw [yp]
 show ob (yK (xFz (ydd (xIL (yf 0)) _ _)) [.val (.lst (ds.map txV))] h) fnK=_
 rw [ypb,yBu,ytT,ynF rfl,ybZ,if_pos (by rw [length_map];omega),q1]
 rfl
def hsV (hs:List (List (Str×List Rw))):List PV:=hs.map fun ds=>.lst (ds.map txV)
theorem ytj {hs:List (List (Str×List Rw))}(hd:∀ p∈hs,p.length<=6/\∀ d∈p,Rdb d) (h1:1<=hs.length) (h8:hs.length<=8):∃ h',ybP [.lst (hsV hs)] h=some (.lst (hs.map fun p=>.lst (p.map ynV)),h')/\Fr h h':=by
 obtain ⟨h',q3,q4⟩:=ylL (E:=yT ybk (yc (yf 0) (yk))) (inn:=yeY [] [.val (.lst (hsV hs))]) (f:=fun p:List (Str×List Rw)=>.lst (p.map txV)) (g:=fun p=>.lst (p.map ynV)) hs (fun h a ha=>by
  obtain ⟨h',q,F⟩:=yti (h:=h) (hd a ha).2 (by have:=(hd a ha).1;omega)
  refine ⟨h',?_,F⟩
  show yT ybk (yc (yf 0) (yk)) [.val (.lst (a.map txV))] h=_
  simp_all? only [q]) h
 have q1:ygt (xOp (oGt) (xCB (yce) (yc (yf 0) (yk))) (xC (.int 6))) (yeY [] [.val (.lst (hsV hs))]) (hsV hs) h=some (hs.map fun _=>.bl false,h):=ydK (f:=fun p:List (Str×List Rw)=>.lst (p.map txV)) (g:=fun _=>.bl false) fun a ha=>by
  have l2:((6:Int)<((a.map txV).length:Nat))=False:=eq_false (by have:=(hd _ ha).1;rw [length_map];omega)
  show xOp (oGt) (xCB (yce) (yc (yf 0) (yk))) (xC (.int 6)) [.val (.lst (a.map txV))] h=_
  simp_all? only [l2]
 have an:∀ h,ysv [.lst (hs.map fun _=>PV.bl false)] h=some (.bl false,h):=fun h=>by
  unfold ysv yba
  simp only [ylD (fun _:List (Str×List Rw)=>false)]
  rw [show (hs.map fun _=>false).any id=false by simp]
 refine ⟨h',?_,q4⟩
 have ll:(hsV hs).length=hs.length:=by unfold hsV;rw [length_map]
 have l1:((1:Int)<=((hsV hs).length:Nat))=True:=eq_true (by rw [ll];omega)
 have l2:((((hsV hs).length:Nat):Int)<=8)=True:=eq_true (by rw [ll];omega)
 have l3:((hsV hs).length<=100000)=True:=eq_true (by rw [ll];omega)
 have i0:∀ h,xIL (yf 0) [.val (.lst (hsV hs))] h=some (hsV hs,h):=fun _=>ynF rfl
 unfold ybP
 rw [yp]
 show ob (yn _ _ [.val (.lst (hsV hs))] h) fnK=_
 have q3:ygt (yT ybk (yc (yf 0) (yk))) (yeY [] [.val (.lst (hsV hs))]) (hsV hs) h=some (hs.map fun p=>.lst (p.map ynV),h'):=q3
 simp_all? only [l1,l2,l3,i0,q1,an,q3,↓reduceIte]
noncomputable def hv (k:Nat) (ds:List PV) (w:Int):Nd:=.ins 14 ((["deeds","width","nth","sleeps","before"]:List Str).take k) (([.lst ds,.int w,.int 0,.bl false,.lst (Z8.map .int)]:List PV).take k)
theorem yqK {ds rows:List PV}(hr:Due ds 0 rows):∃ h' c',ybi [.loc h.length,.lst ds,.int w] (h++[Nd.ins 14 [] []])=some (.non,h')/\∀ m,At h m->RR w rows ((h.length,ydC ds w 0 false Z8 c'.rn)::m) h' c' (S0 Z8):=by
 have N:∀ {k:AH}{d d':Nd},k[h.length]?=some d->(k.set h.length d')[h.length]?=some d':=fun e=>getElem?_set_self (List.getElem?_eq_some_iff.mp e).1
 have n0:(h++[Nd.ins 14 [] []])[h.length]?=some (hv 0 ds w):=by simp [hv]
 generalize hk0:h++[Nd.ins 14 [] []]=k0 at *
 have s1:∀ ρ,fL [14] "deeds" ρ (.lst ds) (.loc h.length) k0=some (.nx ρ,k0.set h.length (hv 1 ds w)):=fun ρ=>yfm n0 (by decide) (by kernel_rfl!)
 have n1:=N (d':=hv 1 ds w) n0
 have s2:∀ ρ,fL [12,14] "width" ρ (.int w) (.loc h.length) (k0.set h.length (hv 1 ds w))=some (.nx ρ,(k0.set h.length (hv 1 ds w)).set h.length (hv 2 ds w)):=fun ρ=>yfm n1 (by decide) (by kernel_rfl!)
 have n2:=N (d':=hv 2 ds w) n1
 rw [List.set_set] at s2 n2
 have s3:∀ ρ,fL [14] "nth" ρ (.int 0) (.loc h.length) (k0.set h.length (hv 2 ds w))=some (.nx ρ,(k0.set h.length (hv 2 ds w)).set h.length (hv 3 ds w)):=fun ρ=>yfm n2 (by decide) (by kernel_rfl!)
 have n3:=N (d':=hv 3 ds w) n2
 rw [List.set_set] at s3 n3
 have s4:∀ ρ,fL [14] "sleeps" ρ (.bl false) (.loc h.length) (k0.set h.length (hv 3 ds w))=some (.nx ρ,(k0.set h.length (hv 3 ds w)).set h.length (hv 4 ds w)):=fun ρ=>yfm n3 (by decide) (by kernel_rfl!)
 have n4:=N (d':=hv 4 ds w) n3
 rw [List.set_set] at s4 n4
 have s5:∀ ρ,fL [14] "before" ρ (.lst (Z8.map .int)) (.loc h.length) (k0.set h.length (hv 4 ds w))=some (.nx ρ,(k0.set h.length (hv 4 ds w)).set h.length (hv 5 ds w)):=fun ρ=>yfm n4 (by decide) (by kernel_rfl!)
 have n5:=N (d':=hv 5 ds w) n4
 rw [List.set_set] at s5 n5
 obtain ⟨h',c',q1,q2⟩:=yhV (rows:=rows) (nth:=0) (bf:=Z8) (w:=w) (ds:=ds) (fl 0 n5 (by decide) (by rfl') rfl) (fl 1 n5 (by decide) (by rfl') rfl) (fl 2 n5 (by decide) (by rfl') rfl) (fl 4 n5 (by decide) (by rfl') rfl) hr
 have R:∀ m,At h m->RR w rows ((h.length,hv 5 ds w)::m) h' c' (S0 Z8):=fun m A=>q2 _ (by
  have A1:=At.new (Nd.ins 14 [] []) (a:=[]) A
  rw [hk0] at A1
  exact At.upd (a:=[]) (hv 5 ds w) A1)
 have e0:At h []:=⟨List.nodup_nil,fun p hp=>by simp at hp⟩
 have n6:h'[h.length]?=some (hv 5 ds w):=(R [] e0).rest.get 0 rfl
 have s6:∀ ρ,fL [14] "run" ρ (.loc c'.rn) (.loc h.length) h'=some (.nx ρ,h'.set h.length (ydC ds w 0 false Z8 c'.rn)):=fun ρ=>yfm n6 (by decide) (by kernel_rfl!)
 refine ⟨_,c',?_,fun m A=>RR.urest (a:=[]) _ (R m A)⟩
 have l0:∀ k,ybe [.lst ds] k=some (.lst ds,k):=fun _=>rfl
 unfold ybi
 rw [yp]
 show ob (yn _ _ [.val (.loc h.length),.val (.lst ds),.val (.int w)] k0) fnK=_
 simp_all? only [ywx,l0,s1,s2,s3,s4]
 rw [if_pos (by decide),show PV.lst (repL ((8:Nat):Int).toNat [PV.int 0])=.lst (Z8.map .int) from rfl]
 simp_all? only [ywx,s5,yeJ,yI (m:="new_run") n5 (by rfl'),q1,s6]
end
section
variable {h:AH}
theorem yAg {i:Int}(hi:0<=i/\i<B64):ycF [.int i] h=some (.bl true,h):=by
 have e1:ydA [.int i] h=some (.bl true,h):=by kernel_rfl!
 have e2:(0<=i)=True:=eq_true hi.1
 have e3:(i<18446744073709551616)=True:=eq_true hi.2
 unfold ycF
 rw [yp]
 show ob (yK _ [.val (.int i)] h) fnK=_
 simp_all? only [e1,e2,e3]
theorem yqL {ρ:PSt}:∀ bx:List Int,(∀ i∈bx,0<=i/\i<B64)->ygt (yT ycF (yc (yf 0) (yk))) (yeY [] ρ) (bx.map .int) h=some (replicate bx.length (.bl true),h)
 | [],_=>rfl
 | i::bx,hb=>by
  show ob (ycF [.int i] h) _=_
  rw [yAg (hb i mem_cons_self),ybZ]
  show ob (ygt _ _ (bx.map .int) h) _=_
  rw [yqL bx fun j hj=>hb j (mem_cons_of_mem _ hj),ybZ]
  rfl
theorem yqM:∀ n,ygI (replicate n (PV.bl true))=some (replicate n true)
 | 0=>rfl
 | n+1=>by
  rw [List.replicate_succ,List.replicate_succ]
  unfold ygI
  simp only [yqM n]
  try rfl
theorem ytk {bx:List Int}(h1:1<=bx.length) (h16:bx.length<=16) (hb:∀ i∈bx,0<=i/\i<B64):ycW [.lst (bx.map .int)] h=some (.non,h):=by
 have e1:=yqL (h:=h) (ρ:=[.val (.lst (bx.map .int))]) bx hb
 have e2:ytN [.lst (replicate bx.length (PV.bl true))] h=some (.bl true,h):=by
  unfold ytN yba
  simp only [yqM]
  rw [List.all_eq_true.mpr fun x hx=>by rw [List.eq_of_mem_replicate hx];rfl]
 have i1:xIL (yf 0) [.val (.lst (bx.map .int))] h=some (bx.map .int,h):=rfl
 have l1:(((bx.map PV.int).length:Nat):Int)=bx.length:=by rw [length_map]
 have l2:((1:Int)<=(bx.length:Nat))=True:=eq_true (by omega)
 have l3:(((bx.length:Nat):Int)<=16)=True:=eq_true (by omega)
 have l4:((bx.map PV.int).length<=100000)=True:=eq_true (by rw [length_map];omega)
 unfold ycW
 rw [yp]
 show ob (yn _ _ [.val (.lst (bx.map .int))] h) fnK=_
 simp_all? only [l1,l2,l3,l4,i1,e1,e2]
end
noncomputable def av (k nu ma cr en:Nat):Nd:=.ins 15 ((["numbers","marks","crew","entries"]:List Str).take k) (([.loc nu,.loc ma,.loc cr,.loc en]:List PV).take k)
def hd0 (ds:List (Str×List Rw)):HD:=⟨ds.map ynV,0,false,Z8,match ds with|[]=>[]|d::_=>d.2.map yO,S0 Z8⟩
theorem yDO:∀ ds:List (Str×List Rw),Due (hd0 ds).ds 0 (hd0 ds).rows
 | []=>.inr ⟨rfl,rfl⟩
 | d::r=>.inl ⟨by simp [hd0],rfl⟩
section
variable {h:AH}{w:Int}
theorem yDs (n:Nat):repL ((n:Nat):Int).toNat [PV.int 0]=(replicate n (0:Int)).map .int:=by
 show (replicate n [PV.int 0]).flatten=_
 rw [List.map_replicate]
 induction n with
 | zero=>rfl
 | succ n ih=>rw [List.replicate_succ,List.replicate_succ,List.flatten_cons,ih];rfl
theorem yqN {bx:List Int}{ρ:PSt}(hρ:∀ x,yeY [1] ρ x=[.val x,.val (.lst (bx.map .int))]):∀ (hs:List (List (Str×List Rw))) (h:AH),∃ h' as,ygt (yfU 14 ybi (yc (yf 0) (yc (xCB (yce) (yc (yf 1) (yk))) (yk)))) (yeY [1] ρ) (hs.map fun ds=>.lst (ds.map ynV)) h=some ((as.map (·.1)).map .loc,h')/\LyOk as (hs.map hd0)/\∀ m,At h m->At h' (CR bx.length as (hs.map hd0) m)
 | [],h=>⟨h,[],rfl,trivial,fun _ A=>A⟩
 | ds::hs,h=>by
  obtain ⟨h1,c1,q1,q2⟩:=yqK (h:=h) (w:=bx.length) (yDO ds)
  obtain ⟨h',as,q3,q4,q5⟩:=yqN hρ hs h1
  have lw:(((bx.map PV.int).length:Nat):Int)=bx.length:=by rw [length_map]
  have e0:At h []:=⟨List.nodup_nil,fun p hp=>by simp at hp⟩
  refine ⟨h',(h.length,c1)::as,?_,⟨(q2 [] e0).len,q4⟩,fun m A=>?_⟩
  .show ob (yfU 14 ybi _ (yeY [1] ρ (.lst (ds.map ynV))) h) _=_
   rw [hρ,ypE]
   have q1:ybi [.loc h.length,.lst (ds.map ynV),.int bx.length] (h++[Nd.ins 14 [] []])=some (.non,h1):=q1
   simp_all? only [lw,q1,q3]
   rfl
  .have R:=q2 m A
   have A1:At h1 (HN bx.length (h.length,c1) (hd0 ds) m):=by
    have A2:=R.at_
    rw [yhb] at A2
    show At h1 ((h.length,ydC (ds.map ynV) bx.length 0 false Z8 c1.rn)::RM _ _ _ _ _)
    rw [yhb]
    exact A2.perm List.perm_middle.symm
   have A3:=q5 _ A1
   rw [yek,yfZ] at A3
   show At h' (HN bx.length (h.length,c1) (hd0 ds) (CR bx.length as (hs.map hd0) m))
   rw [yfZ,yek]
   exact A3.perm (List.perm_append_comm_assoc _ _ _)
theorem yqO {bx:List Int}{hs:List (List (Str×List Rw))}(h1:1<=bx.length) (h16:bx.length<=16) (hb:∀ i∈bx,0<=i/\i<B64) (hd:∀ p∈hs,p.length<=6/\∀ d∈p,Rdb d) (hh1:1<=hs.length) (hh8:hs.length<=8) :
  ∃ h' g as,ybA [.loc h.length,.lst (bx.map .int),.lst (hsV hs)] (h++[Nd.ins 15 [] []])=some (.non,h')/\g.H=h.length/\∀ m,At h m->HH h' g bx.length bx (replicate bx.length 0) [] as (hs.map hd0) m:=by
 have e0:At h []:=⟨List.nodup_nil,fun p hp=>by simp at hp⟩
 have A0:∀ m,At h m->At (h++[Nd.ins 15 [] []]) ((h.length,.ins 15 [] [])::m):=fun m A=>At.new _ (a:=[]) A
 have c0:=ytk (h:=h++[Nd.ins 15 [] []]) h1 h16 hb
 generalize h++[Nd.ins 15 [] []]=k0 at *
 have A1:∀ m,At h m->At (k0++[Nd.lst (bx.map .int)]) ((h.length,.ins 15 [] [])::(k0.length,.lst (bx.map .int))::m):=fun m A=>At.new _ (a:=[_]) (A0 m A)
 have s1:∀ ρ,fL [15] "numbers" ρ (.loc k0.length) (.loc h.length) (k0++[Nd.lst (bx.map .int)])=some (.nx ρ,(k0++[Nd.lst (bx.map .int)]).set h.length (av 1 k0.length 0 0 0)):=fun ρ=>yfm ((A1 [] e0).get 0 rfl) (by decide) (by kernel_rfl!)
 have A2:=fun m A=>At.upd (a:=[]) (av 1 k0.length 0 0 0) (A1 m A)
 generalize hnu:k0.length=nu at *
 generalize (k0++[Nd.lst (bx.map .int)]).set h.length (av 1 nu 0 0 0)=k1 at *
 have A3:∀ m,At h m->At (k1++[Nd.lst ((replicate bx.length (0:Int)).map .int)]) ((h.length,av 1 nu 0 0 0)::(nu,.lst (bx.map .int))::(k1.length,.lst ((replicate bx.length (0:Int)).map .int))::m):=fun m A=>At.new _ (a:=[_,_]) (A2 m A)
 have s2:∀ ρ,fL [15] "marks" ρ (.loc k1.length) (.loc h.length) (k1++[Nd.lst ((replicate bx.length (0:Int)).map .int)])=some (.nx ρ,(k1++[Nd.lst ((replicate bx.length (0:Int)).map .int)]).set h.length (av 2 nu k1.length 0 0)):=fun ρ=>yfm ((A3 [] e0).get 0 rfl) (by decide) (by kernel_rfl!)
 have A4:=fun m A=>At.upd (a:=[]) (av 2 nu k1.length 0 0) (A3 m A)
 generalize hma:k1.length=ma at *
 generalize (k1++[Nd.lst ((replicate bx.length (0:Int)).map .int)]).set h.length (av 2 nu ma 0 0)=k2 at *
 have F2:Fr h k2:=fun m A=>(A4 m A).sub (((List.Sublist.refl m).cons _).cons _ |>.cons _)
 obtain ⟨k3,q1,q2⟩:=ytj (h:=k2) hd hh1 hh8
 obtain ⟨k4,as,q3,q4,q5⟩:=yqN (bx:=bx) (ρ:=[.val (.loc h.length),.val (.lst (bx.map .int)),.val (.lst (hsV hs))]) (fun _=>rfl) hs k3
 have R4:=fun m A=>q5 _ (q2 _ (A4 m A))
 have R4':∀ m,At h m->At k4 ((h.length,av 2 nu ma 0 0)::(nu,.lst (bx.map .int))::(ma,.lst ((replicate bx.length (0:Int)).map .int))::CR bx.length as (hs.map hd0) m):=fun m A=>by
  have:=R4 m A
  rw [yek] at this
  rw [yek]
  exact this.perm (show ([_,_,_]++(CR bx.length as (hs.map hd0) []++m)).Perm (CR bx.length as (hs.map hd0) []++([_,_,_]++m)) from List.perm_append_comm_assoc _ _ _)
 have R5:=fun m A=>At.new (Nd.lst ((as.map (·.1)).map .loc)) (a:=[_,_,_]) (R4' m A)
 have s3:∀ ρ,fL [15] "crew" ρ (.loc k4.length) (.loc h.length) (k4++[Nd.lst ((as.map (·.1)).map .loc)])=some (.nx ρ,(k4++[Nd.lst ((as.map (·.1)).map .loc)]).set h.length (av 3 nu ma k4.length 0)):=fun ρ=>yfm ((R5 [] e0).get 0 rfl) (by decide) (by kernel_rfl!)
 have R6:=fun m A=>At.upd (a:=[]) (av 3 nu ma k4.length 0) (R5 m A)
 generalize hcr:k4.length=cr at *
 generalize (k4++[Nd.lst ((as.map (·.1)).map .loc)]).set h.length (av 3 nu ma cr 0)=k6 at *
 have R7:=fun m A=>At.new (Nd.lst []) (a:=[_,_,_,_]) (R6 m A)
 have s4:∀ ρ,fL [15] "entries" ρ (.loc k6.length) (.loc h.length) (k6++[Nd.lst []])=some (.nx ρ,(k6++[Nd.lst []]).set h.length (av 4 nu ma cr k6.length)):=fun ρ=>yfm ((R7 [] e0).get 0 rfl) (by decide) (by kernel_rfl!)
 have R8:=fun m A=>At.upd (a:=[]) (av 4 nu ma cr k6.length) (R7 m A)
 refine ⟨_,⟨h.length,nu,ma,cr,k6.length⟩,as,?_,rfl,fun m A=>⟨R8 m A,q4⟩⟩
 have l0:∀ k,ybe [.lst (bx.map .int)] k=some (.lst (bx.map .int),k):=fun _=>rfl
 have lw:(((bx.map PV.int).length:Nat):Int)=bx.length:=by rw [length_map]
 unfold ybA
 rw [yp]
 show ob (yn _ _ [.val (.loc h.length),.val (.lst (bx.map .int)),.val (.lst (hsV hs))] k0) fnK=_
 simp_all? only [ywx,c0,l0,hnu,s1,lw]
 rw [if_pos (by omega),yDs]
 have i1:xIL (yT ybP (yc (yf 2) (yk))) [.val (.loc h.length),.val (.lst (bx.map .int)),.val (.lst (hsV hs))] k2=some (hs.map fun p=>.lst (p.map ynV),k3):=by
  unfold xIL
  simp_all? only [q1]
 have l8:((hs.map fun p=>PV.lst (p.map ynV)).length<=100000)=True:=eq_true (by rw [length_map];omega)
 simp_all? only [ywx,hma,s2,i1,l8,q3,hcr,s3,s4]
end
section
variable {h:AH}{ns:List Int}{g:HC}{bx hs:List Int}{as3:List (Nat×Lc)}{xs3:List HD}{a b:Nat×Lc}{x y:HD}{q:LB}{wr sn:List (Nat×Int×Int)}
theorem ywV {ts:List T}{os:List PV}{v4 v8 v10 v11 v12:PVar}(X:HH h g bx.length bx (replicate bx.length 0) [] (a::b::as3) (x::y::xs3) (LO q bx hs wr sn)) (I:LI bx.length bx (replicate bx.length 0) hs wr sn) (es:x.s=sOf ts.length hs wr sn) (hr:x.rows=(ts.map rwT++[Rw.lay]).map yO) (hn:x.nth=0) (hn':x.ds.length=1) (hs0:x.sl=false)
  (ho:∀ z∈y::xs3,z.sl=false) (hy:y.nth=0) (hys:y.s.hs=[0,0,0,0,0,0,0,0]) (hyo:atI [PV.str "ended",.str "awake"] (os.length:Nat)=some (.str (stX y))) (ht:ts.length<=100) :
  ∃ h',ob (lwR (lwP ns (bx.length:Nat) q (ts.map fun t=>yO (rwT t)) v4 (.val (.lst os)) g.H v8 v10 v11 v12) h) fnK=some (.bl true,h'):=by
 have w16:=I.w16
 have sl:=yeR I.sd I.sb
 have wl:=yeR I.wd I.wb
 obtain ⟨l,el,pl⟩:=yfL sn (by omega)
 obtain ⟨m,em,pm⟩:=yfL wr (by omega)
 have ll:l.length<=1000:=by have:=pl.length_eq;rw [length_map] at this;omega
 have el':sortI (sK x.s.sn) (sA x.s.sn)=some (l.map yY):=by rw [es];exact el
 obtain ⟨h3,q3,X3⟩:=yhd (o:=0) (wh:=0) X el' ll (by rw [es];exact I.h8) hn (by
  unfold stX
  rw [if_neg (by omega),if_neg (by rw [hs0];decide)]
  rfl)
 have q3:ybf [.loc g.H,.lst (hs.map .int),.lst (l.map yY),.int 0,.int 0] h=some (.bl true,h3):=by rw [es] at q3;exact q3
 have gH3:=X3.at_.get 0 rfl
 have st:=ywL X3
 have ok:=I.ok ts.length
 rw [<- es] at ok
 have F:=I.nf ts.length
 rw [<- es] at F
 have mb:∀ p∈m,p.1<bx.length:=fun p hp=>by
  obtain ⟨u,hu,rfl⟩:=List.mem_map.mp (pm.mem_iff.mp hp)
  exact I.wb u hu
 obtain ⟨h4,c',e',q4,X4⟩:=yCu (as1:=[]) (xs1:=[]) (d:=(sK wr,sA wr)) (ls:=m) (L:=l.map yY) (rows':=[]) X3 rfl I.sl I.w1 hr (by omega) hs0 F (by rw [es];exact I.fr) (by rw [es];show (ts.map rwT++[Rw.lay])[ts.length]?=_;rw [getElem?_append_right (by rw [length_map];omega),length_map,sub_self];rfl) ok (by rw [es];rfl) em mb el' (.inr ⟨by omega,rfl⟩) (by simp) ho
 have q4:yJ [.loc g.H,.int 0] h3=some (.tup [.str "done",.int (ts.length:Nat)],h4):=by rw [es] at q4;exact q4
 have a4:ym 10 [.tup [.str "done",.int (ts.length:Nat)],.tup [.str "done",.int (ts.length:Nat)]] h4=some (.bl true,h4):=yhc (by simp) fun z hz=>by
  rcases mem_cons.mp hz with rfl|hz
  .trivial
  .rw [List.mem_singleton.mp hz];trivial
 obtain ⟨h5,v13,v14,q5,X5⟩:=yCw (ns:=ns) (M:=(bx.length:Nat)) (P:=ts.map fun t=>yO (rwT t)) (v4:=v4) (v5:=.val (.lst os)) (v8:=v8) (v10:=v10) (v11:=v11) (v12:=.val (.lst (hs.map .int))) (v13:=.no) (v14:=.no) (H:=g.H) X4 I.wb
 have nd:(m.map (·.1)).Nodup:=by
  have:=pm.map (·.1)
  rw [map_map] at this
  exact this.nodup_iff.mpr I.wd
 have ep:ykB bx m=ykB bx (wr.map pr2):=ytc pm nd bx
 have gH5:=X5.at_.get 0 rfl
 have b5:=yus X5
 have a5:ym 10 [.lst ((ykB bx m).map .int),.loc q.b] h5=some (.bl true,h5):=by
  rw [ep]
  exact yex (yxj _) (yxk (X5.get 0 rfl)) (by rw [ymT];omega)
 obtain ⟨h6,q6,X6⟩:=yhd (o:=2) (wh:=1) (l:=[]) X5 rfl (by simp) (by show x.s.hs.length=8;rw [es];exact I.h8) (by show x.nth+1=1;omega) (by
  unfold stX
  rw [if_pos (by show x.nth+1=x.ds.length;omega)]
  rfl)
 have e6:x.s.hs=hs:=by rw [es];rfl
 have q6:ybf [.loc g.H,.lst (x.s.hs.map .int),.lst [],.int 1,.int 2] h5=some (.bl true,h6):=q6
 rw [e6] at q6
 have gH6:=X6.at_.get 0 rfl
 have s7:ycN [.loc g.H,.int 1] h6=some (.lst (([0,0,0,0,0,0,0,0]:List Int).map .int),h6):=by
  have:=yzX (as1:=[(a.1,c')]) (xs1:=[_]) X6 rfl
  rwa [show ((([(a.1,c')]:List (Nat×Lc)).length:Nat):Int)=1 from rfl,hys] at this
 have s8:ybR [.loc g.H,.int 1] h6=some (.int 0,h6):=by
  have:=yut (as1:=[(a.1,c')]) (xs1:=[_]) X6 rfl
  rwa [show ((([(a.1,c')]:List (Nat×Lc)).length:Nat):Int)=1 from rfl,hy] at this
 have s9:ybQ [.loc g.H,.int 1] h6=some (.str (stX y),h6):=by
  have:=yuu (as1:=[(a.1,c')]) (xs1:=[_]) X6 rfl
  rwa [show ((([(a.1,c')]:List (Nat×Lc)).length:Nat):Int)=1 from rfl] at this
 have tl:=yuy (ρ:=lwP ns (bx.length:Nat) q (ts.map fun t=>yO (rwT t)) v4 (.val (.lst os)) g.H v8 v10 v11 v12) (X.get 1 rfl) I.h8 (fun _=>rfl)
 have sv:=yuz (e:=xOp (ybD) (yf 9) (xC (.int 2))) (ρ:=lwP ns (bx.length:Nat) q (ts.map fun t=>yO (rwT t)) v4 (.val (.lst os)) g.H v8 v10 v11 (.val (.lst (hs.map .int)))) (h:=h) (n:=q.v) rfl (X.get 3 rfl) el
 refine ⟨h6,?_⟩
 unfold lwR
 try unfold fiB
 unfold fiB lwQ at q5
 unfold lwP at tl sv ⊢
 simp_all? only [yqI,yux,tl,sv,q3,yeJ,yI (m:="stamps") gH3 (by rfl'),st,yDs,yAe,yI (m:="turn") gH3 (by rfl'),q4,length_map,a4,q5,yI (m:="boxes") gH5 (by rfl'),b5,a5,q6,yI (m:="slots") gH6 (by rfl'),s7,hyo,↓reduceIte]
 rw [if_pos (by rw [Int.toNat_natCast];omega),if_pos (by decide),show repL 8 [PV.int 0]=([0,0,0,0,0,0,0,0]:List Int).map .int from rfl,yAf]
 simp_all? only [yI (m:="which") gH6 (by rfl'),s8,yI (m:="state") gH6 (by rfl'),s9]
end
section
variable {h:AH}
theorem yuA {ts:List T}(g:gdL ts) (hn:ts.length<=79):Rdb (yly ts,ts.map rwT++[Rw.lay]):=fun h=>by
 refine ⟨_,?_,fun m A=>At.seen (d:=rdr (wdL ts) 0) (d':=rdr (wdL ts) (0+(wdL ts).length)) A⟩
 show yT ydB (yc (yT yhT (yc (yf 0) yk)) yk) [.val (.str (yly ts))] h=_
 simp_all? only [ywt g hn,ynG hn]
 rfl
def ynJ (c:Int):Int:=c*48271%2147483647
def lc (k:Int):Nat:=97+k.toNat
def slV (k:Int):Str:=⟨#[lc k]⟩
noncomputable def wdW (k:Int):Str:=if k=0 then "plus" else if k=1 then "minus" else if k=2 then "times" else if k=3 then "less" else "same"
def pT (c:Int):T:=if ynJ c%7<2 then .let_ (slV (ynJ c/7%8)) (ywS c) else if ynJ c%7=2 then .reckon (wdW (ynJ c/3584%5)) (slV (ynJ c/7%8)) (slV (ynJ c/56%8)) (slV (ynJ c/448%8))
 else if ynJ c%7<5 then .take (slV (ynJ c/7%8)) (slV (ynJ c/56%8)) else .put (slV (ynJ c/7%8)) (slV (ynJ c/56%8))
theorem yCx (v:Int):atI ("abcdefgh":Str).cps.toList (v%8)=some (lc (v%8)):=by
 have h:=ymN v (show (0:Int)<8 by decide)
 rw [show ("abcdefgh":Str).cps.toList=[97,98,99,100,101,102,103,104] by rfl']
 generalize v%8=k at *
 have:k=0\/k=1\/k=2\/k=3\/k=4\/k=5\/k=6\/k=7:=by omega
 rcases this with rfl|rfl|rfl|rfl|rfl|rfl|rfl|rfl
 all_goals rfl
theorem yCy (v:Int):atI [PV.str "plus",PV.str "minus",PV.str "times",PV.str "less",PV.str "same"] (v%5)=some (.str (wdW (v%5))):=by
 have h:=ymN v (show (0:Int)<5 by decide)
 generalize v%5=k at *
 have:k=0\/k=1\/k=2\/k=3\/k=4:=by omega
 rcases this with rfl|rfl|rfl|rfl|rfl
 all_goals rfl
theorem ykl (v:Int):ycR (slV (v%8)):=by
 have h:=ymN v (show (0:Int)<8 by decide)
 exact ⟨lc (v%8),by unfold lc;omega,by unfold lc;omega,rfl⟩
theorem yCz (k:Int):ydk (wdW k):=by
 unfold wdW ydk
 repeat' split
 all_goals simp
theorem yCA (c:Int):gdT (pT c):=by
 unfold pT
 split
 .exact ⟨ykl _,yqH c⟩
 split
 .exact ⟨yCz _,ykl _,ykl _,ykl _⟩
 split
 .exact ⟨ykl _,ykl _⟩
 .exact ⟨ykl _,ykl _⟩
theorem ytl (c:Int):ycI [.int c] h=some (yO (rwT (pT c)),h):=by
 have mx:c*48271%2147483647=ynJ c:=rfl
 have mk:MulOk c 48271=True:=ymk (by decide) (by decide)
 unfold ycI
 rw [yp]
 show ob (yn _ _ [.val (.int c),.no,.no,.no] h) fnK=_
 unfold pT
 simp_all? only [mk,mx,yga,yCx,yCy,↓reduceIte]
 repeat' split
 all_goals rfl
end
section
variable {h:AH}
theorem yuB {sep:Str}{ts:List Str}(hs:sep.length<=16) (hl:(ts.map (·.length)).sum+ts.length<=1048576):yjF (.str sep) [.lst (ts.map .str)] h=some (.str (Str.join sep ts),h):=by
 unfold yjF yba
 simp only [yhF]
 exact if_pos ⟨hs,hl⟩
theorem yqP {α:Type}{f:α->Nat}{B:Nat}:∀ l:List α,(∀ a∈l,f a<=B)->(l.map f).sum<=l.length*B
 | [],_=>by simp
 | a::l,k=>by
  have h1:=k a mem_cons_self
  have h2:=yqP l fun b hb=>k b (mem_cons_of_mem _ hb)
  rw [map_cons,List.sum_cons,length_cons,Nat.add_mul]
  omega
theorem ywW {t:T}(g:gdT t) {ρ:PSt}:∃ xs,yO (rwT t)=.tup xs/\xs.length<=4/\ygt (xCB (yho) (yc (yf 0) (yk))) (yeY [] ρ) xs h=some ((wdT t).map .str,h):=by
 have s0:∀ z:Str,yho [.str z] h=some (.str z,h):=fun _=>yvT
 cases t with
 | let_ r n =>
  refine ⟨_,rfl,by simp,?_⟩
  have s1:yho [.int n] h=some (.str (toString n:String),h):=by rw [yvS,if_pos (yAc g.2)]
  have e:∀ z ρ',xCB (yho) (yc (yf 0) (yk)) (.val (.str z)::ρ') h=some (.str z,h):=fun z ρ'=>by simp_all? only [s0]
  have e1:xCB (yho) (yc (yf 0) (yk)) [.val (.int n)] h=some (.str (toString n:String),h):=by
   have lg:(n.natAbs.log2<1920)=True:=eq_true (yAc g.2)
   simp_all? only [s1,lg,↓reduceIte]
  show ob (xCB _ _ [.val (.str "let")] h) (fun y h1=>ob (ob (xCB _ _ [.val (.str r)] h1) fun y h1=>ob (ob (xCB _ _ [.val (.int n)] h1) fun y h2=>ob (some ([],h2)) _) _) _)=_
  rw [e,ybZ,e,ybZ,e1]
  rfl
 | reckon w r s u=>exact ⟨_,rfl,by simp,rfl⟩
 | take r s=>exact ⟨_,rfl,by simp,rfl⟩
 | put r s=>exact ⟨_,rfl,by simp,rfl⟩
theorem yAh {l:List Str}(f:frs l):(l.map (·.length)).sum<=l.length*20:=yqP l fun w hw=>(f w hw).2.2
theorem yCB {t:T}(g:gdT t):ptE [.val (yO (rwT t))] h=some (.str (shT t),h):=by
 obtain ⟨xs,e1,e2,e3⟩:=ywW (h:=h) g (ρ:=[.val (yO (rwT t))])
 have it:xIT (yf 0) [.val (yO (rwT t))] h=some (xs,h):=by
  rw [e1]
  rfl
 have l0:(xs.length<=100000)=True:=eq_true (by omega)
 have fs:=yAh (ysK g)
 have wl:=ymR t
 have j:=yuB (h:=h) (sep:=" ") (ts:=wdT t) (by rfl') (by omega)
 unfold ptE
 simp_all? only [it,l0,e3,j,show isStr (.str " ") h=true from rfl,↓reduceIte]
 rfl
theorem yAi {t:T}(g:gdT t):(shT t).length<=92:=by
 have:=yiG " " (by rfl') (wdT t) (ysK g)
 have:=ymR t
 unfold shT
 omega
theorem ytm {ts:List T}(g:gdL ts) (hn:ts.length<=79):yjF (.str " ; ") [.lst (ts.map fun t=>.str (shT t))] h=some (.str (yly ts),h):=by
 have e:(ts.map fun t=>PV.str (shT t))=(ts.map shT).map .str:=by rw [map_map];rfl
 have sl:=yqP (f:=fun t=>(shT t).length) (B:=92) ts fun t ht=>yAi (g t ht)
 rw [e,yuB (by rfl') (by
  rw [length_map,map_map]
  have:(ts.map ((fun x=>x.length) ∘ shT)).sum=(ts.map fun t=>(shT t).length).sum:=rfl
  omega)]
 rfl
end
def lwH:XS:=(yn (ycl (yfU 15 ybA (yc (xFz (yjA (ybe) (yc (yf 2) (yk)))) (yc (xFz (yeA (yc (xFz (yeA (yc (yf 4) (yk)))) (yc (xFz (yjA (ybe) (yc (yf 5) (yk)))) (yk))))) (yk)))) (yz 6)) lwS)
section
variable {h:AH}{ns:List Int}{g:HC}{bx sp:List Int}{en:List PV}{as:List (Nat×Lc)}{xs:List HD}{own own':List (Nat×Nd)}{w:Int}
theorem HH.perm (X:HH h g w bx sp en as xs own) (p:own'.Perm own):HH h g w bx sp en as xs own':=by
 refine ⟨?_,X.ly⟩
 have A:=X.at_
 rw [yek] at A ⊢
 exact A.perm (List.Perm.append_left _ (List.Perm.append_left _ p))
theorem ywX {ks:List Key}{ys:List PV}{j:Key}{v:PV}:(ycq ks ys j v).1.length<=ks.length+1:=by
 unfold ycq
 split
 .exact Nat.le_succ _
 .simp
def yeT (d:List Key×List PV) (c:Nat):List Key×List PV:=ycq d.1 d.2 (.inr ⟨#[c]⟩) (.int 0)
theorem yqQ {n:Nat}{a0 a1 a2 a3 a4 a5 a6:PVar}:∀ (l:List Nat) (d:List Key×List PV) (h:AH) (v:PVar),h[n]?=some (.dct d.1 d.2)->d.1.length+l.length<1000 ->
  ∃ v',yeU (yz 8) slB (l.map sgn) [a0,a1,a2,a3,a4,a5,a6,.val (.loc n),v,.no,.no,.no,.no,.no,.no] h=some (.nx [a0,a1,a2,a3,a4,a5,a6,.val (.loc n),v',.no,.no,.no,.no,.no,.no],h.set n (.dct (l.foldl yeT d).1 (l.foldl yeT d).2))
 | [],d,h,v,e,_=>⟨v,by
  show some (Out.nx _,h)=some (Out.nx _,h.set n (.dct d.1 d.2))
  obtain ⟨hn,he⟩:=List.getElem?_eq_some_iff.mp e
  rw [<- he,List.set_getElem_self]⟩
 | c::l,d,h,v,e,hl=>by
  have hn:n<h.length:=(List.getElem?_eq_some_iff.mp e).1
  have hl:d.1.length+(l.length+1)<1000:=hl
  have e1:slB [a0,a1,a2,a3,a4,a5,a6,.val (.loc n),.val (sgn c),.no,.no,.no,.no,.no,.no] h=some (.nx [a0,a1,a2,a3,a4,a5,a6,.val (.loc n),.val (sgn c),.no,.no,.no,.no,.no,.no],h.set n (.dct (yeT d c).1 (yeT d c).2)):=by
   show dpK _ (.int 0) (.loc n) (.str ⟨#[c]⟩) h=_
   unfold dpK
   simp only [e,keyOf]
   rw [if_pos (by omega)]
   rfl
  have pl:(yeT d c).1.length<=d.1.length+1:=ywX
  obtain ⟨v',q⟩:=yqQ l (yeT d c) (h.set n (.dct (yeT d c).1 (yeT d c).2)) (.val (sgn c)) (getElem?_set_self hn) (by omega)
  refine ⟨v',?_⟩
  rw [map_cons,ywI (ρ1:=[a0,a1,a2,a3,a4,a5,a6,.val (.loc n),.val (sgn c),.no,.no,.no,.no,.no,.no]) rfl e1,q,List.set_set]
  rfl
theorem yCC:([97,98,99,100,101,102,103,104]:List Nat).foldl yeT ([],[])=(LK,Z8.map .int):=by kernel_rfl!
theorem li0 (h1:1<=bx.length) (h16:bx.length<=16) (hb:∀ v∈bx,0<=v/\v<B64):LI bx.length bx (replicate bx.length 0) Z8 [] []:=⟨rfl,by decide,List.nodup_nil,fun p hp=>(by cases hp),fun p hp=>(by cases hp),List.nodup_nil,fun p hp=>(by cases hp),rfl,h16,rfl,by simp,h1,hb⟩
theorem yAj {ts:List T}{b0:Nat}{a b:Nat×Lc}{x y:HD}{os:List PV}{v4:PVar}(X:HH h g bx.length bx (replicate bx.length 0) [] [a,b] [x,y] [(b0,.lst (bx.map .int))]) (h1:1<=bx.length) (h16:bx.length<=16) (hb:∀ v∈bx,0<=v/\v<B64) (gd:gdL ts) (ht:ts.length<=79)
  (es:x.s=S0 Z8) (hr:x.rows=(ts.map rwT++[Rw.lay]).map yO) (hn:x.nth=0) (hn':x.ds.length=1) (hs0:x.sl=false) (hy0:y.sl=false) (hy:y.nth=0) (hys:y.s=S0 Z8) (hyo:atI [PV.str "ended",.str "awake"] (os.length:Nat)=some (.str (stX y))) :
  ∃ h',ob (lwS [.val (.scr ns),.val (.int (bx.length:Nat)),.val (.loc b0),.val (.lst (ts.map fun t=>yO (rwT t))),v4,.val (.lst os),.val (.loc g.H),.no,.no,.no,.no,.no,.no,.no,.no] h) fnK=some (.bl true,h'):=by
 have X1:=X.new (.dct [] [])
 obtain ⟨v8,q1⟩:=yqQ (n:=h.length) (a0:=.val (.scr ns)) (a1:=.val (.int (bx.length:Nat))) (a2:=.val (.loc b0)) (a3:=.val (.lst (ts.map fun t=>yO (rwT t)))) (a4:=v4) (a5:=.val (.lst os)) (a6:=.val (.loc g.H)) [97,98,99,100,101,102,103,104] ([],[]) (h++[Nd.dct [] []]) .no (X1.get 0 rfl) (by decide)
 rw [yCC] at q1
 have X2:=X1.upd (o1:=[]) (.dct LK (Z8.map .int))
 have q1:yeU (yz 8) slB L8 [.val (.scr ns),.val (.int (bx.length:Nat)),.val (.loc b0),.val (.lst (ts.map fun t=>yO (rwT t))),v4,.val (.lst os),.val (.loc g.H),.val (.loc h.length),.no,.no,.no,.no,.no,.no,.no] (h++[Nd.dct [] []])=some (.nx [.val (.scr ns),.val (.int (bx.length:Nat)),.val (.loc b0),.val (.lst (ts.map fun t=>yO (rwT t))),v4,.val (.lst os),.val (.loc g.H),.val (.loc h.length),v8,.no,.no,.no,.no,.no,.no],(h++[Nd.dct [] []]).set h.length (.dct LK (Z8.map .int))):=q1
 generalize (h++[Nd.dct [] []]).set h.length (.dct LK (Z8.map .int))=k1 at *
 have X3:=(X2.new (.dct [] [])).new (.dct [] [])
 have lk:(k1++[Nd.dct [] []]).length=k1.length+1:=by simp
 rw [lk] at X3
 have X4:HH (k1++[Nd.dct [] []]++[Nd.dct [] []]) g bx.length bx (replicate bx.length 0) [] [a,b] [x,y] (LO ⟨b0,h.length,k1.length,k1.length+1⟩ bx Z8 [] []):=X3.perm (List.reverse_perm [(k1.length+1,Nd.dct [] []),(k1.length,Nd.dct [] []),(h.length,Nd.dct LK (Z8.map .int)),(b0,Nd.lst (bx.map .int))])
 obtain ⟨h5,hs',wr',sn',c',v10,v11,v12,q2,X5,I5⟩:=ywU (ns:=ns) (M:=(bx.length:Nat)) (v4:=v4) (v5:=.val (.lst os)) (v8:=v8) (v10:=.no) (v11:=.no) (v12:=.no) (ts:=ts) X4 (li0 h1 h16 hb) gd es hr hn hn' hs0
 obtain ⟨h6,q3⟩:=ywV (ns:=ns) (v4:=v4) (v8:=v8) (v10:=v10) (v11:=v11) (v12:=v12) (os:=os) X5 I5 rfl hr hn hn' hs0 (fun z hz=>by rw [List.mem_singleton.mp hz];exact hy0) hy (by rw [hys];rfl) hyo (by omega)
 refine ⟨h6,?_⟩
 have ir:ymf (yc (xCB (yce) (yc (yf 3) (yk))) (yk)) (lwP ns (bx.length:Nat) ⟨b0,h.length,k1.length,k1.length+1⟩ (ts.map fun t=>yO (rwT t)) v4 (.val (.lst os)) g.H v8 .no .no .no) (k1++[Nd.dct [] []]++[Nd.dct [] []])=some (ygH 0 ts.length,k1++[Nd.dct [] []]++[Nd.dct [] []]):=ypp (j:=(ts.length:Int)) (by
  show some ([PV.int ((ts.map fun t=>yO (rwT t)).length:Nat)],_)=_
  rw [length_map]) (by omega) (by omega)
 have nw:∀ ρ h,yip ρ h=some (Nd.dct [] [],h):=fun _ _=>rfl
 unfold lwS
 unfold lwP at q2 q3 ir
 dsimp only at q2 q3 ir
 simp_all? only [yqI,nw,q1,lk,ir,q2]
 exact q3
end
section
variable {h:AH}{ns:List Int}{bx:List Int}
def oD (b:Bool):List (Str×List Rw):=if b then [(yly [.let_ "a" 4],([T.let_ "a" 4].map rwT++[Rw.lay]))] else []
theorem yCD (b:Bool):∀ d∈oD b,Rdb d:=fun d hd=>by
 cases b with
 | false=>cases hd
 | true =>
  rw [List.mem_singleton.mp hd]
  exact yuA (fun t ht=>by rw [List.mem_singleton.mp ht];exact ⟨⟨97,by decide,by decide,by rfl'⟩,by decide,by decide⟩) (by decide)
theorem yCE (b:Bool):atI [PV.str "ended",.str "awake"] (((oD b).map txV).length:Nat)=some (.str (stX (hd0 (oD b)))):=by cases b<;>rfl
theorem yAk {as:List (Nat×Lc)}{x y:HD}(L:LyOk as [x,y]):∃ a b,as=[a,b]:=by
 have:=L.len
 match as,this with
 | [a,b],_=>exact ⟨a,b,rfl⟩
theorem yAl {ts:List T}{b0:Nat}{c:Bool}(e:h[b0]?=some (.lst (bx.map .int))) (h1:1<=bx.length) (h16:bx.length<=16) (hb:∀ v∈bx,0<=v/\v<B64) (gd:gdL ts) (ht:ts.length<=79) :
  ∃ h',ob (lwH [.val (.scr ns),.val (.int (bx.length:Nat)),.val (.loc b0),.val (.lst (ts.map fun t=>yO (rwT t))),.val (.str (yly ts)),.val (.lst ((oD c).map txV)),.no,.no,.no,.no,.no,.no,.no,.no,.no] h) fnK=some (.bl true,h'):=by
 obtain ⟨h2,g,as,q1,gH,XX⟩:=yqO (h:=h) (hs:=[[(yly ts,ts.map rwT++[Rw.lay])],oD c]) h1 h16 hb (fun p hp=>by
  rcases mem_cons.mp hp with rfl|hp
  .exact ⟨by simp,fun d hd=>by rw [List.mem_singleton.mp hd];exact yuA gd ht⟩
  .rw [List.mem_singleton.mp hp]
   exact ⟨by cases c<;>decide,yCD c⟩) (by simp) (by simp)
 have X:=XX [(b0,.lst (bx.map .int))] ⟨by simp,fun p hp=>by rw [List.mem_singleton.mp hp];exact e⟩
 obtain ⟨a,b,rfl⟩:=yAk X.ly
 obtain ⟨h3,q2⟩:=yAj (ns:=ns) (v4:=.val (.str (yly ts))) (os:=(oD c).map txV) X h1 h16 hb gd ht rfl rfl rfl rfl rfl rfl rfl rfl (yCE c)
 refine ⟨h3,?_⟩
 have lb:=yes e
 have lo:ybe [.lst ((oD c).map txV)] h=some (.lst ((oD c).map txV),h):=rfl
 have q1:ybA [.loc h.length,.lst (bx.map .int),.lst [.lst [.str (yly ts)],.lst ((oD c).map txV)]] (h++[Nd.ins 15 [] []])=some (.non,h2):=q1
 rw [gH] at q2
 unfold lwH
 simp_all? only [ypE,lb,lo,q1]
 exact q2
end
def bxV (W:Nat) (c:Int):List Int:=(List.range W).map fun (k:Nat)=>ywS (c+31*(k:Int)*k)
theorem ytn (cs:List Int) (lo hi:Option Int):yrV (cs.map PV.int) lo hi=(yrV cs lo hi).map .int:=by
 unfold yrV
 rw [length_map,List.map_take,List.map_drop]
theorem yAm (cs:List Int):(yrV cs (some 3) (some 63)).length<=60:=by
 unfold yrV
 rw [show (3:Int)=((3:Nat):Int) from rfl,show (63:Int)=((63:Nat):Int) from rfl,HT.sIx_nat,HT.sIx_nat,length_take]
 omega
section
variable {h:AH}{ns:List Int}{W:Nat}
theorem yCF {ρ:PSt}(hρ:ρ[0]?=some (.val (.scr ns))) (h16:W<=16):ygt bxE (yeY [0] ρ) (ygH 0 W) h=some ((bxV W (ns.getD 1 0)).map .int,h):=by
 have c1:yL [.scr ns,.int 1] h=some (.int (ns.getD 1 0),h):=yey 1
 have hi:∀ x,yeY [0] ρ x=[.val x,.val (.scr ns)]:=fun x=>by
  unfold yeY yoN
  simp [hρ]
 unfold ygH bxV
 rw [map_map]
 refine (ydK (fun k:Nat=>PV.int (0+(k:Int))) _ fun k hk=>?_)
 have hk:=List.mem_range.mp hk
 rw [hi]
 have m1:PX.MulOk 31 (k:Int)=True:=ymk (by omega) (by omega)
 have m2:PX.MulOk (31*(k:Int)) (k:Int)=True:=ymk (by omega) (by omega)
 have z:(0:Int)+(k:Int)=k:=by omega
 rw [z]
 unfold bxE
 simp_all? only [c1,m1,m2,yga]
 rfl
theorem yDP (v:Int):∃ c:Bool,atI [PV.lst [],PV.lst [.str "let a 4"]] (v%2)=some (.lst ((oD c).map txV)):=by
 have h:=ymN v (show (0:Int)<2 by decide)
 generalize v%2=k at *
 have:k=0\/k=1:=by omega
 rcases this with rfl|rfl
 .exact ⟨false,rfl⟩
 .exact ⟨true,by
   show some (PV.lst [.str "let a 4"])=some (PV.lst [.str (yly [.let_ "a" 4])])
   rw [show yly [.let_ "a" 4] = "let a 4" by rfl']⟩
theorem yAn (ns:List Int) (hl:ns.length<=63):∃ h',ysH [.scr ns] h=some (.bl true,h'):=by
 obtain ⟨W,hW⟩:∃ W:Nat,1+ns.getD 0 0%16=(W:Nat):=⟨(1+ns.getD 0 0%16).toNat,by omega⟩
 have h1:1<=W:=by omega
 have h16:W<=16:=by omega
 have c0:yL [.scr ns,.int 0] h=some (.int (ns.getD 0 0),h):=yey 0
 have c2:∀ h,yL [.scr ns,.int 2] h=some (.int (ns.getD 2 0),h):=fun _=>yey 2
 have i1:ymf (yc (yf 1) (yk)) [.val (.scr ns),.val (.int (W:Nat)),.no,.no,.no,.no,.no,.no,.no,.no,.no,.no,.no,.no,.no] h=some (ygH 0 W,h):=by
  show (if -1000000000<=((W:Nat):Int)/\((W:Nat):Int)<=1000000000 then some (ygH 0 ((W:Nat):Int).toNat,h) else none)=_
  rw [if_pos (by omega)]
  rfl
 have l1:((ygH 0 W).length<=100000)=True:=eq_true (by simp [ygH];omega)
 have b1:=yCF (h:=h) (ns:=ns) (W:=W) (ρ:=[.val (.scr ns),.val (.int (W:Nat)),.no,.no,.no,.no,.no,.no,.no,.no,.no,.no,.no,.no,.no]) rfl h16
 have bl:(bxV W (ns.getD 1 0)).length=W:=by simp [bxV]
 have bb:∀ i∈bxV W (ns.getD 1 0),0<=i/\i<B64:=fun i hi=>by
  obtain ⟨k,_,rfl⟩:=List.mem_map.mp hi
  exact yqH _
 generalize bxV W (ns.getD 1 0)=bx at *
 obtain ⟨c,oc⟩:=yDP (ns.getD 2 0)
 have cl:=yAm ns
 generalize hcs:yrV ns (some 3) (some 63)=cs at *
 have gd:gdL (cs.map pT):=fun t ht=>by
  obtain ⟨c,_,rfl⟩:=List.mem_map.mp ht
  exact yCA c
 have tl:(cs.map pT).length<=79:=by rw [length_map];omega
 have i3:∀ (ρ:PSt) (h:AH),xIL (xFz (yxX yyo (yf 0) (ylb (xC (.int 3))) (ylb (xC (.int 63))))) (.val (.scr ns)::ρ) h=some (cs.map .int,h):=fun ρ h=>by
  unfold xIL
  simp_all? only [ytn,hcs]
 have l3:((cs.map PV.int).length<=100000)=True:=eq_true (by rw [length_map];omega)
 have p3:∀ (ρ:PSt) (h:AH),ygt (yT ycI (yc (yf 0) (yk))) (yeY [] ρ) (cs.map .int) h=some ((cs.map pT).map fun t=>yO (rwT t),h):=fun ρ h=>by
  rw [map_map]
  exact ydK (f:=PV.int) (g:=(fun t=>yO (rwT t)) ∘ pT) fun c hc=>by
   show yT ycI (yc (yf 0) (yk)) [.val (.int c)] h=_
   simp_all? only [ytl]
   rfl
 generalize cs.map pT=ts at *
 have p4:∀ (ρ:PSt) (h:AH),ygt ptE (yeY [] ρ) (ts.map fun t=>yO (rwT t)) h=some (ts.map fun t=>.str (shT t),h):=fun ρ h=>ydK (f:=fun t=>yO (rwT t)) (g:=fun t=>.str (shT t)) fun t ht=>yCB (gd t ht)
 have l4:((ts.map fun t=>yO (rwT t)).length<=100000)=True:=eq_true (by rw [length_map];omega)
 subst bl
 have fin:∀ {h:AH}{b0:Nat},h[b0]?=some (.lst (bx.map .int))->∃ h',ob (lwH [.val (.scr ns),.val (.int (bx.length:Nat)),.val (.loc b0),.val (.lst (ts.map fun t=>yO (rwT t))),.val (.str (yly ts)),.val (.lst ((oD c).map txV)),.no,.no,.no,.no,.no,.no,.no,.no,.no] h) fnK=some (.bl true,h'):=fun e=>yAl e h1 h16 bb gd tl
 obtain ⟨h',q⟩:=fin (ydl (h:=h) (d:=.lst (bx.map .int)))
 refine ⟨h',?_⟩
 have jt:=fun h=>ytm (h:=h) gd tl
 unfold ysH
 rw [yp]
 show ob (yn _ (yn (ycl (ygd (ydd _ _ bxE)) _) (yn (ycl (xFz (ydd _ _ _)) _) (yn (ycl (xBM isStr yjF _ (yc (xFz (ydd (xIL (yf 3)) [] ptE)) yk)) _) (yn _ lwH)))) [.val (.scr ns),.no,.no,.no,.no,.no,.no,.no,.no,.no,.no,.no,.no,.no,.no] h) fnK=_
 have i4:∀ (v:PV) (ρ:PSt) (h:AH),xIL (yf 3) (.val (.scr ns)::.val (.int (bx.length:Nat))::.val v::.val (.lst (ts.map fun t=>yO (rwT t)))::ρ) h=some (ts.map fun t=>yO (rwT t),h):=fun _ _ _=>ynF rfl
 simp_all? only [c0,hW,i1,l1,b1,i3,l3,p3,i4,p4,l4,jt,c2,oc,↓reduceIte]
 exact q
end
end
def top (i:Nat):Stmt:=PySem.Challenge.pw_retryhall_k27_slots_and_saw_on_the_way.main.body.getD i (.Pass ⟨0,0,0,0⟩)
abbrev FR:=Str×Str×Stmt×Nat×List Str
abbrev fRw (x q:Str) (s:Stmt) (k:Nat) (n:List Str):FR:=(x,q,s,k,n)
abbrev mRw (k:Nat) (x:Str) (n:Nat):Nat×Str×Nat:=(k,x,n)
def r0:FR:=fRw "__init__" "Log.__init__" (inClass (top 8) 0) 1 ["self"]
def r1:FR:=fRw "write" "Log.write" (inClass (top 8) 1) 3 ["self","box","number","top"]
def r2:FR:=fRw "own" "Log.own" (inClass (top 8) 2) 2 ["self","box","layer"]
def r3:FR:=fRw "see" "Log.see" (inClass (top 8) 7) 3 ["self","box","number"]
def r4:FR:=fRw "saw" "Log.saw" (inClass (top 8) 8) 1 ["self"]
def r5:FR:=fRw "saw" "Log.saw" (inClass (top 8) 8) 1 ["self"]
def r6:FR:=fRw "wrote" "Log.wrote" (inClass (top 8) 9) 1 ["self","lowest"]
def r7:FR:=fRw "reckon" "reckon" (top 15) 3 ["word","one","other"]
def r8:FR:=fRw "is_whole" "is_whole" (top 16) 1 ["value"]
def r9:FR:=fRw "is_number" "is_number" (top 17) 1 ["value"]
def r10:FR:=fRw "is_made_of" "is_made_of" (top 23) 2 ["text","signs"]
def r11:FR:=fRw "number_of" "number_of" (top 18) 1 ["text","number"]
def r12:FR:=fRw "is_word" "is_word" (top 19) 1 ["text"]
def r13:FR:=fRw "is_slot" "is_slot" (top 20) 1 ["text"]
def r14:FR:=fRw "slot_index" "slot_index" (top 21) 1 ["slot"]
def r15:FR:=fRw "__init__" "Doer.__init__" (inClass (top 25) 0) 3 ["self","slots","width"]
def r16:FR:=fRw "held_in" "Doer.held_in" (inClass (top 25) 1) 2 ["self","slot"]
def r17:FR:=fRw "hold" "Doer.hold" (inClass (top 25) 2) 3 ["self","slot","number"]
def r18:FR:=fRw "box_at" "Doer.box_at" (inClass (top 25) 3) 2 ["self","place"]
def r19:FR:=fRw "do_reckon" "Doer.do_reckon" (inClass (top 25) 4) 5 ["self","word","slot","one","other"]
def r20:FR:=fRw "do_put" "Doer.do_put" (inClass (top 25) 5) 3 ["self","place","slot"]
def r21:FR:=fRw "sees_at" "Doer.sees_at" (inClass (top 25) 6) 2 ["self","place"]
def r22:FR:=fRw "take_own" "Doer.take_own" (inClass (top 25) 7) 3 ["self","slot","place"]
def r23:FR:=fRw "take_seen" "Doer.take_seen" (inClass (top 25) 8) 4 ["self","slot","place","numbers","box"]
def r24:FR:=fRw "__init__" "Run.__init__" (inClass (top 28) 0) 4 ["self","rows","slots","width"]
def r25:FR:=fRw "row" "Run.row" (inClass (top 28) 1) 1 ["self"]
def r26:FR:=fRw "is_stale" "Run.is_stale" (inClass (top 28) 2) 2 ["self","stamps"]
def r27:FR:=fRw "is_looked_over" "Run.is_looked_over" (inClass (top 28) 4) 1 ["self","row"]
def r28:FR:=fRw "see_next" "Run.see_next" (inClass (top 28) 5) 3 ["self","numbers","stamps","row","box"]
def r29:FR:=fRw "go_plain" "Run.go_plain" (inClass (top 28) 7) 2 ["self","row"]
def r30:FR:=fRw "go" "Run.go" (inClass (top 28) 6) 1 ["self","row"]
def r31:FR:=fRw "state" "Hand.state" (inClass (top 29) 1) 1 ["self"]
def r32:FR:=fRw "new_run" "Hand.new_run" (inClass (top 29) 2) 1 ["self","rows"]
def r33:FR:=fRw "go_on" "Hand.go_on" (inClass (top 29) 5) 2 ["self","slots"]
def r34:FR:=fRw "__init__" "Hand.__init__" (inClass (top 29) 0) 3 ["self","deeds","width"]
def r35:FR:=fRw "__init__" "Let.__init__" (inClass (top 33) 0) 3 ["self","slot","number"]
def r36:FR:=fRw "__init__" "Reckon.__init__" (inClass (top 34) 0) 5 ["self","word","slot","one","other"]
def r37:FR:=fRw "__init__" "Take.__init__" (inClass (top 35) 0) 3 ["self","slot","place"]
def r38:FR:=fRw "__init__" "Put.__init__" (inClass (top 36) 0) 3 ["self","place","slot"]
def r39:FR:=fRw "long" "Let.long" (inClass (top 33) 2) 1 ["self"]
def r40:FR:=fRw "long" "Reckon.long" (inClass (top 34) 2) 1 ["self"]
def r41:FR:=fRw "long" "Take.long" (inClass (top 35) 2) 1 ["self"]
def r42:FR:=fRw "long" "Put.long" (inClass (top 36) 2) 1 ["self"]
def r43:FR:=fRw "list_long" "list_long" (top 31) 1 ["parts"]
def r44:FR:=fRw "plain_rows" "plain_rows" (top 46) 1 ["part"]
def r45:FR:=fRw "part_rows" "part_rows" (top 45) 2 ["part","first"]
def r46:FR:=fRw "list_rows" "list_rows" (top 44) 2 ["parts","first","rows","part"]
def r47:FR:=fRw "rows_of" "rows_of" (top 43) 1 ["deed"]
def r48:FR:=fRw "__init__" "Reader.__init__" (inClass (top 55) 0) 2 ["self","words"]
def r49:FR:=fRw "words_of" "words_of" (top 54) 1 ["text"]
def r50:FR:=fRw "ahead" "Reader.ahead" (inClass (top 55) 1) 1 ["self"]
def r51:FR:=fRw "taken" "Reader.taken" (inClass (top 55) 2) 1 ["self","word"]
def r52:FR:=fRw "pass_over" "Reader.pass_over" (inClass (top 55) 3) 2 ["self","wanted","word"]
def r53:FR:=fRw "slot_taken" "Reader.slot_taken" (inClass (top 55) 4) 1 ["self","word"]
def r54:FR:=fRw "number_taken" "Reader.number_taken" (inClass (top 55) 6) 1 ["self","word","number"]
def r55:FR:=fRw "reckon_taken" "Reader.reckon_taken" (inClass (top 55) 14) 2 ["self","word","slot","one","other"]
def r56:FR:=fRw "plain_taken" "Reader.plain_taken" (inClass (top 55) 13) 2 ["self","word","slot","place","name"]
def r57:FR:=fRw "part_taken" "Reader.part_taken" (inClass (top 55) 9) 2 ["self","around","word"]
def r58:FR:=fRw "list_taken" "Reader.list_taken" (inClass (top 55) 7) 2 ["self","around","parts"]
def r59:FR:=fRw "read" "read" (top 53) 1 ["text","reader","deed"]
def r60:FR:=fRw "check_boxes" "check_boxes" (top 60) 1 ["boxes"]
def r61:FR:=fRw "rows_of_deeds" "rows_of_deeds" (top 62) 1 ["texts"]
def r62:FR:=fRw "rows_of_hands" "rows_of_hands" (top 61) 1 ["hands"]
def r63:FR:=fRw "__init__" "Hall.__init__" (inClass (top 63) 0) 3 ["self","boxes","hands"]
def r64:FR:=fRw "boxes" "Hall.boxes" (inClass (top 63) 1) 1 ["self"]
def r65:FR:=fRw "stamps" "Hall.stamps" (inClass (top 63) 2) 1 ["self"]
def r66:FR:=fRw "hand_at" "Hall.hand_at" (inClass (top 63) 4) 2 ["self","hand"]
def r67:FR:=fRw "state" "Hall.state" (inClass (top 63) 5) 2 ["self","hand"]
def r68:FR:=fRw "which" "Hall.which" (inClass (top 63) 6) 2 ["self","hand"]
def r69:FR:=fRw "slots" "Hall.slots" (inClass (top 63) 7) 2 ["self","hand"]
def r70:FR:=fRw "saw" "Hall.saw" (inClass (top 63) 8) 2 ["self","hand"]
def r71:FR:=fRw "saw" "Hall.saw" (inClass (top 63) 8) 2 ["self","hand"]
def r72:FR:=fRw "slots" "Hall.slots" (inClass (top 63) 7) 2 ["self","hand"]
def r73:FR:=fRw "wake_stale" "Hall.wake_stale" (inClass (top 63) 13) 1 ["self","member"]
def r74:FR:=fRw "end_deed" "Hall.end_deed" (inClass (top 63) 14) 5 ["self","hand","end","laid","slots","member"]
def r75:FR:=fRw "lay_down" "Hall.lay_down" (inClass (top 63) 12) 2 ["self","hand","run","laid","pair","box"]
def r76:FR:=fRw "looked_over_told" "Hall.looked_over_told" (inClass (top 63) 11) 3 ["self","hand","row_number","member","row","box"]
def r77:FR:=fRw "turn" "Hall.turn" (inClass (top 63) 10) 2 ["self","hand","member","row_number"]
def r78:FR:=fRw "_law_cell_at" "_law_cell_at" (top 65) 2 ["_law_script","_law_k"]
def r79:FR:=fRw "_law_number_by" "_law_number_by" (top 66) 1 ["_law_cell","_law_part_here"]
def r80:FR:=fRw "_law_part" "_law_part" (top 67) 1 ["_law_cell","_law_mixed","_law_slots","_law_way"]
def r81:FR:=fRw "_law_reckoned" "_law_reckoned" (top 68) 3 ["_law_word","_law_one","_law_other"]
noncomputable def r82:FR:=fRw "_law_done" "_law_done" (top 69) 4 ["_law_part_here","_law_n","_law_boxes","_law_state","_law_slots","_law_wrote","_law_saw","_law_box"]
def r83:FR:=fRw "_law_alike" "_law_alike" (top 70) 2 ["_law_found","_law_due","_law_k"]
noncomputable def r84:FR:=fRw "_law_speaks" "_law_speaks" (top 71) 5 ["_law_hall","_law_slots","_law_saw","_law_which","_law_order","_law_k","_law_asked","_law_found"]
noncomputable def r85:FR:=fRw "law" "law" (top 72) 1 ["_law_script","_law_many","_law_boxes","_law_parts","_law_deed","_law_others","_law_hall","_law_slots","_law_letter","_law_state","_law_n","_law_due","_law_told","_law_box","_law_number"]
def fT:List FR:=[r0,r1,r2,r3,r4,r5,r6,r7,r8,r9,r10,r11,r12,r13,r14,r15,r16,r17,r18,r19,r20,r21,r22,r23,r24,r25,r26,r27,r28,r29,r30,r31,r32,r33,r34,r35,r36,r37,r38,r39,r40,r41,r42,r43,r44,r45,r46,r47,r48,r49,r50,r51,r52,r53,r54,r55,r56,r57,r58,r59,r60,r61,r62,r63,r64,r65,r66,r67,r68,r69,r70,r71,r72,r73,r74,r75,r76,r77,r78,r79,r80,r81,r82,r83,r84,r85]
def fR (n:Nat):FR:=fT.getD n r0
def FR.ps (r:FR):List Str:=r.2.2.2.2.take r.2.2.2.1
abbrev fP (n:Nat):List Str:=FR.ps (fR n)
def AllP {α:Type}(p:α->Prop):List α->Prop
 | []=>True
 | c::cs=>p c/\AllP p cs
theorem AllP.get {α:Type}{p:α->Prop}{d:α}(hd:p d):∀ {cs:List α},AllP p cs->∀ k:Nat,p (cs.getD k d)
 | [],_,_=>hd
 | _::_,a,0=>a.1
 | _::_,a,k+1=>AllP.get hd a.2 k
theorem AllP.mem {α:Type}{p:α->Prop}:∀ {cs:List α},AllP p cs->∀ i∈cs,p i
 | c::cs,a,i,hi=>by
  rcases mem_cons.mp hi with rfl|hi
  .exact a.1
  .exact AllP.mem a.2 i hi
theorem yuC:AllP (fun r:FR=>ydG r.2.2.2.2 r.ps (ybl r.2.2.1)) fT:=by
 repeat' first|exact True.intro|refine And.intro ?_ ?_|exact ⟨rfl,rfl,rfl,by rfl',rfl,by rfl',by rfl'⟩
theorem sc (n:Nat) {r:FR}(h:fR n=r:=by rfl):ydG r.2.2.2.2 r.ps (ybl r.2.2.1):=h ▸ AllP.get (p:=fun r:FR=>ydG r.2.2.2.2 r.ps (ybl r.2.2.1)) yuC.1 yuC n
def mT:List (Nat×Str×Nat):=[mRw 1 "long" 39,mRw 2 "long" 40,mRw 3 "long" 41,mRw 4 "long" 42,mRw 11 "write" 1,mRw 11 "own" 2,mRw 11 "see" 3,mRw 11 "saw" 4,mRw 11 "wrote" 6,mRw 11 "saw" 5,mRw 12 "held_in" 16,mRw 12 "hold" 17,mRw 12 "box_at" 18,mRw 12 "do_put" 20,mRw 12 "do_reckon" 19,mRw 12 "sees_at" 21,mRw 12 "take_own" 22,mRw 12 "take_seen" 23,mRw 12 "row" 25,mRw 12 "is_stale" 26,mRw 12 "is_looked_over" 27,mRw 12 "see_next" 28,mRw 12 "go" 30,mRw 12 "go_plain" 29,mRw 14 "state" 31,mRw 14 "new_run" 32,mRw 14 "go_on" 33,mRw 15 "boxes" 64,mRw 15 "stamps" 65,mRw 15 "hand_at" 66,mRw 15 "state" 67,mRw 15 "which" 68,mRw 15 "slots" 69,mRw 15 "saw" 70,mRw 15 "wake_stale" 73,mRw 15 "end_deed" 74,mRw 15 "lay_down" 75,mRw 15 "looked_over_told" 76,mRw 15 "turn" 77,mRw 15 "saw" 71,mRw 15 "slots" 72,mRw 10 "ahead" 50,mRw 10 "taken" 51,mRw 10 "pass_over" 52,mRw 10 "slot_taken" 53,mRw 10 "number_taken" 54,mRw 10 "list_taken" 58,mRw 10 "part_taken" 57,mRw 10 "reckon_taken" 55,mRw 10 "plain_taken" 56]
noncomputable def gT:List (Str×Nat):=[("reckon",7),("is_whole",8),("is_number",9),("is_made_of",10),("number_of",11),("is_word",12),("is_slot",13),("slot_index",14),("list_long",43),("plain_rows",44),("part_rows",45),("list_rows",46),("rows_of",47),("words_of",49),("read",59),("check_boxes",60),("rows_of_deeds",61),("rows_of_hands",62),("_law_cell_at",78),("_law_number_by",79),("_law_part",80),("_law_reckoned",81),("_law_done",82),("_law_alike",83),("_law_speaks",84),("law",85)]
def kT:List (Nat×Nat):=[(1,35),(2,36),(3,37),(4,38),(10,48),(11,0),(12,24),(13,15),(14,34),(15,63)]
def cT:List Str:=["Part","Let","Reckon","Take","Put","If","Either","Try","Throw","Wait","Reader","Log","Run","Doer","Hand","Hall"]
def zT:List Str:=["all","any","bool","int","isinstance","len","list","range","reversed","sorted","str","sum","tuple"]
noncomputable def nT:List (Str×List Nat):=[("stack",[11]),("last_seen",[11]),("held",[12]),("width",[12,14]),("log",[12]),("rows",[12]),("at",[10,12]),("seen_stamps",[12]),("sides",[12]),("deeds",[14]),("nth",[14]),("sleeps",[14]),("before",[14]),("run",[14]),("numbers",[15]),("marks",[15]),("crew",[15]),("entries",[15]),("words",[10]),("slot",[1,2,3,4]),("number",[1]),("place",[3,4]),("word",[2]),("one",[2]),("other",[2])]
theorem ml1 {α:Type}{P:List α->Prop}(h:∀ a,P [a]):∀ us:List α,us.length=1->P us
 | [_],_=>h _
theorem ml2 {α:Type}{P:List α->Prop}(h:∀ a b,P [a,b]):∀ us:List α,us.length=2->P us
 | [_,_],_=>h _ _
theorem ml3 {α:Type}{P:List α->Prop}(h:∀ a b c,P [a,b,c]):∀ us:List α,us.length=3->P us
 | [_,_,_],_=>h _ _ _
theorem ml4 {α:Type}{P:List α->Prop}(h:∀ a b c d,P [a,b,c,d]):∀ us:List α,us.length=4->P us
 | [_,_,_,_],_=>h _ _ _ _
theorem ml5 {α:Type}{P:List α->Prop}(h:∀ a b c d e,P [a,b,c,d,e]):∀ us:List α,us.length=5->P us
 | [_,_,_,_,_],_=>h _ _ _ _ _
set_option genInjectivity false in
set_option genSizeOf false in
structure Ads where
 A:Nat->Addr
 fl:Nat->Addr×FuncData
 k_FIGURES:Tok
 k_MOST_AROUND:Tok
 k_MOST_BOXES:Tok
 k_MOST_DEEDS:Tok
 k_MOST_HANDS:Tok
 k_MOST_ROWS:Tok
 k_SLOTS:Tok
 k_WIDE:Tok
 k_WORDS:Addr
abbrev Ads.a (t:Ads) (n:Nat):Addr:=(t.fl n).1
abbrev Ads.d (t:Ads) (n:Nat):FuncData:=(t.fl n).2
abbrev yqZ (K:PySem.W.Frag) (t:Ads):Ck:=⟨K,t.A⟩
structure Txt (K:PySem.W.Frag) (mg:Str->Option Value) (t:Ads):Prop where
 f:∀ n,Fun K (fR n).1 (fR n).2.1 (fR n).2.2.1 (t.a n) (t.d n)
 b:∀ n,Binds K (t.d n) (fP n) []
 G:∀ n,mg (gT.getD n ("reckon",7)).1=some (.ref (t.a (gT.getD n ("reckon",7)).2))
 C:∀ n,mg (cT.getD n "Part")=some (.ref (t.A n))
 J:∀ n,Mk K (t.A (kT.getD n (1,35)).1) (t.a (kT.getD n (1,35)).2)
 M:∀ n,Meth K (t.A (mT.getD n (mRw 1 "long" 39)).1) (mT.getD n (mRw 1 "long" 39)).2.1 (t.a (mT.getD n (mRw 1 "long" 39)).2.2)
 mk_Part:makesIn K (t.A 0)=true
 io_Part:findIn K (.ref (t.A 0)) "__init__" = some (some (.builtin "object.__init__"))
 kp_Part:keepIn K (.ref (t.A 0))=true
 mk_Wait:makesIn K (t.A 9)=true
 io_Wait:findIn K (.ref (t.A 9)) "__init__" = some (some (.builtin "object.__init__"))
 kp_Wait:keepIn K (.ref (t.A 9))=true
 cf_Doer:ysE K (t.A 13) "__init__" (t.a 15)
 cl:∀ k,Cls K (t.A k)
 N:∀ n,∀ k∈(nT.getD n ("stack",[11])).2,Cls K (t.A k)/\NoAttr K (t.A k) (nT.getD n ("stack",[11])).1
 isa:∀ r∈ycA,∀ (H:Hp) (a dx:Addr) (fs:List (Str×V)),H a=some (.ins (t.A r.1) dx fs)->IsI K H (.ref a) (.ref (t.A r.2.1)) r.2.2
 Z:∀ n,mg (zT.getD n "all")=none
 m_FIGURES:mg "FIGURES" = some (.str "0123456789" t.k_FIGURES)
 m_MOST_AROUND:mg "MOST_AROUND" = some (.int 8 t.k_MOST_AROUND)
 m_MOST_BOXES:mg "MOST_BOXES" = some (.int 16 t.k_MOST_BOXES)
 m_MOST_DEEDS:mg "MOST_DEEDS" = some (.int 6 t.k_MOST_DEEDS)
 m_MOST_HANDS:mg "MOST_HANDS" = some (.int 8 t.k_MOST_HANDS)
 m_MOST_ROWS:mg "MOST_ROWS" = some (.int 80 t.k_MOST_ROWS)
 m_SLOTS:mg "SLOTS" = some (.str "abcdefgh" t.k_SLOTS)
 m_WIDE:mg "WIDE" = some (.int 18446744073709551616 t.k_WIDE)
 m_WORDS:mg "WORDS" = some (.ref t.k_WORDS)
 kt_WORDS:KTp K t.k_WORDS ((["plus","minus","times","less","same"]:List Str).map V.str)
theorem Txt.F {K:PySem.W.Frag}{mg:Str->Option Value}{t:Ads}(T:Txt K mg t) (n:Nat) (r:FR) (h:fR n=r:=by rfl):Fun K r.1 r.2.1 r.2.2.1 (t.a n) (t.d n):=h ▸ T.f n
theorem Txt.k {K:PySem.W.Frag}{mg:Str->Option Value}{t:Ads}(T:Txt K mg t) (n:Nat):keepIn K (.ref (t.a n))=true:=(T.f n).kp
section
variable {P:Program}{w:World}{K:PySem.W.Frag}{mg:Str->Option Value}{base:Heap}{t:Ads}
theorem ycc {n:Nat}{ck:Ck}{vs:List V}{H:Hp}{Q:VK}{E:XK}(h:spE ck n (fun _ _=>none) vs H Q E):False:=by
 obtain ⟨_,_,_,_,_,_,_,_,q,_⟩:=h
 cases q
theorem yqR {f:Addr}{fd:FuncData}{ps:List Str}{k n:Nat}{ck:Ck}:FnOk P w K mg base CX0 k f fd ps (spE ck n fun _ _=>none):=⟨fun vs H Q E h=>(ycc h).elim,fun A outer s H args us vs Q E _ _ _ _ h=>(ycc h).elim⟩
local macro_rules | `(‹($n,$i,$r,$k,$p)›)=>`(FnOk $(Lean.mkIdent `P) $(Lean.mkIdent `w) $(Lean.mkIdent `K) $(Lean.mkIdent `mg) $(Lean.mkIdent `base) CX0 $n ($(Lean.mkIdent `t).a $i) ($(Lean.mkIdent `t).d $i) (FR.ps $r) (spE (yqZ $(Lean.mkIdent `K) $(Lean.mkIdent `t)) $k $p))
structure yDQ (P:Program) (w:World) (K:PySem.W.Frag) (mg:Str->Option Value) (base:Heap) (t:Ads) (n:Nat):Prop where
 yhe:‹(n+1,43,r43,1,(ydS n))›
 m_long:ykQ P w K mg base (n+1) t.A "long" (fun k=>spE (yqZ K t) 1 (yqc n k))
structure yDR (P:Program) (w:World) (K:PySem.W.Frag) (mg:Str->Option Value) (base:Heap) (t:Ads) (n:Nat):Prop where
 ybg:‹(n+1,83,r83,2,(ym n))›
variable (T:Txt K mg t)
include T
theorem yhf:FnOk P w K mg base CX0 (0+1) (t.a 35) (t.d 35) (FR.ps r35) (spI (yqZ K t) 2 1 ydq):=zin (T.F 35 r35) (sc 35) rfl (by decide) fun cdv Ar outer sh H E hr=>(ybJ (ycf (T.N 19) z_v) (yeg (ycf (T.N 20) z_v)))
theorem yfv:FnOk P w K mg base CX0 (0+1) (t.a 36) (t.d 36) (FR.ps r36) (spI (yqZ K t) 4 2 ycG):=zin (T.F 36 r36) (sc 36) rfl (by decide) fun cdv Ar outer sh H E hr=>(ybJ (ycf (T.N 22) z_v) (ybJ (ycf (T.N 19) z_v) (ybJ (ycf (T.N 23) z_v) (yeg (ycf (T.N 24) z_v)))))
theorem ygj:FnOk P w K mg base CX0 (0+1) (t.a 37) (t.d 37) (FR.ps r37) (spI (yqZ K t) 2 3 ydb):=zin (T.F 37 r37) (sc 37) rfl (by decide) fun cdv Ar outer sh H E hr=>(ybJ (ycf (T.N 19) z_v) (yeg (ycf (T.N 21) z_v)))
theorem yhg:FnOk P w K mg base CX0 (0+1) (t.a 38) (t.d 38) (FR.ps r38) (spI (yqZ K t) 2 4 ydr):=zin (T.F 38 r38) (sc 38) rfl (by decide) fun cdv Ar outer sh H E hr=>(ybJ (ycf (T.N 21) z_v) (yeg (ycf (T.N 19) z_v)))
theorem ylM:‹(0+1,39,r39,1,yhR)›:=zfn (T.F 39 r39) (sc 39) fun cdv Ar outer sh H E hr=>(yd (yi yh))
theorem yhw:‹(0+1,40,r40,1,yfl)›:=zfn (T.F 40 r40) (sc 40) fun cdv Ar outer sh H E hr=>(yd (yi yh))
theorem ykm:‹(0+1,41,r41,1,ygY)›:=zfn (T.F 41 r41) (sc 41) fun cdv Ar outer sh H E hr=>(yd (yi yh))
theorem ylN:‹(0+1,42,r42,1,yhS)›:=zfn (T.F 42 r42) (sc 42) fun cdv Ar outer sh H E hr=>(yd (yi yh))
theorem yqS:∀ n,yDQ P w K mg base t n
 | 0=>⟨yqR,fun c=>⟨T.cl c,.inl fun _ _ _ _ h=>ycc h⟩⟩
 | n+1=>by
  have I:=yqS n
  have ywY:=I.yhe
  have G_long:=I.m_long
  exact ⟨zfn (T.F 43 r43) (sc 43) fun cdv Ar outer sh H E hr=>(yd (yi (yde (yru rfl) yBl (T.Z 11) (ya (ycJ (yff [] (ydo z_v) (fun _ _ _ _ _ _=>(yvV z_v G_long)))) ye)))),
   fun c=>⟨T.cl c,match c with|0=>.inl fun _ _ _ _ h=>ycc h|1=>.inr ⟨_,_,_,(T.M 0),(ylM T).mono (by omega),(T.b 39)⟩|2=>.inr ⟨_,_,_,(T.M 1),(yhw T).mono (by omega),(T.b 40)⟩|3=>.inr ⟨_,_,_,(T.M 2),(ykm T).mono (by omega),(T.b 41)⟩|4=>.inr ⟨_,_,_,(T.M 3),(ylN T).mono (by omega),(T.b 42)⟩|5=>.inl fun _ _ _ _ h=>ycc h|6=>.inl fun _ _ _ _ h=>ycc h|7=>.inl fun _ _ _ _ h=>ycc h|8=>.inl fun _ _ _ _ h=>ycc h|9=>.inl fun _ _ _ _ h=>ycc h|10=>.inl fun _ _ _ _ h=>ycc h|11=>.inl fun _ _ _ _ h=>ycc h|12=>.inl fun _ _ _ _ h=>ycc h|13=>.inl fun _ _ _ _ h=>ycc h|14=>.inl fun _ _ _ _ h=>ycc h|15=>.inl fun _ _ _ _ h=>ycc h|c+16=>.inl fun _ _ _ _ h=>ycc h⟩⟩
theorem yiQ:‹(0+1,44,r44,1,yfV)›:=zfn (T.F 44 r44) (sc 44) fun cdv Ar outer sh H E hr=>(yb (yB (yX (yde yF (ydJ (K:=ckX _ _) T.isa) (T.Z 4) (ya z_v (ya (yfd (T.C 1)) ye)))) (yd (yi (ycJ (ycz (ya (ydy (ya yE (ya (yC (T.N 19) z_v) (ya (yC (T.N 20) z_v) ye)))) ye))))) yj) (yb (yB (yX (yde yF (ydJ (K:=ckX _ _) T.isa) (T.Z 4) (ya z_v (ya (yfd (T.C 2)) ye)))) (yd (yi (ycJ (ycz (ya (ydy (ya (yC (T.N 22) z_v) (ya (yC (T.N 19) z_v) (ya (yC (T.N 23) z_v) (ya (yC (T.N 24) z_v) ye))))) ye))))) yj) (yb (yB (yX (yde yF (ydJ (K:=ckX _ _) T.isa) (T.Z 4) (ya z_v (ya (yfd (T.C 3)) ye)))) (yd (yi (ycJ (ycz (ya (ydy (ya yE (ya (yC (T.N 19) z_v) (ya (yC (T.N 21) z_v) ye)))) ye))))) yj) (yb (yB (yX (yde yF (ydJ (K:=ckX _ _) T.isa) (T.Z 4) (ya z_v (ya (yfd (T.C 4)) ye)))) (yd (yi (ycJ (ycz (ya (ydy (ya yE (ya (yC (T.N 21) z_v) (ya (yC (T.N 19) z_v) ye)))) ye))))) yj) (yb (yB (yX (yde yF (ydJ (K:=ckX _ _) T.isa) (T.Z 4) (ya z_v (ya (yfd (T.C 8)) ye)))) (yd yw) yj) (yb (yB (yX (yde yF (ydJ (K:=ckX _ _) T.isa) (T.Z 4) (ya z_v (ya (yfd (T.C 9)) ye)))) (yd yw) yj) (yd (yi (ycJ (ycz ye))))))))))
theorem ykn:‹(1+1,45,r45,2,yeQ)›:=zfn (T.F 45 r45) (sc 45) fun cdv Ar outer sh H E hr=>(yb (yB (ymC (ygQ (yX (yde yF (ydJ (K:=ckX _ _) T.isa) (T.Z 4) (ya z_v (ya (yfd (T.C 5)) ye)))) (ygQ (yX (yde yF (ydJ (K:=ckX _ _) T.isa) (T.Z 4) (ya z_v (ya (yfd (T.C 6)) ye)))) (yeH (yX (yde yF (ydJ (K:=ckX _ _) T.isa) (T.Z 4) (ya z_v (ya (yfd (T.C 7)) ye)))))))) (yd yw) yj) (yd (yi (yM (yiQ T) (T.G 9) (T.k 44) (T.b 44) (ya z_v ye)))))
theorem yko:‹(2+1,46,r46,2,ydT)›:=zfn (T.F 46 r46) (sc 46) fun cdv Ar outer sh H E hr=>have nd:=(sc 46 (r:=r46)).nd;(yb (ypP (ycz ye)) (yb (yhP (ydo z_v) ycE (yd (yzp (yM (ykn T) (T.G 10) (T.k 45) (T.b 45) (ya z_v (ya (ycy ydv yfH z_v (yzq (T.Z 5))) ye)))))) (ypQ (yd (yi z_v)))))
theorem ynK:‹(3+1,47,r47,1,ydB)›:=zfn (T.F 47 r47) (sc 47) fun cdv Ar outer sh H E hr=>(yd (yi (ycJ (ypL yxR yBk (yM (yko T) (T.G 11) (T.k 46) (T.b 46) (ya z_v (ya yh ye))) (ycJ (ycz (ya (ydy (ya yE ye)) ye)))))))
theorem yiR:‹(0+1,10,r10,2,ydh)›:=zfn (T.F 10 r10) (sc 10) fun cdv Ar outer sh H E hr=>(yd (yi (yde (ymb rfl) yyr (T.Z 0) (ya (ycJ (yff ["signs"] (ymE z_v) (fun _ _ _ _ _ _=>(yeO yjk yym z_v z_v)))) ye))))
theorem ykp:‹(1+1,11,r11,1,ydR)›:=zfn (T.F 11 r11) (sc 11) fun cdv Ar outer sh H E hr=>have nd:=(sc 11 (r:=r11)).nd;(yb (yB (ymC (ygQ (ybW (ygv yiX yiX ytK ytK yh (yde yec yoX (T.Z 5) (ya z_v ye)) yh)) (yeH (ybW (yX (yM (yiR T) (T.G 3) (T.k 10) (T.b 10) (ya z_v (ya (ymB T.m_FIGURES) ye)))))))) (yd (yi yhp)) yj) (yb (yB (ymC (ymD (yt yU ycB (ybs yjf yrU z_v yh) yE) (yiw (yt yne yxd z_v yE)))) (yd (yi yhp)) yj) (yb (yH (ysx yjl yyp (T.Z 3) (ya z_v ye))) (yd (yi (ypM (yt yhn yqV z_v (yeG T.m_WIDE)) z_v yhp))))))
theorem ynL:‹(0+1,13,r13,1,yfk)›:=zfn (T.F 13 r13) (sc 13) fun cdv Ar outer sh H E hr=>(yd (yi (yiv (yeO yU ycB (yde yec yoX (T.Z 5) (ya z_v ye)) yh) (ylv (yeO yjk yym z_v (ymB T.m_SLOTS))))))
theorem ynM:‹(0+1,12,r12,1,ygX)›:=zfn (T.F 12 r12) (sc 12) fun cdv Ar outer sh H E hr=>(yd (yi (yeO yos yBY z_v (yzv (ss:=["plus","minus","times","less","same"]) T.m_WORDS T.kt_WORDS))))
theorem yhh:‹(0+1,8,r8,1,ydA)›:=zfn (T.F 8 r8) (sc 8) fun cdv Ar outer sh H E hr=>(yd (yi (yiv (yde yF (ydJ (K:=ckX _ _) T.isa) (T.Z 4) (ya z_v (ya (yhq (T.Z 3)) ye))) (ylv (yzk (yde yF (ydJ (K:=ckX _ _) T.isa) (T.Z 4) (ya z_v (ya (yhq (T.Z 2)) ye))))))))
theorem ykq:‹(1+1,9,r9,1,ycF)›:=zfn (T.F 9 r9) (sc 9) fun cdv Ar outer sh H E hr=>(yd (yi (yiv (yM (yhh T) (T.G 1) (T.k 8) (T.b 8) (ya z_v ye)) (ylv (yvU yiX yhn ytK yqV yh z_v (yeG T.m_WIDE))))))
theorem yfw:FnOk P w K mg base CX0 (0+1) (t.a 48) (t.d 48) (FR.ps r48) (spI (yqZ K t) 1 10 ycH):=zin (T.F 48 r48) (sc 48) rfl (by decide) fun cdv Ar outer sh H E hr=>(ybJ (ycf (T.N 18) (ycJ (ydV yS ycj (T.Z 6) (ya z_v ye)))) (yeg (ycf (T.N 6) yh)))
theorem ylO:‹(0+1,49,r49,1,yev)›:=zfn (T.F 49 r49) (sc 49) fun cdv Ar outer sh H E hr=>(yb (yB (yt yU ycB z_v yE) (yd (yi (ycJ (ycz ye)))) yj) (yd (yi (yxg PySem.F.plainAttrs_str PySem.F.slot_str_split PySem.F.type_str_split ysF m_split z_v (ya yE ye)))))
theorem ybT:‹(0+1,50,r50,1,yP)›:=zfn (T.F 50 r50) (sc 50) fun cdv Ar outer sh H E hr=>(yb (yB (yt yhn yqV (yC (T.N 6) z_v) (yde yA ycC (T.Z 5) (ya (yC (T.N 18) z_v) ye))) (yd (yi (ybs ix_list ybV (yC (T.N 18) z_v) (yC (T.N 6) z_v)))) yj) (yd (yi yhp)))
theorem ycv:‹(1+1,51,r51,1,ybv)›:=zfn (T.F 51 r51) (sc 51) fun cdv Ar outer sh H E hr=>have nd:=(sc 51 (r:=r51)).nd;(yb (yH (yx z_v (T.M 41) (ybT T) (T.b 50))) (yb (yB (yt ylV yrT z_v yhp) (yd yw) yj) (yb (yca (T.N 6) z_v (ycy ydv yfH (yC (T.N 6) z_v) yh)) (yd (yi z_v)))))
theorem yeS:‹(2+1,52,r52,2,ybK)›:=zfn (T.F 52 r52) (sc 52) fun cdv Ar outer sh H E hr=>have nd:=(sc 52 (r:=r52)).nd;(yb (yH (yx z_v (T.M 42) (ycv T) (T.b 51))) (yd (yB (yt yne yxd z_v z_v) (yd yw) yj)))
theorem yG:‹(2+1,53,r53,1,yv)›:=zfn (T.F 53 r53) (sc 53) fun cdv Ar outer sh H E hr=>have nd:=(sc 53 (r:=r53)).nd;(yb (yH (yx z_v (T.M 42) (ycv T) (T.b 51))) (yb (yB (ybW (yX (yM (ynL T) (T.G 6) (T.k 13) (T.b 13) (ya z_v ye)))) (yd yw) yj) (yd (yi z_v))))
theorem ydZ:‹(2+1,54,r54,1,ybp)›:=zfn (T.F 54 r54) (sc 54) fun cdv Ar outer sh H E hr=>have nd:=(sc 54 (r:=r54)).nd;(yb (yH (yx z_v (T.M 42) (ycv T) (T.b 51))) (yb (yH (yM (ykp T) (T.G 4) (T.k 11) (T.b 11) (ya z_v ye))) (yb (yB (yt ylV yrT z_v yhp) (yd yw) yj) (yd (yi z_v)))))
theorem yea:‹(3+1,55,r55,2,ybq)›:=zfn (T.F 55 r55) (sc 55) fun cdv Ar outer sh H E hr=>have nd:=(sc 55 (r:=r55)).nd;(yb (yH (yx z_v (T.M 44) (yG T) (T.b 53))) (yb (yH (yx z_v (T.M 44) (yG T) (T.b 53))) (yb (yH (yx z_v (T.M 44) (yG T) (T.b 53))) (yd (yi (ycJ (yhO (T.J 1) (yfv T) (T.C 2) (T.b 36) (ya z_v (ya z_v (ya z_v (ya z_v ye)))))))))))
theorem yem:‹(4+1,56,r56,2,ybx)›:=zfn (T.F 56 r56) (sc 56) fun cdv Ar outer sh H E hr=>have nd:=(sc 56 (r:=r56)).nd;(yb (yB (yt yU ycB z_v yE) (yb (yH (yx z_v (T.M 44) (yG T) (T.b 53))) (yd (yi (ycJ (yhO (T.J 0) (yhf T) (T.C 1) (T.b 35) (ya z_v (ya (yx z_v (T.M 45) (ydZ T) (T.b 54)) ye))))))) yj) (yb (yB (yt yU ycB z_v yE) (yb (yH (yx z_v (T.M 44) (yG T) (T.b 53))) (yd (yi (ycJ (yhO (T.J 2) (ygj T) (T.C 3) (T.b 37) (ya z_v (ya (yx z_v (T.M 44) (yG T) (T.b 53)) ye))))))) yj) (yb (yB (yt yU ycB z_v yE) (yb (yH (yx z_v (T.M 44) (yG T) (T.b 53))) (yd (yi (ycJ (yhO (T.J 3) (yhg T) (T.C 4) (T.b 38) (ya z_v (ya (yx z_v (T.M 44) (yG T) (T.b 53)) ye))))))) yj) (yb (yB (yt yU ycB z_v yE) (yb yw (yd yw)) yj) (yb (yB (yt yU ycB z_v yE) (yd yw) yj) (yb (yB (yX (yM (ynM T) (T.G 5) (T.k 12) (T.b 12) (ya z_v ye))) (yd (yi (yq z_v (T.M 48) (yea T) (T.b 55) (ya z_v ye)))) yj) (yd yw)))))))
theorem ycS:‹(5+1,57,r57,2,ybj)›:=zfn (T.F 57 r57) (sc 57) fun cdv Ar outer sh H E hr=>have nd:=(sc 57 (r:=r57)).nd;(yb (yB (yt yuK yBh z_v (yeG T.m_MOST_AROUND)) (yd yw) yj) (yb (yH (yx z_v (T.M 42) (ycv T) (T.b 51))) (yb (yB (yt yU ycB z_v yE) (yd yw) yj) (yb (yB (yt yU ycB z_v yE) (yd yw) yj) (yb (yB (yt yU ycB z_v yE) (yd yw) yj) (yd (yi (yq z_v (T.M 49) (yem T) (T.b 56) (ya z_v ye)))))))))
theorem yeE:‹(6+1,58,r58,2,ybF)›:=zfn (T.F 58 r58) (sc 58) fun cdv Ar outer sh H E hr=>have nd:=(sc 58 (r:=r58)).nd;(yb (yB (ymC (ygQ (yt ylV yrT (yx z_v (T.M 41) (ybT T) (T.b 50)) yhp) (yeH (yt yU ycB (yx z_v (T.M 41) (ybT T) (T.b 50)) yE)))) (yd (yi (ycJ (ycz ye)))) yj) (yb (ypP (ycz (ya (yq z_v (T.M 47) (ycS T) (T.b 57) (ya z_v ye)) ye))) (yb (ysy (yt yU ycB (yx z_v (T.M 41) (ybT T) (T.b 50)) yE) (yb (ybz (yq z_v (T.M 43) (yeS T) (T.b 52) (ya yE ye))) (yd (yzl (yq z_v (T.M 47) (ycS T) (T.b 57) (ya z_v ye)))))) (ypQ (yd (yi z_v))))))
theorem ywZ:‹(46+1,59,r59,1,yhT)›:=zfn (T.F 59 r59) (sc 59) fun cdv Ar outer sh H E hr=>have nd:=(sc 59 (r:=r59)).nd;(yb (yH (ydY (yhO (T.J 4) (yfw T) (T.C 10) (T.b 48) (ya (yM (ylO T) (T.G 13) (T.k 49) (T.b 49) (ya z_v ye)) ye)))) (yb (yH (yq z_v (T.M 46) (yeE T) (T.b 58) (ya yh ye))) (yb (yB (yt yuL yyk (yx z_v (T.M 41) (ybT T) (T.b 50)) yhp) (yd yw) yj) (yb (yB (yt yuK yBh (ycy ydv yfH (yM (yqS T 45).yhe (T.G 8) (T.k 43) (T.b 43) (ya z_v ye)) yh) (yeG T.m_MOST_ROWS)) (yd yw) yj) (yd (yi z_v))))))
theorem yhi:FnOk P w K mg base CX0 (0+1) (t.a 0) (t.d 0) (FR.ps r0) (spI (yqZ K t) 0 11 yeI):=zin (T.F 0 r0) (sc 0) rfl (by decide) fun cdv Ar outer sh H E hr=>(ybJ (ycf (T.N 0) (ydY (ycz (ya (ydY yhQ) ye)))) (yeg (ycf (T.N 1) (ydY yhQ))))
theorem ykr:‹(0+1,1,r1,3,ydO)›:=zfn (T.F 1 r1) (sc 1) fun cdv Ar outer sh H E hr=>have nd:=(sc 1 (r:=r1)).nd;(yb (yH (ybs ix_list ybV (yC (T.N 0) z_v) (yDK yxK yBi yh))) (yd (ydL z_v z_v z_v)))
theorem yhW:‹(0+1,2,r2,2,ydz)›:=zfn (T.F 2 r2) (sc 2) fun cdv Ar outer sh H E hr=>have nd:=(sc 2 (r:=r2)).nd;(yb (ywb (T.Z 8) (yC (T.N 0) z_v) ycE (yd (yB (yzo z_v z_v) (yd (yi (yfg z_v z_v))) yj))) (yd (yi yhp)))
theorem ynN:‹(0+1,3,r3,3,yfi)›:=zfn (T.F 3 r3) (sc 3) fun cdv Ar outer sh H E hr=>(yd (ydL (yC (T.N 1) z_v) z_v z_v))
theorem ynO:‹(0+1,4,r4,1,yfj)›:=zfn (T.F 4 r4) (sc 4) fun cdv Ar outer sh H E hr=>(yd (yi (ycJ (PXS.z_sortI (yC (T.N 1) z_v) (T.Z 9)))))
theorem yks:‹(0+1,5,r5,1,ydP)›:=zfn (T.F 5 r5) (sc 5) fun cdv Ar outer sh H E hr=>(yd (yi (ydY (PXS.z_sortI (yC (T.N 1) z_v) (T.Z 9)))))
theorem ykt:‹(0+1,6,r6,1,ydQ)›:=zfn (T.F 6 r6) (sc 6) fun cdv Ar outer sh H E hr=>have nd:=(sc 6 (r:=r6)).nd;(yb (yH (ybs ix_list ybV (yC (T.N 0) z_v) yh)) (yd (yi (ycJ (PXS.z_sortI z_v (T.Z 9))))))
theorem yfx:‹(0+1,14,r14,1,ydi)›:=zfn (T.F 14 r14) (sc 14) fun cdv Ar outer sh H E hr=>(yd (yi (yxg PySem.F.plainAttrs_str PySem.F.slot_str_find PySem.F.type_str_find ywe yrX (ymB T.m_SLOTS) (ya z_v ye))))
theorem yqT:‹(0+1,7,r7,3,ygw)›:=zfn (T.F 7 r7) (sc 7) fun cdv Ar outer sh H E hr=>(yb (yB (yt yU ycB z_v yE) (yd (yi (ycy ybI ycT (ycy ydv yfH z_v z_v) (yeG T.m_WIDE)))) yj) (yb (yB (yt yU ycB z_v yE) (yd (yi (ycy ybI ycT (ycy ylU yrR z_v z_v) (yeG T.m_WIDE)))) yj) (yb (yB (yt yU ycB z_v yE) (yd (yi (ycy ybI ycT (ycy yiV yoU z_v z_v) (yeG T.m_WIDE)))) yj) (yb (yB (yt yU ycB z_v yE) (yd (yi (ypM (yt yhn yqV z_v z_v) yh yh))) yj) (yd (yi (ypM (yt yU ycB z_v z_v) yh yh)))))))
theorem ycw:‹(1+1,16,r16,2,ybu)›:=zfn (T.F 16 r16) (sc 16) fun cdv Ar outer sh H E hr=>(yd (yi (ybs ix_list ybV (yC (T.N 2) z_v) (yM (yfx T) (T.G 7) (T.k 14) (T.b 14) (ya z_v ye)))))
theorem ydm:‹(1+1,17,r17,3,ybM)›:=zfn (T.F 17 r17) (sc 17) fun cdv Ar outer sh H E hr=>(yd (ygR z_v (yC (T.N 2) z_v) (yM (yfx T) (T.G 7) (T.k 14) (T.b 14) (ya z_v ye))))
theorem yci:‹(2+1,18,r18,2,ybo)›:=zfn (T.F 18 r18) (sc 18) fun cdv Ar outer sh H E hr=>(yd (yi (ycy ybI ycT (yq z_v (T.M 10) (ycw T) (T.b 16) (ya z_v ye)) (yC (T.N 3) z_v))))
theorem ygk:FnOk P w K mg base CX0 (2+1) (t.a 15) (t.d 15) (FR.ps r15) (spJ (yqZ K t) 2 12 yeh):=yDL (T.F 15 r15) (sc 15) rfl (by decide) fun cdv Ar outer sh H E hr=>(ybJ (ycf (T.N 2) (ydY (ydV yS ycj (T.Z 6) (ya z_v ye)))) (ybJ (ycf (T.N 3) z_v) (yeg (ycf (T.N 4) (ydY (ywc (T.J 5) (yhi T) (T.C 11) (T.b 0)))))))
theorem yfQ:‹(2+1,19,r19,5,ybG)›:=zfn (T.F 19 r19) (sc 19) fun cdv Ar outer sh H E hr=>(yd (ybz (yq z_v (T.M 11) (ydm T) (T.b 17) (ya z_v (ya (yM (yqT T) (T.G 0) (T.k 7) (T.b 7) (ya z_v (ya (yq z_v (T.M 10) (ycw T) (T.b 16) (ya z_v ye)) (ya (yq z_v (T.M 10) (ycw T) (T.b 16) (ya z_v ye)) ye)))) ye)))))
theorem yhx:‹(3+1,20,r20,3,ycr)›:=zfn (T.F 20 r20) (sc 20) fun cdv Ar outer sh H E hr=>(yd (ybz (yq (yC (T.N 4) z_v) (T.M 4) (ykr T) (T.b 1) (ya (yq z_v (T.M 12) (yci T) (T.b 18) (ya z_v ye)) (ya (yq z_v (T.M 10) (ycw T) (T.b 16) (ya z_v ye)) ye)))))
theorem yhj:‹(3+1,21,r21,2,ycK)›:=zfn (T.F 21 r21) (sc 21) fun cdv Ar outer sh H E hr=>(yd (yi (yeO ylV yrT (yq (yC (T.N 4) z_v) (T.M 5) (yhW T) (T.b 2) (ya (yq z_v (T.M 12) (yci T) (T.b 18) (ya z_v ye)) ye)) yhp)))
theorem ygl:‹(3+1,22,r22,3,ybN)›:=zfn (T.F 22 r22) (sc 22) fun cdv Ar outer sh H E hr=>(yd (ybz (yq z_v (T.M 11) (ydm T) (T.b 17) (ya z_v (ya (yq (yC (T.N 4) z_v) (T.M 5) (yhW T) (T.b 2) (ya (yq z_v (T.M 12) (yci T) (T.b 18) (ya z_v ye)) ye)) ye)))))
theorem yfR:‹(3+1,23,r23,4,yck)›:=zfn (T.F 23 r23) (sc 23) fun cdv Ar outer sh H E hr=>have nd:=(sc 23 (r:=r23)).nd;(yb (yH (yq z_v (T.M 12) (yci T) (T.b 18) (ya z_v ye))) (yb (ybz (yq (yC (T.N 4) z_v) (T.M 6) (ynN T) (T.b 3) (ya z_v (ya (ybs ix_list ybV z_v z_v) ye)))) (yd (ybz (yq z_v (T.M 11) (ydm T) (T.b 17) (ya z_v (ya (ybs ix_list ybV z_v z_v) ye)))))))
theorem yhk:FnOk P w K mg base CX0 (4+1) (t.a 24) (t.d 24) (FR.ps r24) (spI (yqZ K t) 3 12 ydp):=zin (T.F 24 r24) (sc 24) rfl (by decide) fun cdv Ar outer sh H E hr=>(ybJ (ywg T.cf_Doer (T.C 13) (ygk T) (T.b 15) (ya z_v (ya z_v ye))) (ybJ (ycf (T.N 5) z_v) (ybJ (ycf (T.N 6) yh) (ybJ (ycf (T.N 7) (ydY yhQ)) (yeg (ycf (T.N 8) (ydY (ycz ye))))))))
theorem yez:‹(0+1,25,r25,1,yda)›:=zfn (T.F 25 r25) (sc 25) fun cdv Ar outer sh H E hr=>(yd (yi (ybs ix_list ybV (yC (T.N 5) z_v) (yC (T.N 6) z_v))))
theorem yen:‹(0+1,26,r26,2,ycg)›:=zfn (T.F 26 r26) (sc 26) fun cdv Ar outer sh H E hr=>(yd (yi (yde (ymM rfl) yzg (T.Z 1) (ya (ycJ (ywi ["stamps","self"] (yC (T.N 7) z_v) (fun _ _ _ _ _ _=>(yeO yne yxd (ybs ix_list ybV z_v z_v) (yfg (yC (T.N 7) z_v) z_v))))) ye))))
theorem yeo:‹(4+1,27,r27,1,ybd)›:=zfn (T.F 27 r27) (sc 27) fun cdv Ar outer sh H E hr=>have nd:=(sc 27 (r:=r27)).nd;(yb (yH (yx z_v (T.M 18) (yez T) (T.b 25))) (yb (yB (yt yU ycB (ybs ix_tup ybc z_v yh) yE) (yd (yi (yq z_v (T.M 15) (yhj T) (T.b 21) (ya (ybs ix_tup ybc z_v yh) ye)))) yj) (yb (yB (ymC (ygQ (yt yU ycB (ybs ix_tup ybc z_v yh) yE) (yeH (yt yU ycB (ybs ix_tup ybc z_v yh) yE)))) (yd yw) yj) (yd (yi (yeO yU ycB (ybs ix_tup ybc z_v yh) yE))))))
theorem yhl:‹(4+1,28,r28,3,ycL)›:=zfn (T.F 28 r28) (sc 28) fun cdv Ar outer sh H E hr=>have nd:=(sc 28 (r:=r28)).nd;(yb (yH (yx z_v (T.M 18) (yez T) (T.b 25))) (yb (yH (yq z_v (T.M 12) (yci T) (T.b 18) (ya (ybs ix_tup ybc z_v yh) ye))) (yb (ydL (yC (T.N 7) z_v) z_v (ybs ix_list ybV z_v z_v)) (yb (ybz (yq z_v (T.M 17) (yfR T) (T.b 23) (ya (ybs ix_tup ybc z_v yh) (ya (ybs ix_tup ybc z_v yh) (ya z_v ye))))) (yb (yca (T.N 6) z_v (ycy ydv yfH (yC (T.N 6) z_v) yh)) (yd (yi z_v)))))))
theorem yhm:‹(4+1,29,r29,2,yr)›:=zfn (T.F 29 r29) (sc 29) fun cdv Ar outer sh H E hr=>(yd (yB (yt yU ycB (ybs ix_tup ybc z_v yh) yE) (yd (ybz (yq z_v (T.M 11) (ydm T) (T.b 17) (ya (ybs ix_tup ybc z_v yh) (ya (ybs ix_tup ybc z_v yh) ye))))) (yd (yB (yt yU ycB (ybs ix_tup ybc z_v yh) yE) (yd (ybz (yq z_v (T.M 16) (ygl T) (T.b 22) (ya (ybs ix_tup ybc z_v yh) (ya (ybs ix_tup ybc z_v yh) ye))))) (yd (yB (yt yU ycB (ybs ix_tup ybc z_v yh) yE) (yd (ybz (yq z_v (T.M 13) (yhx T) (T.b 20) (ya (ybs ix_tup ybc z_v yh) (ya (ybs ix_tup ybc z_v yh) ye))))) (yd (ybz (yq z_v (T.M 14) (yfQ T) (T.b 19) (ya (ybs ix_tup ybc z_v yh) (ya (ybs ix_tup ybc z_v yh) (ya (ybs ix_tup ybc z_v yh) (ya (ybs ix_tup ybc z_v yh) ye)))))))))))))
theorem yqU:‹(5+1,30,r30,1,ycV)›:=zfn (T.F 30 r30) (sc 30) fun cdv Ar outer sh H E hr=>have nd:=(sc 30 (r:=r30)).nd;(yb (yH (yx z_v (T.M 18) (yez T) (T.b 25))) (yb (yca (T.N 6) z_v (ycy ydv yfH (yC (T.N 6) z_v) yh)) (yd (yB (yt yU ycB (ybs ix_tup ybc z_v yh) yE) (yd yw) (yd (yB (yt yU ycB (ybs ix_tup ybc z_v yh) yE) (yd yw) (yd (yB (ymC (ygQ (yt yU ycB (ybs ix_tup ybc z_v yh) yE) (yeH (yt yU ycB (ybs ix_tup ybc z_v yh) yE)))) (yd yw) (yd (yB (ymC (ygQ (yt yU ycB (ybs ix_tup ybc z_v yh) yE) (yeH (yt yU ycB (ybs ix_tup ybc z_v yh) yE)))) (yb yw (yd yw)) (yd (yB (yt yU ycB (ybs ix_tup ybc z_v yh) yE) (yb yw (yd yw)) (yd (ybz (yq z_v (T.M 23) (yhm T) (T.b 29) (ya z_v ye))))))))))))))))
theorem ydU:‹(0+1,31,r31,1,ybO)›:=zfn (T.F 31 r31) (sc 31) fun cdv Ar outer sh H E hr=>(yb (yB (yt yU ycB (yC (T.N 10) z_v) (yde yA ycC (T.Z 5) (ya (yC (T.N 9) z_v) ye))) (yd (yi yE)) yj) (yd (yi (ypM (yX (yC (T.N 11) z_v)) yE yE))))
theorem yep:‹(6+1,32,r32,1,ych)›:=zfn (T.F 32 r32) (sc 32) fun cdv Ar outer sh H E hr=>have nd:=(sc 32 (r:=r32)).nd;(yb (yH (ypM (yt yhn yqV (yC (T.N 10) z_v) (yde yA ycC (T.Z 5) (ya (yC (T.N 9) z_v) ye))) (ybs ix_list ybV (yC (T.N 9) z_v) (yC (T.N 10) z_v)) (ycJ (ycz ye)))) (yd (yi (ydY (yhO (T.J 6) (yhk T) (T.C 12) (T.b 24) (ya z_v (ya (yC (T.N 12) z_v) (ya (yC (T.N 3) z_v) ye))))))))
theorem yiS:‹(7+1,33,r33,2,ydj)›:=zfn (T.F 33 r33) (sc 33) fun cdv Ar outer sh H E hr=>(yb (yca (T.N 10) z_v (ycy ydv yfH (yC (T.N 10) z_v) yh)) (yb (yca (T.N 12) z_v (ycJ (ydV yS ycj (T.Z 6) (ya z_v ye)))) (yd (yca (T.N 13) z_v (yx z_v (T.M 25) (yep T) (T.b 32))))))
theorem ygm:‹(7+1,34,r34,3,ybi)›:=zfn (T.F 34 r34) (sc 34) fun cdv Ar outer sh H E hr=>(yb (yca (T.N 9) z_v (ycJ (ydV yS ycj (T.Z 6) (ya z_v ye)))) (yb (yca (T.N 3) z_v z_v) (yb (yca (T.N 10) z_v yh) (yb (yca (T.N 11) z_v ylu) (yb (yca (T.N 12) z_v (ycJ (ypL yma yrW (ycJ (ycz (ya yh ye))) (yde yec yoX (T.Z 5) (ya (ymB T.m_SLOTS) ye))))) (yd (yca (T.N 13) z_v (yx z_v (T.M 25) (yep T) (T.b 32)))))))))
theorem yhy:‹(2+1,60,r60,1,ycW)›:=zfn (T.F 60 r60) (sc 60) fun cdv Ar outer sh H E hr=>(yb (yB (ybW (ygv yiX yiX ytK ytK yh (yde yA ycC (T.Z 5) (ya z_v ye)) (yeG T.m_MOST_BOXES))) (yd yw) yj) (yd (yB (ybW (yX (yde (ymb rfl) yyr (T.Z 0) (ya (ycJ (yff [] (ydo z_v) (fun _ _ _ _ _ _=>(yM (ykq T) (T.G 2) (T.k 9) (T.b 9) (ya z_v ye))))) ye)))) (yd yw) yj)))
theorem ygn:‹(47+1,61,r61,1,ybk)›:=zfn (T.F 61 r61) (sc 61) fun cdv Ar outer sh H E hr=>(yd (yi (ycJ (yff [] (ydo z_v) (fun _ _ _ _ _ _=>(yM (ynK T) (T.G 12) (T.k 47) (T.b 47) (ya (yM (ywZ T) (T.G 14) (T.k 59) (T.b 59) (ya z_v ye)) ye)))))))
theorem ygo:‹(48+1,62,r62,1,ybP)›:=zfn (T.F 62 r62) (sc 62) fun cdv Ar outer sh H E hr=>(yb (yB (ybW (ygv yiX yiX ytK ytK yh (yde yA ycC (T.Z 5) (ya z_v ye)) (yeG T.m_MOST_HANDS))) (yd yw) yj) (yb (yB (yX (yde (ymM rfl) yzg (T.Z 1) (ya (ycJ (yff [] (ydo z_v) (fun _ _ _ _ _ _=>(yeO yuK yBh (yde yA ycC (T.Z 5) (ya z_v ye)) (yeG T.m_MOST_DEEDS))))) ye))) (yd yw) yj) (yd (yi (ycJ (yff [] (ydo z_v) (fun _ _ _ _ _ _=>(yM (ygn T) (T.G 16) (T.k 61) (T.b 61) (ya z_v ye)))))))))
theorem ygp:‹(49+1,63,r63,3,ybA)›:=zfn (T.F 63 r63) (sc 63) fun cdv Ar outer sh H E hr=>(yb (ybz (yM (yhy T) (T.G 15) (T.k 60) (T.b 60) (ya z_v ye))) (yb (yca (T.N 14) z_v (ydY (ydV yS ycj (T.Z 6) (ya z_v ye)))) (yb (yca (T.N 15) z_v (ydY (ypL yma yrW (ycJ (ycz (ya yh ye))) (yde yA ycC (T.Z 5) (ya z_v ye))))) (yb (yca (T.N 16) z_v (ydY (yff ["boxes"] (ydo (yM (ygo T) (T.G 17) (T.k 62) (T.b 62) (ya z_v ye))) (fun _ _ _ _ _ _=>(yqa (T.J 8) (ygm T) (T.C 14) (T.b 34) (ya z_v (ya (yde yA ycC (T.Z 5) (ya z_v ye)) ye))))))) (yd (yca (T.N 17) z_v (ydY (ycz ye))))))))
theorem yfy:‹(0+1,64,r64,1,ycM)›:=zfn (T.F 64 r64) (sc 64) fun cdv Ar outer sh H E hr=>(yd (yi (ycJ (ydV yS ycj (T.Z 6) (ya (yC (T.N 14) z_v) ye)))))
theorem yhz:‹(0+1,65,r65,1,ycX)›:=zfn (T.F 65 r65) (sc 65) fun cdv Ar outer sh H E hr=>(yd (yi (ycJ (ydV yS ycj (T.Z 6) (ya (yC (T.N 15) z_v) ye)))))
theorem ybB:‹(1+1,66,r66,2,yQ)›:=zfn (T.F 66 r66) (sc 66) fun cdv Ar outer sh H E hr=>(yb (yB (ymC (ygQ (ybW (yX (yM (yhh T) (T.G 1) (T.k 8) (T.b 8) (ya z_v ye)))) (yeH (ybW (ygv yiX yhn ytK yqV yh z_v (yde yA ycC (T.Z 5) (ya (yC (T.N 16) z_v) ye))))))) (yd yw) yj) (yd (yi (ybs ix_list ybV (yC (T.N 16) z_v) z_v))))
theorem yfz:‹(2+1,67,r67,2,ybQ)›:=zfn (T.F 67 r67) (sc 67) fun cdv Ar outer sh H E hr=>(yd (yi (yx (yq z_v (T.M 29) (ybB T) (T.b 66) (ya z_v ye)) (T.M 24) (ydU T) (T.b 31))))
theorem yfA:‹(2+1,68,r68,2,ybR)›:=zfn (T.F 68 r68) (sc 68) fun cdv Ar outer sh H E hr=>(yd (yi (yC (T.N 10) (yq z_v (T.M 29) (ybB T) (T.b 66) (ya z_v ye)))))
theorem yiT:‹(2+1,69,r69,2,ycN)›:=zfn (T.F 69 r69) (sc 69) fun cdv Ar outer sh H E hr=>(yd (yi (ycJ (ydV yS ycj (T.Z 6) (ya (yC (T.N 2) (yC (T.N 13) (yq z_v (T.M 29) (ybB T) (T.b 66) (ya z_v ye)))) ye)))))
theorem yeq:‹(2+1,72,r72,2,ybw)›:=zfn (T.F 72 r72) (sc 72) fun cdv Ar outer sh H E hr=>(yd (yi (ydY (ydV yS ycj (T.Z 6) (ya (yC (T.N 2) (yC (T.N 13) (yq z_v (T.M 29) (ybB T) (T.b 66) (ya z_v ye)))) ye)))))
theorem yfB:‹(2+1,71,r71,2,ybS)›:=zfn (T.F 71 r71) (sc 71) fun cdv Ar outer sh H E hr=>(yd (yi (yx (yC (T.N 4) (yC (T.N 13) (yq z_v (T.M 29) (ybB T) (T.b 66) (ya z_v ye)))) (T.M 9) (yks T) (T.b 5))))
theorem yfC:‹(1+1,73,r73,1,ybh)›:=zfn (T.F 73 r73) (sc 73) fun cdv Ar outer sh H E hr=>have nd:=(sc 73 (r:=r73)).nd;(yd (ywa (yC (T.N 16) z_v) ycE (yd (yB (ymC (ymD (yt yU ycB (yx z_v (T.M 24) (ydU T) (T.b 31)) yE) (yiw (yX (yq (yC (T.N 13) z_v) (T.M 19) (yen T) (T.b 26) (ya (yC (T.N 15) z_v) ye)))))) (yd yw) yj))))
theorem ygq:‹(8+1,74,r74,5,ycs)›:=zfn (T.F 74 r74) (sc 74) fun cdv Ar outer sh H E hr=>have nd:=(sc 74 (r:=r74)).nd;(yb (yH (ybs ix_list ybV (yC (T.N 16) z_v) z_v)) (yb (ybz (yxg plainAttrs_list PySem.F.slot_list_append PySem.F.type_list_append yed ytW (yC (T.N 17) z_v) (ya (ydy (ya z_v (ya (yC (T.N 10) z_v) (ya z_v (ya (yx (yC (T.N 4) (yC (T.N 13) z_v)) (T.M 7) (ynO T) (T.b 4)) (ya z_v (ya (ycJ (ydV yS ycj (T.Z 6) (ya z_v ye))) ye))))))) ye))) (yd (ybz (yq z_v (T.M 26) (yiS T) (T.b 33) (ya z_v ye))))))
theorem ygr:‹(9+1,75,r75,2,yct)›:=zfn (T.F 75 r75) (sc 75) fun cdv Ar outer sh H E hr=>have nd:=(sc 75 (r:=r75)).nd;(yb (yH (yC (T.N 13) (ybs ix_list ybV (yC (T.N 16) z_v) z_v))) (yb (yH (yx (yC (T.N 4) z_v) (T.M 8) (ykt T) (T.b 6))) (yb (yhP (ydo z_v) ycE (yb (yH (ybs ix_tup ybc z_v yh)) (yb (ygR (ybs ix_tup ybc z_v yh) (yC (T.N 14) z_v) z_v) (yd (ygR (ycy ydv yfH (ybs ix_list ybV (yC (T.N 15) z_v) z_v) yh) (yC (T.N 15) z_v) z_v))))) (yb (ybz (yq z_v (T.M 35) (ygq T) (T.b 74) (ya z_v (ya (ydy (ya yE ye)) (ya z_v (ya (yC (T.N 2) z_v) ye)))))) (yd (ybz (yx z_v (T.M 34) (yfC T) (T.b 73))))))))
theorem ydE:‹(10+1,76,r76,3,yR)›:=zfn (T.F 76 r76) (sc 76) fun cdv Ar outer sh H E hr=>have nd:=(sc 76 (r:=r76)).nd;(yb (yH (ybs ix_list ybV (yC (T.N 16) z_v) z_v)) (yb (yH (yx (yC (T.N 13) z_v) (T.M 18) (yez T) (T.b 25))) (yb (yB (yt yU ycB (ybs ix_tup ybc z_v yh) yE) (yb (yH (yq (yC (T.N 13) z_v) (T.M 21) (yhl T) (T.b 28) (ya (yC (T.N 14) z_v) (ya (yC (T.N 15) z_v) ye)))) (yd (yi (ydy (ya yE (ya z_v (ya z_v (ya (ybs ix_list ybV (yC (T.N 14) z_v) z_v) ye)))))))) yj) (yb (yB (yt yU ycB (ybs ix_tup ybc z_v yh) yE) (yb yw (yd yw)) yj) (yb (yB (yt yU ycB (ybs ix_tup ybc z_v yh) yE) (yb yw (yd yw)) yj) (yb (ybz (yq z_v (T.M 36) (ygr T) (T.b 75) (ya z_v ye))) (yd (yi (ydy (ya yE (ya z_v ye)))))))))))
theorem ygb:‹(11+1,77,r77,2,yJ)›:=zfn (T.F 77 r77) (sc 77) fun cdv Ar outer sh H E hr=>have nd:=(sc 77 (r:=r77)).nd;(yb (yH (yq z_v (T.M 29) (ybB T) (T.b 66) (ya z_v ye))) (yb (yB (yt yne yxd (yx z_v (T.M 24) (ydU T) (T.b 31)) yE) (yd (yi (ydy (ya yE ye)))) yj) (yb (yH (yC (T.N 6) (yC (T.N 13) z_v))) (yb (yB (ybW (yX (yx (yC (T.N 13) z_v) (T.M 20) (yeo T) (T.b 27)))) (yb (ybz (yx (yC (T.N 13) z_v) (T.M 22) (yqU T) (T.b 30))) (yd (yi (ydy (ya yE (ya z_v ye)))))) yj) (yb (yB (yX (yq (yC (T.N 13) z_v) (T.M 19) (yen T) (T.b 26) (ya (yC (T.N 15) z_v) ye))) (yb yw (yd yw)) yj) (yd (yi (yq z_v (T.M 37) (ydE T) (T.b 76) (ya z_v (ya z_v ye))))))))))
theorem ycx:‹(0+1,78,r78,2,yL)›:=zfn (T.F 78 r78) (sc 78) fun cdv Ar outer sh H E hr=>(yb (yB (yt yhn yqV z_v (yde yA ycC (T.Z 5) (ya z_v ye))) (yd (yi (ybs ix_list ybV z_v z_v))) yj) (yd (yi yh)))
theorem ydF:‹(0+1,79,r79,1,ybH)›:=zfn (T.F 79 r79) (sc 79) fun cdv Ar outer sh H E hr=>have nd:=(sc 79 (r:=r79)).nd;(yb (yH (ycy yfD ynr z_v yh)) (yb (yB (yt yU ycB (ycy ybI ycT z_v yh) yh) (yd (yi (ycy ybI ycT z_v yh))) yj) (yb (yB (yt yU ycB (ycy ybI ycT z_v yh) yh) (yd (yi (ycy ylU yrR (ycy ylU yrR (ycy yiW yoV yh yh) yh) (ycy ybI ycT z_v yh)))) yj) (yd (yi (ycy ybI ycT z_v (ycy yiW yoV yh yh)))))))
theorem yku:‹(1+1,80,r80,1,ycI)›:=zfn (T.F 80 r80) (sc 80) fun cdv Ar outer sh H E hr=>have nd:=(sc 80 (r:=r80)).nd;(yb (yH (ycy ybI ycT (ycy yiV yoU z_v yh) yh)) (yb (yH (ycJ (ycz (ya (ybs yjf yrU yE (ycy ybI ycT (ycy yfD ynr z_v yh) yh)) (ya (ybs yjf yrU yE (ycy ybI ycT (ycy yfD ynr z_v yh) yh)) (ya (ybs yjf yrU yE (ycy ybI ycT (ycy yfD ynr z_v yh) yh)) ye)))))) (yb (yH (ycy ybI ycT z_v yh)) (yb (yB (yt yhn yqV z_v yh) (yd (yi (ydy (ya yE (ya (ybs ix_list ybV z_v yh) (ya (yM (ydF T) (T.G 19) (T.k 79) (T.b 79) (ya z_v ye)) ye)))))) yj) (yb (yB (yt yU ycB z_v yh) (yd (yi (ydy (ya (ybs ix_list ybV (ycJ (ycz (ya yE (ya yE (ya yE (ya yE (ya yE ye))))))) (ycy ybI ycT (ycy yfD ynr z_v yh) yh)) (ya (ybs ix_list ybV z_v yh) (ya (ybs ix_list ybV z_v yh) (ya (ybs ix_list ybV z_v yh) ye))))))) yj) (yb (yB (yt yhn yqV z_v yh) (yd (yi (ydy (ya yE (ya (ybs ix_list ybV z_v yh) (ya (ybs ix_list ybV z_v yh) ye)))))) yj) (yd (yi (ydy (ya yE (ya (ybs ix_list ybV z_v yh) (ya (ybs ix_list ybV z_v yh) ye))))))))))))
theorem ygs:‹(0+1,81,r81,3,ycu)›:=zfn (T.F 81 r81) (sc 81) fun cdv Ar outer sh H E hr=>(yb (yB (yt yU ycB z_v yE) (yd (yi (ycy ybI ycT (ycy ydv yfH z_v z_v) (ycy yiW yoV yh yh)))) yj) (yb (yB (yt yU ycB z_v yE) (yd (yi (ycy ybI ycT (ycy ylU yrR z_v z_v) (ycy yiW yoV yh yh)))) yj) (yb (yB (yt yU ycB z_v yE) (yd (yi (ycy ybI ycT (ycy yiV yoU z_v z_v) (ycy yiW yoV yh yh)))) yj) (yb (yB (yt yU ycB z_v yE) (yd (yi (ysx yiY ytM (T.Z 3) (ya (yeO yhn yqV z_v z_v) ye)))) yj) (yd (yi (ysx yiY ytM (T.Z 3) (ya (yeO yU ycB z_v z_v) ye))))))))
theorem ykv:‹(1+1,82,r82,4,yW)›:=zfn (T.F 82 r82) (sc 82) fun cdv Ar outer sh H E hr=>have nd:=(sc 82 (r:=r82)).nd;(yb (yzn z_v (yuc (yfe ycE (yfe ycE (yfe ycE ypO))))) (yb (yB (yt yU ycB (ybs ix_tup ybc z_v yh) yE) (yd (ydL z_v (ybs ix_tup ybc z_v yh) (ybs ix_tup ybc z_v yh))) (yd (yB (yt yU ycB (ybs ix_tup ybc z_v yh) yE) (yd (ydL z_v (ycy ybI ycT (yfg z_v (ybs ix_tup ybc z_v yh)) (yde yA ycC (T.Z 5) (ya z_v ye))) (yfg z_v (ybs ix_tup ybc z_v yh)))) (yd (yB (yt yU ycB (ybs ix_tup ybc z_v yh) yE) (yb (yH (ycy ybI ycT (yfg z_v (ybs ix_tup ybc z_v yh)) (yde yA ycC (T.Z 5) (ya z_v ye)))) (yb (ydL z_v (ybs ix_tup ybc z_v yh) (yvW z_v z_v (ybs ix_list ybV z_v z_v) ⟨rfl,rfl,rfl,rfl⟩)) (yd (yB (ypR z_v z_v) (yb (ydL z_v z_v (ybs ix_list ybV z_v z_v)) (yd (yi (ydy (ya yE (ya z_v (ya z_v (ya (ybs ix_list ybV z_v z_v) ye)))))))) yj)))) (yd (ydL z_v (ybs ix_tup ybc z_v yh) (yM (ygs T) (T.G 21) (T.k 81) (T.b 81) (ya (ybs ix_tup ybc z_v yh) (ya (yfg z_v (ybs ix_tup ybc z_v yh)) (ya (yfg z_v (ybs ix_tup ybc z_v yh)) ye))))))))))) (yd (yi (ydy (ya yE (ya z_v ye)))))))
theorem ydt:∀ n,yDR P w K mg base t n
 | 0=>⟨yqR⟩
 | n+1=>by
  have I:=ydt n
  have ykw:=I.ybg
  exact ⟨zfn (T.F 83 r83) (sc 83) fun cdv Ar outer sh H E hr=>have nd:=(sc 83 (r:=r83)).nd;(yb (yB (yX (yde yF (ydJ (K:=ckX _ _) T.isa) (T.Z 4) (ya z_v (ya (yhq (T.Z 3)) ye)))) (yd (yi (yiv (yde yF (ydJ (K:=ckX _ _) T.isa) (T.Z 4) (ya z_v (ya (yhq (T.Z 3)) ye))) (yiv (yzk (yde yF (ydJ (K:=ckX _ _) T.isa) (T.Z 4) (ya z_v (ya (yhq (T.Z 2)) ye)))) (ylv (yeO yU ycB z_v z_v)))))) yj) (yb (yB (yX (yde yF (ydJ (K:=ckX _ _) T.isa) (T.Z 4) (ya z_v (ya (yhq (T.Z 10)) ye)))) (yd (yi (yiv (yde yF (ydJ (K:=ckX _ _) T.isa) (T.Z 4) (ya z_v (ya (yhq (T.Z 10)) ye))) (ylv (yeO yU ycB z_v z_v))))) yj) (yb (yB (yX (yde yF (ydJ (K:=ckX _ _) T.isa) (T.Z 4) (ya z_v (ya (yhq (T.Z 12)) ye)))) (yd (yB (ybW (yX (yde yF (ydJ (K:=ckX _ _) T.isa) (T.Z 4) (ya z_v (ya (yhq (T.Z 12)) ye))))) (yd (yi ylu)) yj)) (yd (yB (ybW (yX (yde yF (ydJ (K:=ckX _ _) T.isa) (T.Z 4) (ya z_v (ya (yhq (T.Z 6)) ye))))) (yd (yi ylu)) yj))) (yb (yB (yt yne yxd (yde yA ycC (T.Z 5) (ya z_v ye)) (yde yA ycC (T.Z 5) (ya z_v ye))) (yd (yi ylu)) yj) (yb (yhP (yix (T.Z 7) (ya (yde yA ycC (T.Z 5) (ya z_v ye)) ye)) ycE (yd (yB (ybW (yX (yM ykw (T.G 23) (T.k 83) (T.b 83) (ya (ybs ytz yyW z_v z_v) (ya (ybs ytz yyW z_v z_v) ye))))) (yd (yi ylu)) yj))) (yd (yi ylu)))))))⟩
theorem ydu:‹(11+1,84,r84,5,ybf)›:=zfn (T.F 84 r84) (sc 84) fun cdv Ar outer sh H E hr=>have nd:=(sc 84 (r:=r84)).nd;(yb (yhP (yix (T.Z 7) (ya yh ye)) ycE (yb (yH (ycy ybI ycT (ycy ydv yfH z_v z_v) yh)) (yb (yB (yt yU ycB z_v yh) (yb (yH (yq z_v (T.M 40) (yeq T) (T.b 72) (ya yh ye))) (yb (yB (ybW (yX (yM (ydt T 10).ybg (T.G 23) (T.k 83) (T.b 83) (ya z_v (ya z_v ye))))) (yd (yi ylu)) yj) (yd (ygR yh z_v yh)))) yj) (yb (yB (yt yU ycB z_v yh) (yb (yH (yq z_v (T.M 39) (yfB T) (T.b 71) (ya yh ye))) (yb (yB (ybW (yX (yM (ydt T 10).ybg (T.G 23) (T.k 83) (T.b 83) (ya z_v (ya z_v ye))))) (yd (yi ylu)) yj) (yd (ybz (yxg plainAttrs_list PySem.F.slot_list_append PySem.F.type_list_append yed ytW z_v (ya (ydy (ya yh (ya yh ye))) ye)))))) yj) (yb (yB (ymC (ymD (yt yU ycB z_v yh) (yiw (ybW (yX (yM (ydt T 10).ybg (T.G 23) (T.k 83) (T.b 83) (ya (yq z_v (T.M 31) (yfA T) (T.b 68) (ya yh ye)) (ya z_v ye)))))))) (yd (yi ylu)) yj) (yd (yB (ymC (ymD (yt yU ycB z_v yh) (yiw (yt yne yxd (yq z_v (T.M 30) (yfz T) (T.b 67) (ya yh ye)) (ybs ix_list ybV (ycJ (ycz (ya yE (ya yE ye)))) z_v))))) (yd (yi ylu)) yj))))))) (yd (yi (yiv (yM (ydt T 10).ybg (T.G 23) (T.k 83) (T.b 83) (ya (yq z_v (T.M 40) (yeq T) (T.b 72) (ya yh ye)) (ya z_v ye))) (ylv (yM (ydt T 10).ybg (T.G 23) (T.k 83) (T.b 83) (ya (yq z_v (T.M 39) (yfB T) (T.b 71) (ya yh ye)) (ya z_v ye))))))))
theorem yAo:‹(51+1,85,r85,1,ysH)›:=zfn (T.F 85 r85) (sc 85) fun cdv Ar outer sh H E hr=>have nd:=(sc 85 (r:=r85)).nd;(yb (yH (ycy ydv yfH yh (ycy ybI ycT (yM (ycx T) (T.G 18) (T.k 78) (T.b 78) (ya z_v (ya yh ye))) yh))) (yb (ysD ["_law_script"] (yix (T.Z 7) (ya z_v ye)) (fun _ _ _ _ _ _=>(yM (ydF T) (T.G 19) (T.k 79) (T.b 79) (ya (ycy ydv yfH (yM (ycx T) (T.G 18) (T.k 78) (T.b 78) (ya z_v (ya yh ye))) (ycy yiV yoU (ycy yiV yoU yh z_v) z_v)) ye)))) (yb (yiC [] (ydo (ycJ (yCj yuW yBj z_v (ypN yh) (ypN yh)))) (fun _ _ _ _ _ _=>(yM (yku T) (T.G 20) (T.k 80) (T.b 80) (ya z_v ye)))) (yb (yH (yxg PySem.F.plainAttrs_str PySem.F.slot_str_join PySem.F.type_str_join yoC ytO yE (ya (ycJ (yff [] (ydo z_v) (fun _ _ _ _ _ _=>(yxg PySem.F.plainAttrs_str PySem.F.slot_str_join PySem.F.type_str_join yoC ytO yE (ya (ycJ (yff [] (yzm z_v) (fun _ _ _ _ _ _=>(ysx ypZ yzf (T.Z 10) (ya z_v ye))))) ye))))) ye))) (yb (yH (ybs ix_list ybV (ycJ (ycz (ya (ycJ (ycz ye)) (ya (ycJ (ycz (ya yE ye))) ye)))) (ycy ybI ycT (yM (ycx T) (T.G 18) (T.k 78) (T.b 78) (ya z_v (ya yh ye))) yh))) (yb (yH (yqa (T.J 9) (ygp T) (T.C 15) (T.b 63) (ya (ycJ (ydV yS ycj (T.Z 6) (ya z_v ye))) (ya (ycJ (ycz (ya (ycJ (ycz (ya z_v ye))) (ya (ycJ (ydV yS ycj (T.Z 6) (ya z_v ye))) ye)))) ye)))) (yb (yH (ydY yhQ)) (yb (yhP (ymE yE) ycE (yd (ydL z_v z_v yh))) (yb (yH (ydy (ya z_v (ya (ydY yhQ) (ya (ydY yhQ) ye))))) (yb (yhP (yix (T.Z 7) (ya (yde yA ycC (T.Z 5) (ya z_v ye)) ye)) ycE (yb (yH (yM (ykv T) (T.G 22) (T.k 82) (T.b 82) (ya (ybs ix_list ybV z_v z_v) (ya z_v (ya z_v (ya z_v ye)))))) (yb (yB (ymC (ygQ (ybW (yX (yM (ydt T 10).ybg (T.G 23) (T.k 83) (T.b 83) (ya (yq z_v (T.M 38) (ygb T) (T.b 77) (ya yh ye)) (ya z_v ye))))) (yeH (ybW (yX (yM (ydt T 10).ybg (T.G 23) (T.k 83) (T.b 83) (ya (yx z_v (T.M 27) (yfy T) (T.b 64)) (ya z_v ye)))))))) (yd (yi ylu)) yj) (yb (yiC ["_law_slots"] (ymE yE) (fun _ _ _ _ _ _=>(yfg z_v z_v))) (yd (yB (ybW (yX (yM (ydu T) (T.G 24) (T.k 84) (T.b 84) (ya z_v (ya z_v (ya (ycJ (PXS.z_sortI (ybs ix_tup ybc z_v yh) (T.Z 9))) (ya yh (ya (ycy ydv yfH z_v (ycy ybI ycT (ycy yfD ynr (yM (ycx T) (T.G 18) (T.k 78) (T.b 78) (ya z_v (ya yh ye))) yh) yh)) ye)))))))) (yd (yi ylu)) yj)))))) (yb (yiC ["_law_slots"] (ymE yE) (fun _ _ _ _ _ _=>(yfg z_v z_v))) (yb (yB (ybW (yX (yM (ydu T) (T.G 24) (T.k 84) (T.b 84) (ya z_v (ya z_v (ya (ycJ (PXS.z_sortI (ybs ix_tup ybc z_v yh) (T.Z 9))) (ya yh (ya yh ye)))))))) (yd (yi ylu)) yj) (yb (yB (ymC (ygQ (yt (yzs (yud hr)) yCe (yx z_v (T.M 28) (yhz T) (T.b 65)) (ycJ (ypL yma yrW (ycJ (ycz (ya yh ye))) z_v))) (yeH (ybW (yX (yM (ydt T 10).ybg (T.G 23) (T.k 83) (T.b 83) (ya (yq z_v (T.M 38) (ygb T) (T.b 77) (ya yh ye)) (ya (ydy (ya yE (ya (yde yA ycC (T.Z 5) (ya z_v ye)) ye))) ye)))))))) (yd (yi ylu)) yj) (yb (ywk (ybs ix_tup ybc z_v yh) (yuc (yfe ycE (yfe ycE ypO))) (yd (ygR z_v z_v z_v))) (yb (yB (ymC (ygQ (ybW (yX (yM (ydt T 10).ybg (T.G 23) (T.k 83) (T.b 83) (ya (yx z_v (T.M 27) (yfy T) (T.b 64)) (ya z_v ye))))) (yeH (ybW (yX (yM (ydu T) (T.G 24) (T.k 84) (T.b 84) (ya z_v (ya z_v (ya (ycJ (ycz ye)) (ya yh (ya yh ye))))))))))) (yd (yi ylu)) yj) (yd (yi (yiv (yeO (yzr (yud hr)) yCd (yq z_v (T.M 32) (yiT T) (T.b 69) (ya yh ye)) (ycJ (ypL yma yrW (ycJ (ycz (ya yh ye))) yh))) (yiv (yeO yU ycB (yq z_v (T.M 31) (yfA T) (T.b 68) (ya yh ye)) yh) (ylv (yeO yU ycB (yq z_v (T.M 30) (yfz T) (T.b 67) (ya yh ye)) (ybs ix_list ybV (ycJ (ycz (ya yE (ya yE ye)))) (yde yA ycC (T.Z 5) (ya z_v ye))))))))))))))))))))))))
def yto (K:PySem.W.Frag):Sp:=fun vs H Q _=>∃ (a:Addr) (ns:List Int),vs=[.ref a]/\SqL K H a (ns.map V.int)/\ns.length<=63/\∀ H',Q (.bl true) H'
theorem yAp {A:Nat->Addr}:∀ vs H Q E,yto K vs H Q E->spE ⟨K,A⟩ 1 ysH vs H Q E:=by
 rintro _ H Q E ⟨a,ns,rfl,hS,hl,q⟩
 obtain ⟨h',e⟩:=yAn (h:=[]) ns hl
 exact ⟨⟨H,H,[],[]⟩,[.scr ns],.bl true,h',rfl,⟨Same.refl _,rfl,List.nodup_nil,fun n d a e=>by simp at e⟩,⟨.ref a,[],rfl,⟨a,rfl,hS⟩,rfl⟩,rfl,e,fun v W' _ _ rv=>by rw [show v=_ from rv];exact q _⟩
end
structure FB (K:PySem.W.Frag) (r:FR) (p:Addr×FuncData):Prop where
 F:Fun K r.1 r.2.1 r.2.2.1 p.1 p.2
 b:Binds K p.2 r.ps []
theorem FB.of {K:PySem.W.Frag}{x q:Str}{s:Stmt}{k:Nat}{n:List Str}{f:Addr}{d:FuncData}(F:Fun K x q s f d) (b:Binds K d (n.take k) []):FB K (fRw x q s k n) (f,d):=⟨F,b⟩
def All2 {α β:Type}(R:α->β->Prop):List α->List β->Prop
 | r::rs,p::ps=>R r p/\All2 R rs ps
 | [],[]=>True
 | _,_=>False
theorem All2.get {α β:Type}{R:α->β->Prop}{d:α}{e:β}(h:R d e):∀ {rs:List α}{ps:List β},All2 R rs ps->∀ n:Nat,R (rs.getD n d) (ps.getD n e)
 | [],[],_,_=>h
 | _::_,_::_,a,0=>a.1
 | _::_,_::_,a,n+1=>All2.get h a.2 n
abbrev Ns1 (K:PySem.W.Frag) (x:Str) (f:Addr):Prop:=nsIn K mainGlobals x=some (some (.ref f))
structure TyR (K:PySem.W.Frag) (C:Addr):Prop where
 ha:findIn K (.ref C) "__class__" = some (some (.builtin "object.__class__"))
 hm:mroIn K C (.type "object")=some true
 ty:typeIn K (.ref C)=some (.type "type")
structure NS2 (K:PySem.W.Frag) (c d:Addr):Prop where
 sb:subIn K (.ref c) (.ref d)=some false
 ne:(c == d)=false
noncomputable def NSx (K:PySem.W.Frag) (pre:List Addr):List Addr->Prop
 | []=>True
 | c::cs=>AllP (NS2 K c) pre/\AllP (NS2 K c) cs/\NSx K (c::pre) cs
theorem NSx.get {K:PySem.W.Frag}{A:Nat->Addr}:∀ {cs pre:List Nat},NSx K (pre.map A) (cs.map A)->∀ i∈cs,∀ j,j∈pre\/j∈cs->i≠j->NS2 K (A i) (A j)
 | c::cs,pre,a,i,hi,j,hj,ne=>by
  rcases mem_cons.mp hi with rfl|hi
  .rcases hj with hj|hj
   .exact a.1.mem _ (List.mem_map_of_mem hj)
   .rcases mem_cons.mp hj with rfl|hj
    .exact absurd rfl ne
    .exact a.2.1.mem _ (List.mem_map_of_mem hj)
  .refine NSx.get (pre:=c::pre) a.2.2 i hi j ?_ ne
   rcases hj with hj|hj
   .exact .inl (mem_cons_of_mem _ hj)
   .rcases mem_cons.mp hj with rfl|hj
    .exact .inl mem_cons_self
    .exact .inr hj
theorem yxa {K:PySem.W.Frag}{A:Nat->Addr}(CL:∀ k,Cls K (A k)) (hn:PySem.W.specialIn K (.builtin "object.__class__") "__get__" = some (some (.builtin "getset_descriptor.__get__"))) (htk:PySem.W.takesIn K (.builtin "object.__class__")=some true) (cs:List Nat) (ty:AllP (TyR K) (cs.map A)) (sb:NSx K [] (cs.map A)) :
  ∀ r∈tbO cs,∀ (H:Hp) (a dx:Addr) (fs:List (Str×V)),H a=some (.ins (A r.1) dx fs)->IsI K H (.ref a) (.ref (A r.2.1)) r.2.2:=by
 intro r hr H a dx fs e
 unfold tbO at hr
 obtain ⟨i,hi,hr⟩:=List.mem_flatMap.mp hr
 obtain ⟨j,hj,rfl⟩:=List.mem_map.mp hr
 have t:=ty.mem _ (List.mem_map_of_mem hi)
 have t':=ty.mem _ (List.mem_map_of_mem hj)
 refine ⟨_,_,.ins e (CL i) t.ha hn htk t.hm,rfl,?_⟩
 by_cases q:i=j
 .subst q
  show _=some (i == i)
  rw [beq_self_eq_true]
  exact yrv
 .have n:=NSx.get (pre:=[]) sb i hi j (.inr hj) q
  show _=some (i == j)
  rw [beq_eq_false_iff_ne.mpr q]
  exact yrx n.ne t'.hm t'.ty n.sb
theorem zip_get {K:PySem.W.Frag}{c0:Str}{C0:Addr}:∀ {cs:List Str}{as:List Addr},AllP (fun p:Str×Addr=>Ns1 K p.1 p.2) ((c0::cs).zip (C0::as))->cs.length=as.length->∀ n:Nat,Ns1 K ((c0::cs).getD n c0) ((C0::as).getD n C0):=fun {cs as} h hl n=>by
 have h0:=h.1
 have:∀ (cs:List Str) (as:List Addr),AllP (fun p:Str×Addr=>Ns1 K p.1 p.2) (cs.zip as)->cs.length=as.length->∀ n:Nat,Ns1 K (cs.getD n c0) (as.getD n C0):=by
  intro cs
  induction cs with
  | nil=>intro as _ e n;cases as with|nil=>exact h0|cons _ _=>cases e
  | cons c cs ih=>intro as h e n;cases as with|nil=>cases e|cons a as=>cases n with|zero=>exact h.1|succ n=>exact ih as h.2 (by simpa using e) n
 exact this _ _ h (by simpa using hl) n
theorem all_mk {l:PySem.W.OpenLaw}{w:World}{K:PySem.W.Frag}{h:Heap}{mg:Str->Option Value}{fa C0 C1 C2 C3 C4 C5 C6 C7 C8 C9 C10 C11 C12 C13 C14 C15 f0 f1 f2 f3 f4 f5 f6 f7 f8 f9 f10 f11 f12 f13 f14 f15 f16 f17 f18 f19 f20 f21 f22 f23 f24 f25 f26 f27 f28 f29 f30 f31 f32 f33 f34 f35 f36 f37 f38 f39 f40 f41 f42 f43 f44 f45 f46 f47 f48 f49 f50 f51 f52 f53 f54 f55 f56 f57 f58 f59 f60 f61 f62 f63 f64 f65 f66 f67 f68 f69 f70 f71 f72 f73 f74 f75 f76 f77 f78 f79 f80 f81 f82 f83 f84 f85 u9:Addr}{d0 d1 d2 d3 d4 d5 d6 d7 d8 d9 d10 d11 d12 d13 d14 d15 d16 d17 d18 d19 d20 d21 d22 d23 d24 d25 d26 d27 d28 d29 d30 d31 d32 d33 d34 d35 d36 d37 d38 d39 d40 d41 d42 d43 d44 d45 d46 d47 d48 d49 d50 d51 d52 d53 d54 d55 d56 d57 d58 d59 d60 d61 d62 d63 d64 d65 d66 d67 d68 d69 d70 d71 d72 d73 d74 d75 d76 d77 d78 d79 d80 d81 d82 d83 d84 d85:FuncData}{u1 u2 u3 u4 u5 u6 u7 u8:Tok}(X:K.In h) (G:h.Ns mainGlobals mg) (hfa:mg "law" = some (.ref fa))
  {qd9:Option Addr}{qn9:Nat}{qs9:Array (Option Value)}{qt9_0 qt9_1 qt9_2 qt9_3 qt9_4:Tok}
  (hC:Ns1 K "Part" C0/\Ns1 K "Let" C1/\Ns1 K "Reckon" C2/\Ns1 K "Take" C3/\Ns1 K "Put" C4/\Ns1 K "If" C5/\Ns1 K "Either" C6/\Ns1 K "Try" C7/\Ns1 K "Throw" C8/\Ns1 K "Wait" C9/\Ns1 K "Reader" C10/\Ns1 K "Log" C11/\Ns1 K "Run" C12/\Ns1 K "Doer" C13/\Ns1 K "Hand" C14/\Ns1 K "Hall" C15/\True)
  (cl:AllP (Cls K) [C0,C1,C2,C3,C4,C5,C6,C7,C8,C9,C10,C11,C12,C13,C14,C15])
  (hK:Mk K C1 f35/\Mk K C2 f36/\Mk K C3 f37/\Mk K C4 f38/\Mk K C10 f48/\Mk K C11 f0/\Mk K C12 f24/\Mk K C13 f15/\Mk K C14 f34/\Mk K C15 f63/\True)
  (mk0:makesIn K C0=true)
  (io0:findIn K (.ref C0) "__init__" = some (some (.builtin "object.__init__")))
  (kp0:keepIn K (.ref C0)=true)
  (mk9:makesIn K C9=true)
  (io9:findIn K (.ref C9) "__init__" = some (some (.builtin "object.__init__")))
  (kp9:keepIn K (.ref C9)=true)
  (hM:Meth K C1 "long" f39/\Meth K C2 "long" f40/\Meth K C3 "long" f41/\Meth K C4 "long" f42/\Meth K C11 "write" f1/\Meth K C11 "own" f2/\Meth K C11 "see" f3/\Meth K C11 "saw" f4/\Meth K C11 "wrote" f6/\Meth K C11 "saw" f5/\Meth K C12 "held_in" f16/\Meth K C12 "hold" f17/\Meth K C12 "box_at" f18/\Meth K C12 "do_put" f20/\Meth K C12 "do_reckon" f19/\Meth K C12 "sees_at" f21/\Meth K C12 "take_own" f22/\Meth K C12 "take_seen" f23/\Meth K C12 "row" f25/\Meth K C12 "is_stale" f26/\Meth K C12 "is_looked_over" f27/\Meth K C12 "see_next" f28/\Meth K C12 "go" f30/\Meth K C12 "go_plain" f29/\Meth K C14 "state" f31/\Meth K C14 "new_run" f32/\Meth K C14 "go_on" f33/\Meth K C15 "boxes" f64/\Meth K C15 "stamps" f65/\Meth K C15 "hand_at" f66/\Meth K C15 "state" f67/\Meth K C15 "which" f68/\Meth K C15 "slots" f69/\Meth K C15 "saw" f70/\Meth K C15 "wake_stale" f73/\Meth K C15 "end_deed" f74/\Meth K C15 "lay_down" f75/\Meth K C15 "looked_over_told" f76/\Meth K C15 "turn" f77/\Meth K C15 "saw" f71/\Meth K C15 "slots" f72/\Meth K C10 "ahead" f50/\Meth K C10 "taken" f51/\Meth K C10 "pass_over" f52/\Meth K C10 "slot_taken" f53/\Meth K C10 "number_taken" f54/\Meth K C10 "list_taken" f58/\Meth K C10 "part_taken" f57/\Meth K C10 "reckon_taken" f55/\Meth K C10 "plain_taken" f56/\True)
  (cf13:ysE K C13 "__init__" f15)
  (hG:Ns1 K "reckon" f7/\Ns1 K "is_whole" f8/\Ns1 K "is_number" f9/\Ns1 K "is_made_of" f10/\Ns1 K "number_of" f11/\Ns1 K "is_word" f12/\Ns1 K "is_slot" f13/\Ns1 K "slot_index" f14/\Ns1 K "list_long" f43/\Ns1 K "plain_rows" f44/\Ns1 K "part_rows" f45/\Ns1 K "list_rows" f46/\Ns1 K "rows_of" f47/\Ns1 K "words_of" f49/\Ns1 K "read" f59/\Ns1 K "check_boxes" f60/\Ns1 K "rows_of_deeds" f61/\Ns1 K "rows_of_hands" f62/\Ns1 K "_law_cell_at" f78/\Ns1 K "_law_number_by" f79/\Ns1 K "_law_part" f80/\Ns1 K "_law_reckoned" f81/\Ns1 K "_law_done" f82/\Ns1 K "_law_alike" f83/\Ns1 K "_law_speaks" f84/\Ns1 K "law" f85/\True)
  (hF:All2 (FB K) fT [(f0,d0),(f1,d1),(f2,d2),(f3,d3),(f4,d4),(f5,d5),(f6,d6),(f7,d7),(f8,d8),(f9,d9),(f10,d10),(f11,d11),(f12,d12),(f13,d13),(f14,d14),(f15,d15),(f16,d16),(f17,d17),(f18,d18),(f19,d19),(f20,d20),(f21,d21),(f22,d22),(f23,d23),(f24,d24),(f25,d25),(f26,d26),(f27,d27),(f28,d28),(f29,d29),(f30,d30),(f31,d31),(f32,d32),(f33,d33),(f34,d34),(f35,d35),(f36,d36),(f37,d37),(f38,d38),(f39,d39),(f40,d40),(f41,d41),(f42,d42),(f43,d43),(f44,d44),(f45,d45),(f46,d46),(f47,d47),(f48,d48),(f49,d49),(f50,d50),(f51,d51),(f52,d52),(f53,d53),(f54,d54),(f55,d55),(f56,d56),(f57,d57),(f58,d58),(f59,d59),(f60,d60),(f61,d61),(f62,d62),(f63,d63),(f64,d64),(f65,d65),(f66,d66),(f67,d67),(f68,d68),(f69,d69),(f70,d70),(f71,d71),(f72,d72),(f73,d73),(f74,d74),(f75,d75),(f76,d76),(f77,d77),(f78,d78),(f79,d79),(f80,d80),(f81,d81),(f82,d82),(f83,d83),(f84,d84),(f85,d85)])
  (hN:(NoAttr K C11 "stack"/\True)/\(NoAttr K C11 "last_seen"/\True)/\(NoAttr K C12 "held"/\True)/\(NoAttr K C12 "width"/\NoAttr K C14 "width"/\True)/\(NoAttr K C12 "log"/\True)/\(NoAttr K C12 "rows"/\True)/\(NoAttr K C10 "at"/\NoAttr K C12 "at"/\True)/\(NoAttr K C12 "seen_stamps"/\True)/\(NoAttr K C12 "sides"/\True)/\(NoAttr K C14 "deeds"/\True)/\(NoAttr K C14 "nth"/\True)/\(NoAttr K C14 "sleeps"/\True)/\(NoAttr K C14 "before"/\True)/\(NoAttr K C14 "run"/\True)/\(NoAttr K C15 "numbers"/\True)/\(NoAttr K C15 "marks"/\True)/\(NoAttr K C15 "crew"/\True)/\(NoAttr K C15 "entries"/\True)/\(NoAttr K C10 "words"/\True)/\(NoAttr K C1 "slot"/\NoAttr K C2 "slot"/\NoAttr K C3 "slot"/\NoAttr K C4 "slot"/\True)/\(NoAttr K C1 "number"/\True)/\(NoAttr K C3 "place"/\NoAttr K C4 "place"/\True)/\(NoAttr K C2 "word"/\True)/\(NoAttr K C2 "one"/\True)/\(NoAttr K C2 "other"/\True)/\True)
  (ty:AllP (TyR K) [C1,C2,C3,C4,C5,C6,C7,C8,C9])
  (sb:NSx K [] [C1,C2,C3,C4,C5,C6,C7,C8,C9])
  (hn:PySem.W.specialIn K (.builtin "object.__class__") "__get__" = some (some (.builtin "getset_descriptor.__get__")))
  (htk:PySem.W.takesIn K (.builtin "object.__class__")=some true)
  (hZ:AllP (fun b=>nsIn K mainGlobals b=some none) zT)
  (q1:nsIn K mainGlobals "FIGURES" = some (some (.str "0123456789" u1)))
  (q2:nsIn K mainGlobals "MOST_AROUND" = some (some (.int 8 u2)))
  (q3:nsIn K mainGlobals "MOST_BOXES" = some (some (.int 16 u3)))
  (q4:nsIn K mainGlobals "MOST_DEEDS" = some (some (.int 6 u4)))
  (q5:nsIn K mainGlobals "MOST_HANDS" = some (some (.int 8 u5)))
  (q6:nsIn K mainGlobals "MOST_ROWS" = some (some (.int 80 u6)))
  (q7:nsIn K mainGlobals "SLOTS" = some (some (.str "abcdefgh" u7)))
  (q8:nsIn K mainGlobals "WIDE" = some (some (.int 18446744073709551616 u8)))
  (q9:nsIn K mainGlobals "WORDS" = some (some (.ref u9)))
  (qk9:K.lookup u9=some ⟨.type "tuple",qd9,.seq #[.str "plus" qt9_0,.str "minus" qt9_1,.str "times" qt9_2,.str "less" qt9_3,.str "same" qt9_4] qn9,qs9⟩) :
  ∃ fd:FuncData,(∀ (s:Shared) (v:Value),BindsTo s fd ⟨[v],[]⟩ [("_law_script",v)])/\∀ base:Heap,K.In base->base.Ns mainGlobals mg->FnOk l.prog w K mg base CX0 52 fa fd ["_law_script"] (yto K):=by
 let t:Ads:=⟨fun k=>[C0,C1,C2,C3,C4,C5,C6,C7,C8,C9,C10,C11,C12,C13,C14,C15].getD k C0,fun n=>[(f0,d0),(f1,d1),(f2,d2),(f3,d3),(f4,d4),(f5,d5),(f6,d6),(f7,d7),(f8,d8),(f9,d9),(f10,d10),(f11,d11),(f12,d12),(f13,d13),(f14,d14),(f15,d15),(f16,d16),(f17,d17),(f18,d18),(f19,d19),(f20,d20),(f21,d21),(f22,d22),(f23,d23),(f24,d24),(f25,d25),(f26,d26),(f27,d27),(f28,d28),(f29,d29),(f30,d30),(f31,d31),(f32,d32),(f33,d33),(f34,d34),(f35,d35),(f36,d36),(f37,d37),(f38,d38),(f39,d39),(f40,d40),(f41,d41),(f42,d42),(f43,d43),(f44,d44),(f45,d45),(f46,d46),(f47,d47),(f48,d48),(f49,d49),(f50,d50),(f51,d51),(f52,d52),(f53,d53),(f54,d54),(f55,d55),(f56,d56),(f57,d57),(f58,d58),(f59,d59),(f60,d60),(f61,d61),(f62,d62),(f63,d63),(f64,d64),(f65,d65),(f66,d66),(f67,d67),(f68,d68),(f69,d69),(f70,d70),(f71,d71),(f72,d72),(f73,d73),(f74,d74),(f75,d75),(f76,d76),(f77,d77),(f78,d78),(f79,d79),(f80,d80),(f81,d81),(f82,d82),(f83,d83),(f84,d84),(f85,d85)].getD n (f0,d0),u1,u2,u3,u4,u5,u6,u7,u8,u9⟩
 have CL:∀ k,Cls K (t.A k):=fun k=>AllP.get cl.1 cl k
 have FF:∀ n,FB K (fR n) (t.fl n):=fun n=>All2.get hF.1 hF n
 have hC:AllP (fun p:Str×Addr=>Ns1 K p.1 p.2) (cT.zip [C0,C1,C2,C3,C4,C5,C6,C7,C8,C9,C10,C11,C12,C13,C14,C15]):=hC
 have hG:AllP (fun r:Str×Nat=>Ns1 K r.1 (t.a r.2)) gT:=hG
 have hK:AllP (fun r:Nat×Nat=>Mk K (t.A r.1) (t.a r.2)) kT:=hK
 have hM:AllP (fun r:Nat×Str×Nat=>Meth K (t.A r.1) r.2.1 (t.a r.2.2)) mT:=hM
 have hN:AllP (fun r:Str×List Nat=>AllP (fun k=>NoAttr K (t.A k) r.1) r.2) nT:=hN
 have T:Txt K mg t:=⟨fun n=>(FF n).F,fun n=>(FF n).b,fun n=>mg_of X G (AllP.get (p:=fun r:Str×Nat=>Ns1 K r.1 (t.a r.2)) hG.1 hG n),fun n=>mg_of X G (zip_get hC rfl n),fun n=>AllP.get (p:=fun r:Nat×Nat=>Mk K (t.A r.1) (t.a r.2)) hK.1 hK n,fun n=>AllP.get (p:=fun r:Nat×Str×Nat=>Meth K (t.A r.1) r.2.1 (t.a r.2.2)) hM.1 hM n,mk0,io0,kp0,mk9,io9,kp9,cf13,CL,fun n k hk=>⟨CL k,(AllP.get (p:=fun r:Str×List Nat=>AllP (fun k=>NoAttr K (t.A k) r.1) r.2) hN.1 hN n).mem k hk⟩,yxa CL hn htk [1,2,3,4,5,6,7,8,9] ty sb,fun n=>PySem.W.mg_none_of X G (AllP.get (p:=fun b=>nsIn K mainGlobals b=some none) hZ.1 hZ n),mg_of X G q1,mg_of X G q2,mg_of X G q3,mg_of X G q4,mg_of X G q5,mg_of X G q6,mg_of X G q7,mg_of X G q8,mg_of X G q9,⟨_,_,_,qk9,rfl,rfl,(by show 5<=sizeLine;decide),.cons ⟨_,rfl⟩ (.cons ⟨_,rfl⟩ (.cons ⟨_,rfl⟩ (.cons ⟨_,rfl⟩ (.cons ⟨_,rfl⟩ (.nil)))))⟩⟩
 have e:=hfa.symm.trans (T.G 25)
 have e:fa=f85:=by injection e with e;injection e
 subst e
 refine ⟨d85,?_,fun base _ _=>(yAo T).imp (yAp T)⟩
 obtain ⟨_,_,_,_,_,_,_,_,_,e,_⟩:=(FF 85).F.ex
 have e:d85=_:=e
 subst e
 exact fun s v=>.of_eq rfl
theorem walk {l:PySem.W.OpenLaw}{q:Program}{loose:List Str}{XP:(Str->Option Value)->Heap->Prop}{YP:World->Heap->Prop}{d:DefRec}{K:Params->PySem.W.Frag}(hn:l.most=some 63) (hdf:d.params.defaults=[])
  (hY:∀ (w:World) (h:Heap),YP w h->(K w.params).In h)
  (F:∀ (w:World) (mg:Str->Option Value) (fa:Addr) (h:Heap),(K w.params).In h->h.Ns mainGlobals mg->mg d.name=some (.ref fa) ->
   ∃ fd:FuncData,(∀ (s:Shared) (u:Value),BindsTo s fd ⟨[u],[]⟩ [("_law_script",u)])/\∀ base:Heap,(K w.params).In base->base.Ns mainGlobals mg->FnOk l.prog w (K w.params) mg base CX0 52 fa fd ["_law_script"] (yto (K w.params))) :
  PySem.W.WalkO q loose XP YP l.row.toRowW d [] (fun f vs=>PySem.call f vs) :=
 L2.walk_of (n:=63) (k:=52) (x:="_law_script") (CX:=fun _=>CX0) (sp:=fun w=>yto (K w.params)) hn (by decide) hdf ⟨rfl,by decide,by decide⟩ hY F (fun _ _ a ns hl _ hS=>⟨a,ns,rfl,hS,hl,fun _=>rfl⟩) fun _ _ _ _ _ z=>z
end My
local macro_rules | `(tactic| walk_at "ka")=>`(tactic| first|exact True.intro|k_is|decide|((first|refine And.intro ?_ ?_|refine' L2.Cls.mk ?_ ?_ ?_ ?_|refine' My.TyR.mk ?_ ?_ ?_|refine' My.NS2.mk ?_ ?_)<;>walk_at "ka"))
local macro_rules | `(tactic| walk_at "kr")=>`(tactic| first|exact True.intro|(refine And.intro ?_ ?_<;>walk_at "kr")|walk_at "kx")
local macro_rules | `(tactic| walk_at "kx")=>`(tactic| first|(refine' L2.Meth.mk ?a ?b ?c;(case a=>k_is);(case b=>k_is);(case c=>k_is))|(refine' L2.Mk.mk ?a ?b ?c ?d;(case a=>k_is);(case b=>k_is);(case c=>k_is);(case d=>k_is))|(unfold L2.NoAttr;k_is)|(unfold My.Ns1;k_is)|k_is|(dsimp only;k_is))
local macro_rules | `(tactic| walk_at "kf")=>`(tactic| first|exact True.intro|(refine' And.intro (My.FB.of (L2.fun_mk ?a ?b ?c) ?d) ?e;(case a=>k_is);(case b=>k_is);(case c=>k_is);(case d=>first|exact L2.Binds.all (My.ml1 fun _=>rfl)|exact L2.Binds.all (My.ml2 fun _ _=>rfl)|exact L2.Binds.all (My.ml3 fun _ _ _=>rfl)|exact L2.Binds.all (My.ml4 fun _ _ _ _=>rfl)|exact L2.Binds.all (My.ml5 fun _ _ _ _ _=>rfl));(case e=>walk_at "kf")))
local macro_rules | `(tactic| walk_at "k4")=>`(tactic| (refine' ⟨?a,?b,?c,?d⟩;(case a=>k_is);(case b=>k_is);(case c=>k_is);(case d=>k_is)))
open PySem PySem.W PyProof.Rows
set_option maxRecDepth 100000 in
set_option maxHeartbeats 0 in
theorem PySem.Challenge.cw_retryhall_k27_slots_and_saw_on_the_way_holds : PySem.Challenge.rw_retryhall_k27_slots_and_saw_on_the_way.Holds := by
 refine hD_ ?_
 k_fill
 refine My.walk (l:=PySem.Challenge.rw_retryhall_k27_slots_and_saw_on_the_way) rfl rfl (fun w h Y=>Y) ?F
 case F =>
  intro w mg fa h KX G hmg
  refine' My.all_mk KX G hmg ?hC ?cl ?hK ?mk0 ?io0 ?kp0 ?mk9 ?io9 ?kp9 ?hM ?cf13 ?hG ?hF ?hN ?ty ?sb ?hn ?htk ?hZ ?q1 ?q2 ?q3 ?q4 ?q5 ?q6 ?q7 ?q8 ?q9 ?qk9
  (case hC=>walk_at "kr")
  (case cl=>walk_at "ka")
  (case hK=>walk_at "kr")
  (case mk0=>k_is)
  (case io0=>k_is)
  (case kp0=>k_is)
  (case mk9=>k_is)
  (case io9=>k_is)
  (case kp9=>k_is)
  (case hM=>walk_at "kr")
  (case cf13=>walk_at "k4")
  (case hG=>walk_at "kr")
  (case hF=>walk_at "kf")
  (case hN=>walk_at "kr")
  (case ty=>walk_at "ka")
  (case sb=>walk_at "ka")
  (case hn=>k_is)
  (case htk=>k_is)
  (case hZ=>walk_at "kr")
  (case q1=>k_is)
  (case q2=>k_is)
  (case q3=>k_is)
  (case q4=>k_is)
  (case q5=>k_is)
  (case q6=>k_is)
  (case q7=>k_is)
  (case q8=>k_is)
  (case q9=>k_is)
  (case qk9=>k_is)
